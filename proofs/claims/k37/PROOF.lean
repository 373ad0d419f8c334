import PyProof.Rows.All
import Wide.All
import OpenK.AllK
import Wide.FinOn
import Lean
import PyProof.EqAt
import PyProof.EqKinds
import PyProof.TupleCall
import PySem.Spec
import PyProof.NeKinds
import KE.KDictList
import KE.KPairComp
import PyProof.DictWalks
import PyProof.FString5
import PyProof.StrLawsIn
import PyProof.Rows.SetFrom
import KE.KEqDict
import PyProof.Rows.DictMethods
import PySem.Challenge.RW_holdwright_k37_papers_refute
set_option Elab.async false
set_option linter.all false
set_option maxRecDepth 100000
namespace L2
open PySem PySem.Spec PyProof.Rows
abbrev Key := Sum Int Str
def keyIs : Key → Value → Bool
  | .inl k, v => Value.isInt k v
  | .inr x, v => Value.isStrOf x v
def keyH (w : World) : Key → Int
  | .inl k => hashInt k
  | .inr x => hashStr w x
theorem keyIs_shape : ∀ {k : Key} {v : Value}, keyIs k v = true → (∃ i t, k = Sum.inl i ∧ v = Value.int i t) ∨ (∃ x t, k = Sum.inr x ∧ v = Value.str x t)
  | .inl i, v, h => by
    obtain ⟨t, e⟩ := Value.isInt_shape (k := i) (v := v) h
    exact .inl ⟨i, t, rfl, e⟩
  | .inr x, v, h => by
    obtain ⟨t, e⟩ := Value.isStrOf_shape (x := x) (v := v) h
    exact .inr ⟨x, t, rfl, e⟩
theorem keyIs_int (i : Int) (t : Tok) : keyIs (.inl i) (.int i t) = true := by simp [keyIs, Value.isInt]
theorem keyIs_str (x : Str) (t : Tok) : keyIs (.inr x) (.str x t) = true := by simp [keyIs, Value.isStrOf]
theorem key_ll (a b : Int) : decide ((Sum.inl a : Key) = Sum.inl b) = (a == b) := by
  by_cases e : a = b
  · subst e; simp
  · have h : ¬ (Sum.inl a : Key) = Sum.inl b := fun q => e (Sum.inl.inj q)
    rw [decide_eq_false h]
    exact (beq_eq_false_iff_ne.mpr e).symm
theorem key_rr (a b : Str) : decide ((Sum.inr a : Key) = Sum.inr b) = decide (a = b) := by
  by_cases e : a = b
  · subst e; simp
  · have h : ¬ (Sum.inr a : Key) = Sum.inr b := fun q => e (Sum.inr.inj q)
    rw [decide_eq_false h, decide_eq_false e]
theorem key_lr (a : Int) (b : Str) : decide ((Sum.inl a : Key) = Sum.inr b) = false := decide_eq_false (fun q => nomatch q)
theorem key_rl (a : Str) (b : Int) : decide ((Sum.inr a : Key) = Sum.inl b) = false := decide_eq_false (fun q => nomatch q)
def mixKind (prog : Program) (w : World) : PySem.KeyKind prog w Key where
  is := keyIs
  hash := keyH w
  inj := fun v a b ha hb => by
    rcases keyIs_shape ha with ⟨i, t, rfl, rfl⟩ | ⟨x, t, rfl, rfl⟩
    · rcases keyIs_shape hb with ⟨j, u, rfl, e⟩ | ⟨y, u, rfl, e⟩
      · injection e with e1 _; rw [e1]
      · exact nomatch e
    · rcases keyIs_shape hb with ⟨j, u, rfl, e⟩ | ⟨y, u, rfl, e⟩
      · exact nomatch e
      · injection e with e1 _; rw [e1]
  byValue := fun k v h => by
    rcases keyIs_shape h with ⟨i, t, rfl, rfl⟩ | ⟨x, t, rfl, rfl⟩ <;> rfl
  pyHash := fun hv h => by
    rcases keyIs_shape hv with ⟨i, t, rfl, rfl⟩ | ⟨x, t, rfl, rfl⟩
    · exact wpAny_pyHash_int h
    · exact wpAny_pyHash_str h
  eqBool := fun hu hv h => by
    rcases keyIs_shape hu with ⟨i, t, rfl, rfl⟩ | ⟨x, t, rfl, rfl⟩
    · rcases keyIs_shape hv with ⟨j, u, rfl, rfl⟩ | ⟨y, u, rfl, rfl⟩
      · rw [key_ll] at h; exact wpAny_eqBool_int h
      · rw [key_lr] at h; exact SeqAt.EqAt.int_str i t y u _ _ _ _ h
    · rcases keyIs_shape hv with ⟨j, u, rfl, rfl⟩ | ⟨y, u, rfl, rfl⟩
      · rw [key_rl] at h; exact SeqAt.EqAt.str_int x t j u _ _ _ _ h
      · rw [key_rr] at h; exact wpAny_eqBool_str h
  «strs» := fun k x t v h => by
    rcases keyIs_shape h with ⟨i, u, rfl, e⟩ | ⟨y, u, rfl, e⟩
    · exact nomatch e
    · injection e with e1 _
      subst e1
      cases v <;> rfl
theorem mixKind_int (prog : Program) (w : World) (i : Int) (t : Tok) : (mixKind prog w).is (.inl i) (.int i t) = true := keyIs_int i t
theorem mixKind_str (prog : Program) (w : World) (x : Str) (t : Tok) : (mixKind prog w).is (.inr x) (.str x t) = true := keyIs_str x t
end L2
namespace L2
open PySem PySem.Spec PyProof.Rows
inductive V where
  | non | bl (b : Bool) | int (i : Int) | str (x : Str) | byt (b : Array UInt8) | flt (b : UInt64) | ref (a : Addr) | ty (n : String)
  deriving DecidableEq
def RelV : V → Value → Prop
  | .non, u => u = Value.none
  | .bl b, u => u = Value.bool b
  | .int i, u => ∃ t, u = Value.int i t
  | .str x, u => ∃ t, u = Value.str x t
  | .byt b, u => ∃ t, u = Value.bytes b t
  | .flt b, u => ∃ t, u = Value.float b t
  | .ref a, u => u = Value.ref a
  | .ty n, u => u = Value.type n
abbrev Vals : List V → List Value → Prop := Paired RelV
theorem Vals.length {xs : List V} {us : List Value} (r : Vals xs us) : xs.length = us.length := Paired.length r
theorem Vals.get : ∀ {xs : List V} {us : List Value} {i : Nat} {x : V}, Vals xs us → xs[i]? = some x → ∃ u, us[i]? = some u ∧ RelV x u
  | _, _, _, _, .nil, e => by simp at e
  | _, _, 0, _, .cons r _, e => by simp at e; subst e; exact ⟨_, rfl, r⟩
  | _, _, i + 1, x, .cons _ t, e => by
    obtain ⟨u, h1, h2⟩ := Vals.get (i := i) (x := x) t (by simpa using e)
    exact ⟨u, by simpa using h1, h2⟩
theorem Vals.set {x : V} {u : Value} (r : RelV x u) : ∀ {xs : List V} {us : List Value} (i : Nat), Vals xs us → Vals (xs.set i x) (us.set i u)
  | _, _, _, .nil => .nil
  | _, _, 0, .cons _ t => .cons r t
  | _, _, i + 1, .cons q t => .cons q (Vals.set r i t)
theorem Vals.append : ∀ {xs ys : List V} {us ws : List Value}, Vals xs us → Vals ys ws → Vals (xs ++ ys) (us ++ ws)
  | _, _, _, _, .nil, s => s
  | _, _, _, _, .cons r t, s => .cons r (Vals.append t s)
theorem Vals.take : ∀ {xs : List V} {us : List Value} (n : Nat), Vals xs us → Vals (xs.take n) (us.take n)
  | _, _, 0, _ => .nil
  | _, _, _ + 1, .nil => .nil
  | _, _, n + 1, .cons r t => .cons r (Vals.take n t)
theorem Vals.drop : ∀ {xs : List V} {us : List Value} (n : Nat), Vals xs us → Vals (xs.drop n) (us.drop n)
  | _, _, 0, r => r
  | _, _, _ + 1, .nil => .nil
  | _, _, n + 1, .cons _ t => Vals.drop n t
def RelO : Option V → Option Value → Prop
  | some v, some u => RelV v u
  | none, none => True
  | _, _ => False
def KV {κ : Type} : List (κ × V) → List (κ × Value) → Prop := Paired fun (p : κ × V) (q : κ × Value) => p.1 = q.1 ∧ RelV p.2 q.2
def kV : Key → V
  | .inl i => .int i
  | .inr x => .str x
inductive HO where
  | lst (xs : List V)
  | tup (xs : List V)
  | dK (kvs : List (Key × V)) | dT (kvs : List (List Key × V))
  | set (S : Int → Bool) (n : Nat)
  | ins (C dx : Addr) (fs : List (Str × V))
  | own (x : Addr)
  | xd (fs : List (Str × V))
  | met (f x : Addr)
  | rng (lo hi : Int)
  | frz (o : Obj) (u : HO)
  | tbl (ps : Array Value)
  | ext (φ : Heap → Prop)
abbrev Hp := Addr → Option HO
def upd (H : Hp) (a : Addr) (o : HO) : Hp := fun b => if b = a then some o else H b
theorem upd_same {H : Hp} {a : Addr} {o : HO} : upd H a o a = some o := by unfold upd; rw [if_pos rfl]
theorem upd_ne {H : Hp} {a b : Addr} {o : HO} (h : b ≠ a) : upd H a o b = H b := by unfold upd; rw [if_neg h]
theorem upd_upd {H : Hp} {a : Addr} {o u : HO} : upd (upd H a o) a u = upd H a u := by
  funext b; unfold upd; split <;> rfl
theorem ne_of {H : Hp} {a b : Addr} {o u : HO} (h : H a = some o) (h' : H b = some u) (d : o ≠ u) : a ≠ b := by
  intro e; subst e; rw [h] at h'; exact d (Option.some.inj h')
theorem ne_of_none {H : Hp} {a b : Addr} {o : HO} (h : H a = some o) (h' : H b = none) : a ≠ b := by
  intro e; subst e; rw [h] at h'; cases h'
section
variable (P : Program) (w : World)
def ObjOk (H : Hp) (h : Heap) (a : Addr) : HO → Prop
  | .lst xs => xs.length ≤ sizeLine ∧ ∃ (its : List Value) (n : Nat), Vals xs its ∧ h.get? a = some { cls := .type "list", data := .seq its.toArray n }
  | .tup xs => xs.length ≤ sizeLine ∧ ∃ its : List Value, Vals xs its ∧ IsTup h a its.toArray
  | .dK kvs => kvs.length ≤ sizeLine ∧ (a == sysModules) = false ∧ ∃ vs, KV kvs vs ∧ h.DictOf (mixKind P w) a vs
  | .dT kvs => kvs.length ≤ sizeLine ∧ (a == sysModules) = false ∧ ∃ xs : List (List Key × Addr × Value),
      Paired (fun (p : List Key × V) (q : List Key × Addr × Value) => p.1 = q.1 ∧ H q.2.1 = some (.tup (p.1.map kV)) ∧ RelV p.2 q.2.2) kvs xs ∧
      ∃ o es ep, h.get? a = some o ∧ o.ExactDict ∧ o.data = .dict es ep ∧ es.toList = xs.map (entryOfKey (tupleKind (mixKind P w))) ∧ (xs.map (·.1)).Nodup
  | .set S n => h.SetOf (intKind P w) a S n
  | .ins C dx fs => H dx = some (.own a) ∧ fs.length ≤ 1000 ∧ dx ≠ a ∧ h.get? a = some (PySem.W.instObj C dx) ∧
      ∃ mA, h.Ns1 dx mA ∧ (∀ f, RelO (fs.lookup f) (mA f)) ∧ PySem.Within mA (fs.map (·.1))
  | .own _ => ∃ o, h.get? a = some o
  | .xd fs => ∃ mA, h.Ns1 a mA ∧ ∀ f, RelO (fs.lookup f) (mA f)
  | .rng lo hi => ∃ t u v, h.get? a = some { cls := .type "range", data := .fields #[.int lo t, .int hi u, .int 1 v] }
  | .frz o u => h.get? a = some o ∧ ObjOk H h a u
  | .tbl ps => h.get? a = some { cls := .none, data := .fields ps }
  | .met f x => h.get? a = some (PySem.W.methodObj (.ref f) (.ref x))
  | .ext φ => φ h ∧ (∃ o, h.get? a = some o) ∧ ∀ h1 h2 : Heap, φ h1 → (∀ o, h1.get? a = some o → h2.get? a = some o) → φ h2
def HOk (H : Hp) (h : Heap) : Prop := ∀ a o, H a = some o → ObjOk P w H h a o
end
section
variable {P : Program} {w : World} {H H' : Hp} {h h' : Heap} {a : Addr} {o : HO}
theorem ObjOk.lt (x : ObjOk P w H h a o) : a < h.objs.size := by
  cases o with
  | lst xs => obtain ⟨_, _, _, _, e⟩ := x; exact Heap.lt_size e
  | tup xs => obtain ⟨_, _, _, p⟩ := x; exact p.lt
  | dK kvs => obtain ⟨_, _, _, _, o, _, _, e, _⟩ := x; exact Heap.lt_size e
  | dT kvs => obtain ⟨_, _, _, _, o, _, _, e, _⟩ := x; exact Heap.lt_size e
  | set S n => obtain ⟨o, _, _, _, e, _⟩ := x; exact Heap.lt_size e
  | ins C dx fs => obtain ⟨_, _, _, e, _⟩ := x; exact Heap.lt_size e
  | own y => obtain ⟨_, e⟩ := x; exact Heap.lt_size e
  | xd fs => obtain ⟨_, ⟨_, _, _, e, _⟩, _⟩ := x; exact Heap.lt_size e
  | rng lo hi => obtain ⟨_, _, _, e⟩ := x; exact Heap.lt_size e
  | frz ob u => obtain ⟨e, _⟩ := x; exact Heap.lt_size e
  | tbl ps => exact Heap.lt_size (show h.get? a = some _ from x)
  | met f y => exact Heap.lt_size (show h.get? a = some _ from x)
  | ext φ => obtain ⟨_, ⟨_, e⟩, _⟩ := x; exact Heap.lt_size e
theorem Paired.mapP {α β : Type} {F G : α → β → Prop} : ∀ {l₁ : List α} {l₂ : List β}, Paired F l₁ l₂ → (∀ a b, F a b → G a b) → Paired G l₁ l₂
  | _, _, .nil, _ => .nil
  | _, _, .cons r t, f => .cons (f _ _ r) (Paired.mapP t f)
theorem ObjOk.stay (x : ObjOk P w H h a o) (k : ∀ b u, (b = a ∨ H b = some (.own a)) → h.get? b = some u → h'.get? b = some u)
    (ho : ∀ b, H b = some (.own a) → H' b = some (.own a)) (ht : ∀ b xs, H b = some (.tup xs) → H' b = some (.tup xs)) : ObjOk P w H' h' a o := by
  induction o with
  | lst xs => obtain ⟨z, its, n, r, e⟩ := x; exact ⟨z, its, n, r, k _ _ (.inl rfl) e⟩
  | tup xs => obtain ⟨z, its, r, ob, e, c⟩ := x; exact ⟨z, its, r, ob, k _ _ (.inl rfl) e, c⟩
  | dK kvs => obtain ⟨z, y, vs, r, ob, es, ep, e, c⟩ := x; exact ⟨z, y, vs, r, ob, es, ep, k _ _ (.inl rfl) e, c⟩
  | dT kvs =>
    obtain ⟨z, y, xs, r, ob, es, ep, e, c⟩ := x
    exact ⟨z, y, xs, Paired.mapP r fun p q z => ⟨z.1, ht _ _ z.2.1, z.2.2⟩, ob, es, ep, k _ _ (.inl rfl) e, c⟩
  | set S n => obtain ⟨ob, es, ep, t, e, c⟩ := x; exact ⟨ob, es, ep, t, k _ _ (.inl rfl) e, c⟩
  | ins C dx fs =>
    obtain ⟨d, z, ne, e, mA, ⟨od, es, ep, e2, c⟩, r⟩ := x
    exact ⟨ho _ d, z, ne, k _ _ (.inl rfl) e, mA, ⟨od, es, ep, k _ _ (.inr d) e2, c⟩, r⟩
  | own y => obtain ⟨ob, e⟩ := x; exact ⟨ob, k _ _ (.inl rfl) e⟩
  | xd fs => obtain ⟨mA, ⟨od, es, ep, e, c⟩, r⟩ := x; exact ⟨mA, ⟨od, es, ep, k _ _ (.inl rfl) e, c⟩, r⟩
  | rng lo hi => obtain ⟨t, u, v, e⟩ := x; exact ⟨t, u, v, k _ _ (.inl rfl) e⟩
  | frz ob u ih => obtain ⟨e, q⟩ := x; exact ⟨k _ _ (.inl rfl) e, ih q⟩
  | tbl ps =>
    have e : h.get? a = some { cls := .none, data := .fields ps } := x
    show h'.get? a = some { cls := .none, data := .fields ps }
    exact k a _ (.inl rfl) e
  | met f y =>
    have e : h.get? a = some (PySem.W.methodObj (.ref f) (.ref y)) := x
    show h'.get? a = some (PySem.W.methodObj (.ref f) (.ref y))
    exact k a _ (.inl rfl) e
  | ext φ => obtain ⟨p, ⟨o, e⟩, st⟩ := x; exact ⟨st _ _ p fun o q => k _ _ (.inl rfl) q, ⟨o, k _ _ (.inl rfl) e⟩, st⟩
theorem HOk.lt (x : HOk P w H h) (e : H a = some o) : a < h.objs.size := (x a o e).lt
theorem HOk.fresh (x : HOk P w H h) (e : h.objs.size ≤ a) : H a = none := by
  cases q : H a with
  | none => rfl
  | some u => exact absurd (Nat.lt_of_lt_of_le (x.lt q) e) (Nat.lt_irrefl _)
theorem HOk.kept (x : HOk P w H h) (k : ∀ b u, h.get? b = some u → h'.get? b = some u) : HOk P w H h' := fun a o e =>
  (x a o e).stay (fun b u _ q => k b u q) (fun _ q => q) fun _ _ q => q
theorem HOk.laid (x : HOk P w H h) (k : ∀ b u, h.get? b = some u → h'.get? b = some u) (hp : h.objs.size ≤ a) (new : ObjOk P w (upd H a o) h' a o) : HOk P w (upd H a o) h' := fun b u e => by
  have hn := x.fresh hp
  by_cases hb : b = a
  · subst hb; rw [upd_same] at e; cases e; exact new
  · rw [upd_ne hb] at e
    exact (x b u e).stay (fun c v _ q => k c v q) (fun c q => by rw [upd_ne (ne_of_none q hn)]; exact q) fun c xs q => by rw [upd_ne (ne_of_none q hn)]; exact q
end
def Rd (H : Hp) (a : Addr) (u : HO) : Prop := H a = some u ∨ ∃ o, H a = some (.frz o u)
theorem Rd.ok {P : Program} {w : World} {H : Hp} {h : Heap} {a : Addr} {u : HO} (r : Rd H a u) (x : HOk P w H h) : ObjOk P w H h a u := by
  rcases r with r | ⟨o, r⟩
  · exact x a u r
  · obtain ⟨_, q⟩ := x a _ r
    exact q
def Mut : Option HO → Prop
  | some (.lst _) => True
  | some (.dK _) => True
  | some (.dT _) => True
  | some (.set _ _) => True
  | some (.ins _ _ _) => True
  | some (.ext _) => True
  | _ => False
section
variable {P : Program} {w : World} {H : Hp} {h h' : Heap} {x e : Addr} {o' : HO}
theorem HOk.write (ok : HOk P w H h) (mu : Mut (H x)) (he : e = x ∨ H e = some (.own x)) (k : ∀ b u, b ≠ e → h.get? b = some u → h'.get? b = some u) (heo : ∃ u, h'.get? e = some u)
    (new : ObjOk P w (upd H x o') h' x o') : HOk P w (upd H x o') h' := fun b u q => by
  have nown : ∀ c y, H c = some (.own y) → c ≠ x := fun c y r z => by subst z; rw [r] at mu; exact mu
  have ntup : ∀ c xs, H c = some (.tup xs) → c ≠ x := fun c xs r z => by subst z; rw [r] at mu; exact mu
  by_cases hb : b = x
  · subst hb; rw [upd_same] at q; cases q; exact new
  · rw [upd_ne hb] at q
    by_cases hbe : b = e
    · have q' : H b = some (.own x) := by
        rcases he with z | z
        · exact absurd (hbe.trans z) hb
        · rw [hbe]; exact z
      rw [q] at q'; cases q'
      obtain ⟨v, hv⟩ := heo
      exact ⟨v, by rw [hbe]; exact hv⟩
    · refine (ok b u q).stay (fun c v hc r => k c v ?_ r) (fun c r => by rw [upd_ne (nown c b r)]; exact r) fun c xs r => by rw [upd_ne (ntup c xs r)]; exact r
      rcases hc with rfl | hc
      · exact hbe
      · rintro rfl
        rcases he with z | z
        · exact nown c b hc z
        · rw [hc] at z; cases z; exact hb rfl
end
structure Un (fs ex : List Addr) (H H' : Hp) (h h' : Heap) : Prop where
  keep : ∀ b o, h.get? b = some o → H b = none → b ∉ fs → b ∉ ex → h'.get? b = some o
  slot : ∀ b o, h.get? b = some o → H b = none → b ∈ fs → b ∉ ex → ∃ sl, h'.get? b = some { o with slots := sl }
  free : ∀ b o, h.get? b = some o → H b = none → b ∉ ex → H' b = none
  there : ∀ b o, h.get? b = some o → b ∉ ex → ∃ o', h'.get? b = some o'
  tups : ∀ b xs, H b = some (.tup xs) → H' b = some (.tup xs)
  frzs : ∀ b o u, H b = some (.frz o u) → H' b = some (.frz o u)
  tbls : ∀ b ps, H b = some (.tbl ps) → ∃ more, H' b = some (.tbl (ps ++ more))
section
variable {fs fs' ex ex' : List Addr} {H H1 H2 : Hp} {h h1 h2 h' : Heap} {a x e : Addr} {o : HO}
theorem Un.any (u : Un fs ex H H1 h h1) {b : Addr} {ob : Obj} (q : h.get? b = some ob) (n : H b = none) (hx : b ∉ ex) : ∃ sl, h1.get? b = some { ob with slots := sl } := by
  by_cases hb : b ∈ fs
  · exact u.slot b ob q n hb hx
  · exact ⟨ob.slots, u.keep b ob q n hb hx⟩
theorem Un.kept (k : ∀ b u, h.get? b = some u → h'.get? b = some u) : Un fs ex H H h h' :=
  ⟨fun b ob q _ _ _ => k b ob q, fun b ob q _ _ _ => ⟨ob.slots, k b ob q⟩, fun _ _ _ n _ => n, fun b ob q _ => ⟨ob, k b ob q⟩, fun _ _ q => q, fun _ _ _ q => q, fun _ ps q => ⟨#[], by rw [q]; simp⟩⟩
theorem Un.refl : Un fs ex H H h h := Un.kept fun _ _ q => q
theorem Un.laid (k : ∀ b u, h.get? b = some u → h'.get? b = some u) (hp : h.objs.size ≤ a) (hn : H a = none) : Un fs ex H (upd H a o) h h' where
  keep := fun b u q _ _ _ => k b u q
  slot := fun b u q _ _ _ => ⟨u.slots, k b u q⟩
  free := fun b u q n _ => by rw [upd_ne (Nat.ne_of_lt (Nat.lt_of_lt_of_le (Heap.lt_size q) hp))]; exact n
  there := fun b u q _ => ⟨u, k b u q⟩
  tups := fun b xs q => by rw [upd_ne (ne_of_none q hn)]; exact q
  frzs := fun b u xs q => by rw [upd_ne (ne_of_none q hn)]; exact q
  tbls := fun b ps q => ⟨#[], by rw [upd_ne (ne_of_none q hn), q]; simp⟩
theorem Un.write (mu : Mut (H x)) (he : e = x ∨ H e = some (.own x)) (k : ∀ b u, b ≠ e → h.get? b = some u → h'.get? b = some u) (heo : ∃ u, h'.get? e = some u) : Un fs ex H (upd H x o) h h' := by
  have hx : ∀ b, H b = none → b ≠ x := fun b n z => by subst z; rw [n] at mu; exact mu
  have hb : ∀ b, H b = none → b ≠ e := fun b n z => by
    subst z
    rcases he with r | r
    · exact hx b n r
    · rw [n] at r; cases r
  have hm : ∀ b u, H b = some u → ¬ Mut (some u) → b ≠ x := fun b u q nm z => by subst z; rw [q] at mu; exact nm mu
  refine ⟨fun b u q n _ _ => k b u (hb b n) q, fun b u q n _ _ => ⟨u.slots, k b u (hb b n) q⟩, fun b u q n _ => by rw [upd_ne (hx b n)]; exact n, fun b u q _ => ?_,
    fun b xs q => by rw [upd_ne (hm b _ q fun z => z)]; exact q, fun b u xs q => by rw [upd_ne (hm b _ q fun z => z)]; exact q, fun b ps q => ⟨#[], by rw [upd_ne (hm b _ q fun z => z), q]; simp⟩⟩
  by_cases hbe : b = e
  · subst hbe; exact heo
  · exact ⟨u, k b u hbe q⟩
end
def trk (h : Heap) (H : Hp) : List Addr := (List.range h.objs.size).filter fun a => (H a).isSome
def hidT (h : Heap) (H : Hp) : Heap := PySem.W.hideAll h (trk h H)
theorem hidT_size (h : Heap) (H : Hp) : (hidT h H).objs.size = h.objs.size := PySem.W.hideAll_size _ _
theorem hidT_get {h : Heap} {H : Hp} {b : Addr} {o : Obj} (e : h.get? b = some o) (n : H b = none) : (hidT h H).get? b = some o :=
  PySem.W.hideAll_get _ e fun hm => by
    have q : (H b).isSome = true := (List.mem_filter.mp hm).2
    rw [n] at q; simp at q
theorem of_hidT {h : Heap} {H : Hp} {b : Addr} {o : Obj} (e : (hidT h H).get? b = some o) : h.get? b = some o ∧ H b = none := by
  have e' : h.get? b = some o := PySem.W.of_hideAll (trk h H) e
  refine ⟨e', ?_⟩
  cases q : H b with
  | none => rfl
  | some x =>
    have hm : b ∈ trk h H := List.mem_filter.mpr ⟨List.mem_range.mpr (Heap.lt_size e'), by simp [q]⟩
    have z : (hidT h H).get? b = none := PySem.W.hideAll_none (trk h H) hm
    rw [z] at e; cases e
def allNews (g h : Heap) (L : Addr) : List (Addr × Obj) := (List.range h.objs.size).filterMap fun a => if a = L ∨ (g.get? a).isSome = true then none else (h.get? a).map fun o => (a, o)
def rest (g h : Heap) (L d : Addr) : List (Addr × Obj) := (allNews g h L).filter fun p => decide (p.1 ≠ d)
end L2
namespace L2
open PySem PySem.Spec PyProof.Rows
structure Mod (K : PySem.W.Frag) (mg : Str → Option Value) (base : Heap) : Prop where
  kin : K.In base
  glob : base.Ns mainGlobals mg
  blt : ∃ mb, base.Ns builtinsNs mb ∧ ∀ x : Str, x ≠ "__name__" → mb x = bootBuiltins x
  nolimit : base.NoLimit
structure Cx where
  prog : Program
  w : World
  K : PySem.W.Frag
  mg : Str → Option Value
  base : Heap
  A : Around
  N : List Str
  s₀ : Shared
  H₀ : Hp
  env : Env
  outer : List Env
  stack : List Env
  ex : List Addr
  fn : Str → Bool
  calm : Bool
  pn : List (Addr × Obj)
  xe : Value → Shared → Prop
def frs (l : List Env) : List Addr := l.filterMap (·.frame)
abbrev Cx.fs (X : Cx) : List Addr := frs X.outer
def Vis (sc : Scope) (x : Str) : Prop := sc.names.lookup x = some .local ∨ sc.names.lookup x = some .cell ∨ sc.names.lookup x = some .free
def Loc (sc : Scope) (x : Str) : Prop := sc.names.lookup x = some .local ∨ sc.names.lookup x = some .cell
def Look (env : Env) (h : Heap) (m : Str → Option Value) (x : Str) (u : Value) : Prop :=
  (env.kindOf x = some .local ∧ m x = some u) ∨ ((env.kindOf x = some .cell ∨ env.kindOf x = some .free) ∧ ∃ c, env.cells.lookup x = some c ∧ h.IsCell c (some u))
structure Cx.Ok (X : Cx) : Prop where
  mod : Mod X.K X.mg X.base
  kind : X.env.scope.kind = .function
  glob : X.env.globals = mainGlobals
  blt : X.env.builtins = builtinsNs
  above : X.s₀.heap.objs.size ≤ X.env.locals
  inj : ∀ x y c, X.env.cells.lookup x = some c → X.env.cells.lookup y = some c → x = y
  has : ∀ x, (X.env.kindOf x = some .cell ∨ X.env.kindOf x = some .free) → ∃ c, X.env.cells.lookup x = some c
  cab : ∀ x c, X.fn x = true → X.env.cells.lookup x = some c → X.s₀.heap.objs.size ≤ c
  hd : X.calm = true → X.A.handled = none
  frames : X.A.frames = some X.stack
  stk : X.stack = X.outer ∨ (X.stack = X.env :: X.outer ∧ X.env.frame = some X.env.locals)
  exf : ∀ b ∈ X.ex, b ≠ X.env.locals ∧ ∀ x c, X.env.cells.lookup x = some c → c ≠ b
  bs : ∀ b o, X.base.get? b = some o → X.s₀.heap.get? b = some o ∧ X.H₀ b = none
  bsz : X.base.objs.size ≤ X.s₀.heap.objs.size
  noex : ∀ b o, X.base.get? b = some o → b ∉ X.ex
  exfs : ∀ b ∈ X.ex, b ∉ X.fs
  funs : X.s₀.heap.FunFrames X.base X.outer
  frf : ∀ b ∈ X.fs, X.H₀ b = none
structure Inv (X : Cx) (pins : List (Addr × Obj)) (σ : List (Option V)) (H : Hp) (s : Shared) : Prop where
  ok : X.Ok
  os : s.os = X.s₀.os
  bare : AllBare s.gens
  base : Un X.fs X.ex X.H₀ H X.s₀.heap s.heap
  loc : ∃ m, s.heap.Ns X.env.locals m ∧ ∀ (i : Nat) (x : Str) (v : V), X.N[i]? = some x → σ[i]? = some (some v) → Vis X.env.scope x → ∃ u, RelV v u ∧ Look X.env s.heap m x u
  cell : ∀ x c, X.env.cells.lookup x = some c → ∃ v, s.heap.IsCell c v
  free : H X.env.locals = none
  freeC : ∀ x c, X.env.cells.lookup x = some c → H c = none
  pin : ∀ p ∈ X.pn ++ pins, s.heap.get? p.1 = some p.2 ∧ H p.1 = none ∧ p.1 ≠ X.env.locals ∧ p.1 ∉ X.fs ∧ ∀ v, p.2.data ≠ .cell v
  hok : HOk X.prog X.w H s.heap
  len : σ.length = X.N.length
section
variable {X : Cx} {pins : List (Addr × Obj)} {σ : List (Option V)} {H H' : Hp} {s : Shared} {h' : Heap}
theorem Cx.Ok.nofr (ok : X.Ok) {b : Addr} {o : Obj} (e : X.base.get? b = some o) : b ∉ X.fs := fun hb => by
  have := (ok.funs.mem hb).1
  rw [e] at this; cases this
theorem Inv.bs (I : Inv X pins σ H s) : ∀ b o, X.base.get? b = some o → s.heap.get? b = some o ∧ H b = none := fun b o e =>
  ⟨I.base.keep b o (I.ok.bs b o e).1 (I.ok.bs b o e).2 (I.ok.nofr e) (I.ok.noex b o e), I.base.free b o (I.ok.bs b o e).1 (I.ok.bs b o e).2 (I.ok.noex b o e)⟩
theorem Inv.bk (I : Inv X pins σ H s) : ∀ b o, X.base.get? b = some o → s.heap.get? b = some o := fun b o e => (I.bs b o e).1
theorem Inv.mod (I : Inv X pins σ H s) : Mod X.K X.mg X.base := I.ok.mod
theorem Inv.kIn (I : Inv X pins σ H s) : X.K.In s.heap := I.ok.mod.kin.keeps I.bk
theorem Inv.lt (I : Inv X pins σ H s) : X.env.locals < s.heap.objs.size := let ⟨_, hn, _⟩ := I.loc; hn.lt
theorem Inv.sz (I : Inv X pins σ H s) : X.s₀.heap.objs.size ≤ s.heap.objs.size := Nat.le_trans I.ok.above (Nat.le_of_lt I.lt)
theorem Inv.nofs (I : Inv X pins σ H s) {a : Addr} (h : s.heap.objs.size ≤ a) : a ∉ X.fs := fun hb => by
  obtain ⟨_, o, ho, _⟩ := I.ok.funs.mem hb
  exact absurd (Nat.lt_of_lt_of_le (Heap.lt_size ho) (Nat.le_trans I.sz h)) (Nat.lt_irrefl _)
theorem Inv.cne (I : Inv X pins σ H s) : ∀ x c, X.env.cells.lookup x = some c → c ≠ X.env.locals := fun x c e z => by
  obtain ⟨v, o, ho, hd⟩ := I.cell x c e
  obtain ⟨m, ⟨o', es, ep, ho', hd', _⟩, _⟩ := I.loc
  rw [z, ho'] at ho; cases ho; rw [hd'] at hd; cases hd
theorem Inv.funs (I : Inv X pins σ H s) : s.heap.FunFrames X.base X.outer := by
  have all : ∀ (l : List Env), (∀ b ∈ frs l, b ∈ X.fs) → X.s₀.heap.FunFrames X.base l → s.heap.FunFrames X.base l := by
    intro l
    induction l with
    | nil => intro _ _; trivial
    | cons env r ih =>
      intro hs hl
      obtain ⟨hk, ⟨L, o, hf, hn, ho, hd⟩, hr⟩ := hl
      have hL : L ∈ X.fs := hs L (by unfold frs; rw [List.filterMap_cons, hf]; exact List.mem_cons_self)
      obtain ⟨sl, e⟩ := I.base.slot L o ho (I.ok.frf L hL) hL fun z => I.ok.exfs L z hL
      exact ⟨hk, ⟨L, _, hf, hn, e, hd⟩, ih (fun b hb => hs b (by unfold frs; rw [List.filterMap_cons, hf]; exact List.mem_cons_of_mem _ hb)) hr⟩
  exact all X.outer (fun _ hb => hb) I.ok.funs
theorem Inv.stack (I : Inv X pins σ H s) : s.heap.FunFrames X.base X.stack := by
  rcases I.ok.stk with e | ⟨e, hf⟩
  · rw [e]; exact I.funs
  · rw [e]
    obtain ⟨m, hn, _⟩ := I.loc
    refine .cons (by rw [I.ok.kind]; decide) hf hn ?_ I.funs
    exact Heap.get?_none_of_le (Nat.le_trans I.ok.bsz I.ok.above)
theorem Inv.stkSub (I : Inv X pins σ H s) : ∀ b ∈ frs X.stack, b ∈ X.env.locals :: X.fs := fun b hb => by
  rcases I.ok.stk with e | ⟨e, hf⟩
  · rw [e] at hb; exact List.mem_cons_of_mem _ hb
  · rw [e] at hb
    unfold frs at hb
    rw [List.filterMap_cons, hf] at hb
    exact hb
theorem Inv.stkFree (I : Inv X pins σ H s) : ∀ b ∈ frs X.stack, H b = none := fun b hb => by
  rcases List.mem_cons.mp (I.stkSub b hb) with e | hb
  · rw [e]; exact I.free
  · obtain ⟨_, o, ho, _⟩ := I.ok.funs.mem hb
    exact I.base.free b o ho (I.ok.frf b hb) fun z => I.ok.exfs b z hb
theorem Inv.step {g' : Array GenState} {t' : Nat} {d' : Drawn} {ch : List Addr} (I : Inv X pins σ H s)
    (hch : ∀ b ∈ ch, (b ∈ X.ex ∨ X.s₀.heap.objs.size ≤ b) ∧ b ≠ X.env.locals ∧ (∀ x c, X.env.cells.lookup x = some c → c ≠ b) ∧ ∀ p ∈ X.pn ++ pins, p.1 ≠ b)
    (keep : ∀ b o, b ≠ X.env.locals → b ∉ X.fs → b ∉ ch → s.heap.get? b = some o → H b = none → h'.get? b = some o)
    (slot : ∀ b o, b ≠ X.env.locals → b ∈ X.fs → b ∉ ch → s.heap.get? b = some o → H b = none → ∃ sl, h'.get? b = some { o with slots := sl }) (free : ∀ b o, b ∉ ch → s.heap.get? b = some o → H b = none → H' b = none)
    (there : ∀ b o, b ∉ ch → s.heap.get? b = some o → ∃ o', h'.get? b = some o')
    (tups : ∀ b xs, H b = some (.tup xs) → H' b = some (.tup xs)) (frzs : ∀ b o u, H b = some (.frz o u) → H' b = some (.frz o u)) (tbls : ∀ b ps, H b = some (.tbl ps) → ∃ more, H' b = some (.tbl (ps ++ more)))
    (ns : ∀ m, s.heap.Ns X.env.locals m → h'.Ns X.env.locals m) (hok : HOk X.prog X.w H' h') (hg : AllBare g') :
    Inv X pins σ H' { s with heap := h', gens := g', drawn := d', toks := t' } := by
  have neL : ∀ b o, X.s₀.heap.get? b = some o → b ≠ X.env.locals := fun b o e => Nat.ne_of_lt (Nat.lt_of_lt_of_le (Heap.lt_size e) I.ok.above)
  have neC : ∀ b o, X.s₀.heap.get? b = some o → b ∉ X.ex → b ∉ ch := fun b o e hx hb => by
    rcases (hch b hb).1 with z | z
    · exact hx z
    · exact absurd (Nat.lt_of_lt_of_le (Heap.lt_size e) z) (Nat.lt_irrefl _)
  have cellK : ∀ x c, X.env.cells.lookup x = some c → ∀ v, s.heap.IsCell c v → h'.IsCell c v := fun x c e v ⟨o, ho, hd⟩ => by
    have nch : c ∉ ch := fun z => (hch c z).2.2.1 x c e rfl
    by_cases hc : c ∈ X.fs
    · obtain ⟨sl, q⟩ := slot c o (I.cne x c e) hc nch ho (I.freeC x c e)
      exact ⟨_, q, hd⟩
    · exact ⟨o, keep c o (I.cne x c e) hc nch ho (I.freeC x c e), hd⟩
  refine ⟨I.ok, I.os, hg, ⟨fun b o e n hb hx => ?_, fun b o e n hb hx => ?_, fun b o e n hx => ?_, fun b o e hx => ?_, fun b xs e => tups b xs (I.base.tups b xs e), fun b o xs e => frzs b o xs (I.base.frzs b o xs e), fun b ps e => ?_⟩, ?_, fun x c e => ?_, ?_, fun x c e => ?_, fun p hp => ?_, hok, I.len⟩
  · exact keep b o (neL b o e) hb (neC b o e hx) (I.base.keep b o e n hb hx) (I.base.free b o e n hx)
  · obtain ⟨sl, e1⟩ := I.base.slot b o e n hb hx
    obtain ⟨sl', e2⟩ := slot b _ (neL b o e) hb (neC b o e hx) e1 (I.base.free b o e n hx)
    exact ⟨sl', e2⟩
  · obtain ⟨o', e1⟩ := I.base.there b o e hx
    exact free b o' (neC b o e hx) e1 (I.base.free b o e n hx)
  · obtain ⟨o', e1⟩ := I.base.there b o e hx
    exact there b o' (neC b o e hx) e1
  · obtain ⟨m1, e1⟩ := I.base.tbls b ps e
    obtain ⟨m2, e2⟩ := tbls b _ e1
    exact ⟨m1 ++ m2, by rw [e2, Array.append_assoc]⟩
  · obtain ⟨m, hn, hl⟩ := I.loc
    refine ⟨m, ns m hn, fun i x v e1 e2 e3 => ?_⟩
    obtain ⟨u, r, l⟩ := hl i x v e1 e2 e3
    refine ⟨u, r, ?_⟩
    rcases l with l | ⟨k, c, e, z⟩
    · exact .inl l
    · exact .inr ⟨k, c, e, cellK x c e _ z⟩
  · obtain ⟨v, z⟩ := I.cell x c e
    exact ⟨v, cellK x c e v z⟩
  · obtain ⟨m, ⟨o, _, _, ho, _⟩, _⟩ := I.loc
    exact free _ o (fun z => (hch _ z).2.1 rfl) ho I.free
  · obtain ⟨v, o, ho, hd⟩ := I.cell x c e
    exact free c o (fun z => (hch c z).2.2.1 x c e rfl) ho (I.freeC x c e)
  · obtain ⟨e, n, ne, nf, d⟩ := I.pin p hp
    have nch : p.1 ∉ ch := fun z => (hch p.1 z).2.2.2 p hp rfl
    exact ⟨keep p.1 p.2 ne nf nch e n, free p.1 p.2 nch e n, ne, nf, d⟩
theorem Inv.un {t' : Nat} (I : Inv X pins σ H s) (u : Un X.fs [] H H' s.heap h') (hok : HOk X.prog X.w H' h') : Inv X pins σ H' { s with heap := h', toks := t' } := by
  obtain ⟨m, ⟨o, es, ep, ho, r⟩, _⟩ := id I.loc
  obtain ⟨sl, hL⟩ := u.any ho I.free (by simp)
  exact I.step (g' := s.gens) (d' := s.drawn) (ch := []) (fun _ z => nomatch z) (fun b o _ hb _ e n => u.keep b o e n hb (by simp)) (fun b o _ hb _ e n => u.slot b o e n hb (by simp)) (fun b o _ e n => u.free b o e n (by simp)) (fun b o _ e => u.there b o e (by simp)) u.tups u.frzs u.tbls (fun m' hm => by
    obtain ⟨o', es', ep', ho', r'⟩ := hm
    rw [ho] at ho'; cases ho'
    exact ⟨_, es', ep', hL, r'⟩) hok I.bare
theorem Inv.call {g' : Array GenState} {t' : Nat} {d' : Drawn} {ch : List Addr} (I : Inv X pins σ H s) (u : Un (frs X.stack) ch H H' s.heap h') (hok : HOk X.prog X.w H' h') (hg : AllBare g')
    (hch : ∀ b ∈ ch, (b ∈ X.ex ∨ X.s₀.heap.objs.size ≤ b) ∧ b ≠ X.env.locals ∧ (∀ x c, X.env.cells.lookup x = some c → c ≠ b) ∧ ∀ p ∈ X.pn ++ pins, p.1 ≠ b) :
    Inv X pins σ H' { s with heap := h', gens := g', drawn := d', toks := t' } := by
  obtain ⟨m, ⟨o, es, ep, ho, r⟩, _⟩ := id I.loc
  obtain ⟨sl, hL⟩ := u.any ho I.free fun z => (hch _ z).2.1 rfl
  exact I.step (ch := ch) hch (fun b o hL hb hc e n => u.keep b o e n (fun z => (List.mem_cons.mp (I.stkSub b z)).elim hL hb) hc) (fun b o _ _ hc e n => u.any e n hc) (fun b o hc e n => u.free b o e n hc) (fun b o hc e => u.there b o e hc) u.tups u.frzs u.tbls (fun m' hm => by
    obtain ⟨o', es', ep', ho', r'⟩ := hm
    rw [ho] at ho'; cases ho'
    exact ⟨_, es', ep', hL, r'⟩) hok hg
theorem Inv.turned {t' : Nat} {it : Addr} (I : Inv X pins σ H s) (k : ∀ b o, b ≠ it → s.heap.get? b = some o → h'.get? b = some o) (hn : H it = none) (hL : it ≠ X.env.locals)
    (h1 : it ∈ X.ex ∨ X.s₀.heap.objs.size ≤ it) (h2 : ∀ x c, X.env.cells.lookup x = some c → c ≠ it) (h3 : ∀ p ∈ X.pn ++ pins, p.1 ≠ it) : Inv X pins σ H { s with heap := h', toks := t' } := by
  have nit : ∀ b u, H b = some u → b ≠ it := fun b u e z => by rw [z, hn] at e; cases e
  refine I.step (g' := s.gens) (d' := s.drawn) (ch := [it]) (fun b hb => ?_) (fun b o _ _ hc e _ => k b o (fun z => hc (by simp [z])) e) (fun b o _ _ hc e _ => ⟨o.slots, k b o (fun z => hc (by simp [z])) e⟩) (fun _ _ _ _ n => n)
    (fun b o hc e => ⟨o, k b o (fun z => hc (by simp [z])) e⟩) (fun _ _ e => e) (fun _ _ _ e => e) (fun b ps e => ⟨#[], by rw [e]; simp⟩) (fun m hm => ?_) (fun b u e => ?_) I.bare
  · have e : b = it := by simpa using hb
    subst e
    exact ⟨h1, hL, h2, h3⟩
  · obtain ⟨o, es, ep, ho, r⟩ := hm
    exact ⟨o, es, ep, k _ o (Ne.symm hL) ho, r⟩
  · refine (I.hok b u e).stay (fun c v hc q => k c v ?_ q) (fun _ q => q) fun _ _ q => q
    rcases hc with z | z
    · rw [z]; exact nit b u e
    · exact nit c _ z
theorem Inv.tok (I : Inv X pins σ H s) (t : Nat) : Inv X pins σ H { s with toks := t } := I.un (h' := s.heap) (t' := t) Un.refl I.hok
theorem Inv.kept {t' : Nat} (I : Inv X pins σ H s) (k : ∀ b u, s.heap.get? b = some u → h'.get? b = some u) : Inv X pins σ H { s with heap := h', toks := t' } := I.un (Un.kept k) (I.hok.kept k)
theorem Inv.laid {a : Addr} {o : HO} {t' : Nat} (I : Inv X pins σ H s) (k : ∀ b u, s.heap.get? b = some u → h'.get? b = some u) (hp : s.heap.objs.size ≤ a) (new : ObjOk X.prog X.w (upd H a o) h' a o) :
    Inv X pins σ (upd H a o) { s with heap := h', toks := t' } := I.un (Un.laid k hp (I.hok.fresh hp)) (I.hok.laid k hp new)
theorem Inv.write {x e : Addr} {o : HO} {t' : Nat} (I : Inv X pins σ H s) (mu : Mut (H x)) (he : e = x ∨ H e = some (.own x)) (k : ∀ b u, b ≠ e → s.heap.get? b = some u → h'.get? b = some u) (heo : ∃ u, h'.get? e = some u)
    (new : ObjOk X.prog X.w (upd H x o) h' x o) : Inv X pins σ (upd H x o) { s with heap := h', toks := t' } := I.un (Un.write mu he k heo) (I.hok.write mu he k heo new)
theorem Inv.weak {σ' : List (Option V)} (I : Inv X pins σ H s) (hl : σ'.length = σ.length) (w : ∀ (i : Nat) v, σ'[i]? = some (some v) → σ[i]? = some (some v)) : Inv X pins σ' H s :=
  ⟨I.ok, I.os, I.bare, I.base, let ⟨m, hn, hl'⟩ := I.loc; ⟨m, hn, fun i x v e1 e2 e3 => hl' i x v e1 (w i v e2) e3⟩, I.cell, I.free, I.freeC, I.pin, I.hok, hl.trans I.len⟩
theorem Inv.pins_of {pins' : List (Addr × Obj)} (I : Inv X pins σ H s) (h : ∀ p ∈ pins', s.heap.get? p.1 = some p.2 ∧ H p.1 = none ∧ p.1 ≠ X.env.locals ∧ p.1 ∉ X.fs ∧ ∀ v, p.2.data ≠ .cell v) : Inv X pins' σ H s :=
  ⟨I.ok, I.os, I.bare, I.base, I.loc, I.cell, I.free, I.freeC, fun p hp => (List.mem_append.mp hp).elim (fun z => I.pin p (List.mem_append_left _ z)) (h p), I.hok, I.len⟩
theorem nodup_ix {N : List Str} (hN : N.Nodup) {i j : Nat} {x : Str} (a : N[i]? = some x) (b : N[j]? = some x) : i = j := by
  obtain ⟨h1, e1⟩ := List.getElem?_eq_some_iff.mp a
  obtain ⟨h2, e2⟩ := List.getElem?_eq_some_iff.mp b
  exact (List.getElem_inj hN).mp (e1.trans e2.symm)
theorem store_ok2 {M : Model} {A : Around} {E : Value → Shared → Prop} {i : Nat} {x : Str} {v : V} {u : Value} {Q : Unit → Shared → Prop} (I : Inv X pins σ H s) (hN : X.N.Nodup) (hi : X.N[i]? = some x) (hx : Loc X.env.scope x) (r : RelV v u)
    (h : ∀ s', Inv X pins (σ.set i (some v)) H s' → (∃ a, Heap.SameBut a s.heap s'.heap ∧ (a = X.env.locals ∨ X.env.cells.lookup x = some a)) → Q () s') (hf : X.fn x = true ∨ X.env.scope.names.lookup x = some .local := by first | exact .inl rfl | exact .inr rfl | assumption) : wpAny M A (storeName X.env x u) Q E s := by
  obtain ⟨m, hn, hl⟩ := id I.loc
  have hcls : (X.env.scope.kind == .class || (X.env.scope.kind == .module && X.env.locals != X.env.globals)) = false := by rw [I.ok.kind]; rfl
  have hiσ : i < σ.length := by rw [I.len]; exact (List.getElem?_eq_some_iff.mp hi).1
  have cne := I.cne
  have tracked : ∀ {a : Addr} {h' : Heap}, (∃ o, s.heap.get? a = some o ∧ H a = none) → Heap.SameBut a s.heap h' → HOk X.prog X.w H h' := fun {a h'} ha hs b ob e => by
    obtain ⟨_, _, hfree⟩ := ha
    refine (I.hok b ob e).stay (fun c w' hc q => (hs.2 c ?_).trans q) (fun _ q => q) fun _ _ q => q
    rintro rfl
    rcases hc with rfl | hc
    · rw [hfree] at e; cases e
    · rw [hfree] at hc; cases hc
  rcases hx with hk | hk
  · refine wpAny_storeName_local hk hn (fun h' hn' hs => ?_) hcls
    obtain ⟨oL, _, _, hoL, _⟩ := id hn
    refine h _ ⟨I.ok, I.os, I.bare, ⟨fun b o e n hb hx => ?_, fun b o e n hb hx => ?_, I.base.free, fun b o e hx => ?_, I.base.tups, I.base.frzs, I.base.tbls⟩, ⟨_, hn', fun j y v' e1 e2 e3 => ?_⟩, fun y c e => ?_, I.free, I.freeC, fun p hp => ?_, tracked ⟨oL, hoL, I.free⟩ hs, by simpa using I.len⟩ ⟨_, hs, .inl rfl⟩
    · exact (hs.2 b (Nat.ne_of_lt (Nat.lt_of_lt_of_le (Heap.lt_size e) I.ok.above))).trans (I.base.keep b o e n hb hx)
    · obtain ⟨sl, e1⟩ := I.base.slot b o e n hb hx
      exact ⟨sl, (hs.2 b (Nat.ne_of_lt (Nat.lt_of_lt_of_le (Heap.lt_size e) I.ok.above))).trans e1⟩
    · obtain ⟨o', e1⟩ := I.base.there b o e hx
      exact ⟨o', (hs.2 b (Nat.ne_of_lt (Nat.lt_of_lt_of_le (Heap.lt_size e) I.ok.above))).trans e1⟩
    · by_cases hj : j = i
      · subst hj
        rw [hi] at e1; cases e1
        rw [List.getElem?_set_self hiσ] at e2
        cases e2
        exact ⟨u, r, .inl ⟨hk, by simp⟩⟩
      · rw [List.getElem?_set_ne (Ne.symm hj)] at e2
        obtain ⟨u', r', q⟩ := hl j y v' e1 e2 e3
        refine ⟨u', r', ?_⟩
        rcases q with ⟨k, e⟩ | ⟨k, c, e, z⟩
        · refine .inl ⟨k, ?_⟩
          have : y ≠ x := fun e => hj (nodup_ix hN e1 (e ▸ hi))
          simp [this, e]
        · exact .inr ⟨k, c, e, z.sameBut hs (cne y c e)⟩
    · obtain ⟨w', z⟩ := I.cell y c e
      exact ⟨w', z.sameBut hs (cne y c e)⟩
    · obtain ⟨e, n, ne, nf, d⟩ := I.pin p hp
      exact ⟨(hs.2 p.1 ne).trans e, n, ne, nf, d⟩
  · have hfn : X.fn x = true := by
      rcases hf with z | z
      · exact z
      · rw [z] at hk; cases hk
    obtain ⟨c, hc⟩ := I.ok.has x (.inl hk)
    obtain ⟨w', z⟩ := I.cell x c hc
    refine wpAny_storeName_cell I.ok.kind hk hc z (fun h' hc' hs => ?_)
    obtain ⟨oc, hoc, hocd⟩ := id z
    refine h { s with heap := h' } ⟨I.ok, I.os, I.bare, ⟨fun b o e n hb hx => ?_, fun b o e n hb hx => ?_, I.base.free, fun b o e hx => ?_, I.base.tups, I.base.frzs, I.base.tbls⟩, ⟨m, hn.sameBut hs (Ne.symm (cne x c hc)), fun j y v' e1 e2 e3 => ?_⟩, fun y c' e => ?_, I.free, I.freeC, fun p hp => ?_, tracked ⟨oc, hoc, I.freeC x c hc⟩ hs, by simpa using I.len⟩ ⟨c, hs, .inr hc⟩
    · exact (hs.2 b (Nat.ne_of_lt (Nat.lt_of_lt_of_le (Heap.lt_size e) (I.ok.cab x c hfn hc)))).trans (I.base.keep b o e n hb hx)
    · obtain ⟨sl, e1⟩ := I.base.slot b o e n hb hx
      exact ⟨sl, (hs.2 b (Nat.ne_of_lt (Nat.lt_of_lt_of_le (Heap.lt_size e) (I.ok.cab x c hfn hc)))).trans e1⟩
    · obtain ⟨o', e1⟩ := I.base.there b o e hx
      exact ⟨o', (hs.2 b (Nat.ne_of_lt (Nat.lt_of_lt_of_le (Heap.lt_size e) (I.ok.cab x c hfn hc)))).trans e1⟩
    · by_cases hj : j = i
      · subst hj
        rw [hi] at e1; cases e1
        rw [List.getElem?_set_self hiσ] at e2
        cases e2
        exact ⟨u, r, .inr ⟨.inl hk, c, hc, hc'⟩⟩
      · rw [List.getElem?_set_ne (Ne.symm hj)] at e2
        obtain ⟨u', r', q⟩ := hl j y v' e1 e2 e3
        refine ⟨u', r', ?_⟩
        rcases q with q | ⟨k, c', e, z'⟩
        · exact .inl q
        · refine .inr ⟨k, c', e, z'.sameBut hs ?_⟩
          rintro rfl
          exact hj (nodup_ix hN e1 (I.ok.inj _ _ _ e hc ▸ hi))
    · by_cases hcc : c' = c
      · subst hcc; exact ⟨_, hc'⟩
      · obtain ⟨w2, z2⟩ := I.cell y c' e
        exact ⟨w2, z2.sameBut hs hcc⟩
    · obtain ⟨e, n, ne, nf, d⟩ := I.pin p hp
      refine ⟨(hs.2 p.1 ?_).trans e, n, ne, nf, d⟩
      intro q
      rw [q, hoc] at e
      have q' : oc = p.2 := Option.some.inj e
      exact d w' (by rw [← q']; exact hocd)
theorem store_ok {M : Model} {A : Around} {E : Value → Shared → Prop} {i : Nat} {x : Str} {v : V} {u : Value} {Q : Unit → Shared → Prop} (I : Inv X pins σ H s) (hN : X.N.Nodup) (hi : X.N[i]? = some x) (hx : Loc X.env.scope x) (r : RelV v u)
    (h : ∀ s', Inv X pins (σ.set i (some v)) H s' → Q () s') (hf : X.fn x = true ∨ X.env.scope.names.lookup x = some .local := by first | exact .inl rfl | exact .inr rfl | assumption) : wpAny M A (storeName X.env x u) Q E s :=
  store_ok2 I hN hi hx r (fun s' I' _ => h s' I') hf
theorem Inv.call' {s' : Shared} {ch : List Addr} (I : Inv X pins σ H s) (ho : s'.os = s.os) (u : Un (frs X.stack) ch H H' s.heap s'.heap) (hok : HOk X.prog X.w H' s'.heap) (hg : AllBare s'.gens)
    (hch : ∀ b ∈ ch, (b ∈ X.ex ∨ X.s₀.heap.objs.size ≤ b) ∧ b ≠ X.env.locals ∧ (∀ x c, X.env.cells.lookup x = some c → c ≠ b) ∧ ∀ p ∈ X.pn ++ pins, p.1 ≠ b) : Inv X pins σ H' s' := by
  obtain ⟨h', g', d', t', o'⟩ := s'
  have e : o' = s.os := ho
  subst e
  exact I.call (g' := g') (t' := t') (d' := d') u hok hg hch
end
abbrev XK := Value → Option Addr → Hp → Prop
abbrev St := List (Option V)
abbrev VK := V → Hp → Prop
abbrev TE := St → Hp → VK → Prop
abbrev TT := St → Hp → (Bool → Hp → Prop) → Prop
abbrev TA := St → Hp → (List V → Hp → Prop) → Prop
structure Ends where
  nx : St → Hp → Prop
  rt : VK
  bk : St → Hp → Prop := fun _ _ => False
  ct : St → Hp → Prop := fun _ _ => False
abbrev TS := Ends → St → Hp → Prop
def EP (X : Cx) (pins : List (Addr × Obj)) (σ : St) (Q : VK) (u : Value) (s' : Shared) : Prop := ∃ v H', Inv X pins σ H' s' ∧ RelV v u ∧ Q v H'
def TP (X : Cx) (pins : List (Addr × Obj)) (σ : St) (Q : Bool → Hp → Prop) (b : Bool) (s' : Shared) : Prop := ∃ H', Inv X pins σ H' s' ∧ Q b H'
def AP (X : Cx) (pins : List (Addr × Obj)) (σ : St) (Q : List V → Hp → Prop) (us : List Value) (s' : Shared) : Prop := ∃ vs H', Inv X pins σ H' s' ∧ Vals vs us ∧ Q vs H'
def SP (X : Cx) (pins : List (Addr × Obj)) (D : Ends) (f : Flow) (s' : Shared) : Prop :=
  match f with
  | .next => ∃ σ' H', Inv X pins σ' H' s' ∧ D.nx σ' H'
  | .brk => ∃ σ' H', Inv X pins σ' H' s' ∧ D.bk σ' H'
  | .cont => ∃ σ' H', Inv X pins σ' H' s' ∧ D.ct σ' H'
  | .ret u => ∃ v σ' H', Inv X pins σ' H' s' ∧ RelV v u ∧ D.rt v H'
def PE (X : Cx) (e : Expr) (t : TE) : Prop :=
  ∀ (pins : List (Addr × Obj)) (s : Shared) (σ : St) (H : Hp) (Q : VK), Inv X pins σ H s → t σ H Q → wpAny (model X.prog X.w) X.A (eval e X.env) (EP X pins σ Q) X.xe s
def PT (X : Cx) (e : Expr) (t : TT) : Prop :=
  ∀ (pins : List (Addr × Obj)) (s : Shared) (σ : St) (H : Hp) (Q : Bool → Hp → Prop), Inv X pins σ H s → t σ H Q → wpAny (model X.prog X.w) X.A (isTrue e X.env (eval e X.env)) (TP X pins σ Q) X.xe s
def PW (X : Cx) (e : Expr) (t : TT) : Prop :=
  ∀ (whole : Sem Value) (pins : List (Addr × Obj)) (s : Shared) (σ : St) (H : Hp) (Q : Bool → Hp → Prop), Inv X pins σ H s → t σ H Q → wpAny (model X.prog X.w) X.A (isTrue e X.env whole) (TP X pins σ Q) X.xe s
theorem PW.pt {X : Cx} {e : Expr} {t : TT} (h : PW X e t) : PT X e t := h _
def PA (X : Cx) (es : List Expr) (t : TA) : Prop :=
  ∀ (pos : Pos) (pins : List (Addr × Obj)) (s : Shared) (σ : St) (H : Hp) (Q : List V → Hp → Prop), Inv X pins σ H s → t σ H Q → wpAny (model X.prog X.w) X.A (spliced (backTo pos (starEach es X.env))) (AP X pins σ Q) X.xe s
def PS (X : Cx) (st : Stmt) (t : TS) : Prop :=
  ∀ (pins : List (Addr × Obj)) (s : Shared) (σ : St) (H : Hp) (D : Ends), Inv X pins σ H s → t D σ H → wpAny (model X.prog X.w) X.A (exec st X.env) (SP X pins D) X.xe s
def PSs (X : Cx) (st : List Stmt) (t : TS) : Prop :=
  ∀ (pins : List (Addr × Obj)) (s : Shared) (σ : St) (H : Hp) (D : Ends), Inv X pins σ H s → t D σ H → wpAny (model X.prog X.w) X.A (execs st X.env) (SP X pins D) X.xe s
theorem thn {α : Type} {t : Sem α} {Q Q' : α → Shared → Prop} {M : Model} {A : Around} {E : Value → Shared → Prop} {s : Shared} (h : wpAny M A t Q E s) (hQ : ∀ a s, Q a s → Q' a s) : wpAny M A t Q' E s := wpAny_mono h hQ fun _ _ x => x
end L2
namespace L2
open PySem PySem.Spec PyProof.Rows
section
variable {X : Cx}
def tVar (i : Nat) : TE := fun σ H Q => ∃ v, σ[i]? = some (some v) ∧ Q v H
def tC (v : V) : TE := fun _ H Q => Q v H
theorem pe_var {i : Nat} {x : Str} {pos : Pos} (hN : X.N[i]? = some x) (hv : Vis X.env.scope x) (hd : (x == ("__debug__" : Str)) = false := by decide) (hcd : (x == ("__classdict__" : Str)) = false := by decide) : PE X (.Name x pos) (tVar i) := by
  intro pins s σ H Q I h
  obtain ⟨v, e, h⟩ := h
  obtain ⟨m, hn, hl⟩ := I.loc
  obtain ⟨u, r, l⟩ := hl i x v hN e hv
  have fin : EP X pins σ Q u s := ⟨v, H, I, r, h⟩
  rcases l with ⟨hk, hm⟩ | ⟨hk, c, hc, hcell⟩
  · exact wpAny_Name (wpAny_loadName_local I.ok.kind hk hn hm fin) hd
  · rcases hk with hk | hk
    · exact wpAny_Name (wpAny_loadName_cell I.ok.kind hk hc hcell fin) hd
    · exact wpAny_Name (wpAny_loadName_free I.ok.kind hk hc hcell fin hcd) hd
theorem pe_int {i j pos} : PE X (.Constant (.int i) j pos) (tC (.int i)) := fun _ _ _ H _ I h => wpAny_Constant_int ⟨.int i, H, I.tok _, ⟨_, rfl⟩, h⟩
theorem pe_bl {b j pos} : PE X (.Constant (.bool b) j pos) (tC (.bl b)) := fun _ _ _ H _ I h => Constant_bool ⟨.bl b, H, I, rfl, h⟩
theorem pe_str {x j pos} : PE X (.Constant (.str x) j pos) (tC (.str x)) := fun _ _ _ H _ I h => Calls.Constant_str ⟨.str x, H, I.tok _, ⟨_, rfl⟩, h⟩
def Gl (X : Cx) (x : Str) : Prop := X.env.kindOf x = some .globalImplicit
theorem ld_glob {E : Value → Shared → Prop} {pins : List (Addr × Obj)} {s : Shared} {σ : St} {H : Hp} {x : Str} {u : Value} {pos : Pos} {Q : Value → Shared → Prop} (I : Inv X pins σ H s) (hg : Gl X x) (hm : X.mg x = some u) (h : Q u s)
    (hd : (x == ("__debug__" : Str)) = false := by decide) : wpAny (model X.prog X.w) X.A (eval (.Name x pos) X.env) Q E s :=
  Calls.Name_function_global I.ok.kind hg (Calls.loadGlobal_global (by rw [I.ok.glob]; exact I.mod.glob.keeps I.bk) hm h) hd
theorem ld_blt {E : Value → Shared → Prop} {pins : List (Addr × Obj)} {s : Shared} {σ : St} {H : Hp} {x : Str} {u : Value} {pos : Pos} {Q : Value → Shared → Prop} (I : Inv X pins σ H s) (hg : Gl X x) (hm : X.mg x = none) (hv : bootBuiltins x = some u) (h : Q u s)
    (hn : x ≠ "__name__" := by decide) (hd : (x == ("__debug__" : Str)) = false := by decide) : wpAny (model X.prog X.w) X.A (eval (.Name x pos) X.env) Q E s := by
  obtain ⟨mb, h1, h2⟩ := I.mod.blt
  exact Calls.Name_function_global I.ok.kind hg (Calls.loadGlobal_builtin (by rw [I.ok.glob]; exact I.mod.glob.keeps I.bk) hm (by rw [I.ok.blt]; exact h1.keeps I.bk) ((h2 x hn).trans hv) h) hd
theorem pe_glob {x : Str} {v : V} {u : Value} {pos : Pos} (hg : Gl X x) (hm : X.mg x = some u) (r : RelV v u) (hd : (x == ("__debug__" : Str)) = false := by decide) : PE X (.Name x pos) (tC v) :=
  fun _ _ _ H _ I h => ld_glob I hg hm ⟨v, H, I, r, h⟩ hd
theorem pe_bltn {x : Str} {v : V} {u : Value} {pos : Pos} (hg : Gl X x) (hm : X.mg x = none) (hv : bootBuiltins x = some u) (r : RelV v u) (hn : x ≠ "__name__" := by decide) (hd : (x == ("__debug__" : Str)) = false := by decide) : PE X (.Name x pos) (tC v) :=
  fun _ _ _ H _ I h => ld_blt I hg hm hv ⟨v, H, I, r, h⟩ hn hd
variable {a b : Expr} {ta tb : TE} {pos : Pos}
def tB (t : TE) : TT := fun σ H Q => t σ H fun x H1 => ∃ c, x = .bl c ∧ Q c H1
theorem pt_val {e : Expr} {t : TE} (h : PE X e t) (he : ∀ whole, isTrue e X.env whole = (do let v ← whole; standAt e.pos; holding [v] (truthy v)) := by intro _; rfl) : PT X e (tB t) := by
  intro pins s σ H Q I hw
  refine isTrue_plain (thn (h pins s σ H _ I hw) fun v s1 ⟨x, H1, I1, r1, q1⟩ => ?_) (he _)
  obtain ⟨d, rfl, q⟩ := q1
  cases r1
  exact wpAny_truthy_bool ⟨H1, I1, q⟩
variable {tA tB' : TT} {rest : List Expr}
def tAnd (t u : TT) : TT := fun σ H Q => t σ H fun c H1 => if c = true then u σ H1 Q else Q false H1
def tOr (t u : TT) : TT := fun σ H Q => t σ H fun c H1 => if c = true then Q true H1 else u σ H1 Q
def tNot (t : TT) : TT := fun σ H Q => t σ H fun c H1 => Q (!c) H1
theorem pw_and1 (ha : PT X a tA) : PW X (.BoolOp .And [a] pos) tA := by
  intro wh pins s σ H Q I h
  refine isTrue_and (thn (ha pins s σ H Q I h) fun c s1 e => ?_)
  cases c with
  | true => exact isTrue_and_nil e
  | false => exact e
theorem pw_or1 (ha : PT X a tA) : PW X (.BoolOp .Or [a] pos) tA := by
  intro wh pins s σ H Q I h
  refine isTrue_or (thn (ha pins s σ H Q I h) fun c s1 e => ?_)
  cases c with
  | false => exact isTrue_or_nil e
  | true => exact e
theorem pw_and (ha : PT X a tA) (hb : PW X (.BoolOp .And (b :: rest) pos) tB') : PW X (.BoolOp .And (a :: b :: rest) pos) (tAnd tA tB') := by
  intro wh pins s σ H Q I h
  refine isTrue_and (thn (ha pins s σ H _ I h) fun c s1 ⟨H1, I1, q1⟩ => ?_)
  cases c with
  | true => exact hb wh pins s1 σ H1 Q I1 q1
  | false => exact ⟨H1, I1, q1⟩
theorem pw_or (ha : PT X a tA) (hb : PW X (.BoolOp .Or (b :: rest) pos) tB') : PW X (.BoolOp .Or (a :: b :: rest) pos) (tOr tA tB') := by
  intro wh pins s σ H Q I h
  refine isTrue_or (thn (ha pins s σ H _ I h) fun c s1 ⟨H1, I1, q1⟩ => ?_)
  cases c with
  | true => exact ⟨H1, I1, q1⟩
  | false => exact hb wh pins s1 σ H1 Q I1 q1
theorem pt_not (ha : PT X a tA) : PT X (.UnaryOp .Not a pos) (tNot tA) := by
  intro pins s σ H Q I h
  exact isTrue_not (ha pins s σ H (fun c H1 => Q (!c) H1) I h)
def tAndV (ta tb : TE) : TE := fun σ H Q => ta σ H fun x H1 => ∃ c, x = .bl c ∧ if c = true then tb σ H1 Q else Q (.bl false) H1
def tNotV (ta : TE) : TE := fun σ H Q => ta σ H fun x H1 => ∃ c, x = .bl c ∧ Q (.bl (!c)) H1
theorem pe_one {op} {t : TE} (h : PE X a t) : PE X (.BoolOp op [a] pos) t := fun pins s σ H Q I hw => BoolOp_one (h pins s σ H Q I hw)
theorem pe_and (ha : PE X a ta) (hb : PE X (.BoolOp .And (b :: rest) pos) tb) : PE X (.BoolOp .And (a :: b :: rest) pos) (tAndV ta tb) := by
  intro pins s σ H Q I h
  refine BoolOp_and (thn (ha pins s σ H _ I h) fun v s1 ⟨x, H1, I1, r1, q1⟩ => ?_)
  obtain ⟨c, rfl, q1⟩ := q1
  cases r1
  refine wpAny_truthy_bool ?_
  cases c with
  | true => exact hb pins s1 σ H1 Q I1 q1
  | false => exact ⟨.bl false, H1, I1, rfl, q1⟩
theorem pe_not (ha : PE X a ta) : PE X (.UnaryOp .Not a pos) (tNotV ta) := by
  intro pins s σ H Q I h
  refine UnaryOp_ (thn (ha pins s σ H _ I h) fun v s1 ⟨x, H1, I1, r1, q1⟩ => ?_)
  obtain ⟨c, rfl, q1⟩ := q1
  cases r1
  exact not_of (wpAny_truthy_bool ⟨.bl (!c), H1, I1, rfl, q1⟩)
end
end L2
namespace L2
open PySem PySem.Spec PyProof.Rows
def SqL (K : PySem.W.Frag) (H : Hp) (a : Addr) (xs : List V) : Prop :=
  Rd H a (.lst xs) ∨
    ∃ (o : Obj) (its : Array Value) (n : Nat), K.lookup a = some o ∧ o.cls = .type "list" ∧ o.dict = none ∧ o.data = .seq its n ∧ its.size ≤ sizeLine ∧ Vals xs its.toList
def SqT (K : PySem.W.Frag) (H : Hp) (a : Addr) (xs : List V) : Prop :=
  Rd H a (.tup xs) ∨
    ∃ (o : Obj) (its : Array Value) (n : Nat), K.lookup a = some o ∧ o.cls = .type "tuple" ∧ o.data = .seq its n ∧ its.size ≤ sizeLine ∧ Vals xs its.toList
def absV : Value → Option V
  | .none => some .non
  | .bool b => some (.bl b)
  | .int i _ => some (.int i)
  | .str x _ => some (.str x)
  | .bytes b _ => some (.byt b)
  | .float b _ => some (.flt b)
  | .ref a => some (.ref a)
  | .type n => some (.ty n)
  | _ => none
theorem RelV.abs {x : V} {u : Value} (r : RelV x u) : absV u = some x := by
  cases x with
  | non => cases r; rfl
  | bl _ => cases r; rfl
  | int _ => obtain ⟨t, rfl⟩ := r; rfl
  | str _ => obtain ⟨t, rfl⟩ := r; rfl
  | byt _ => obtain ⟨t, rfl⟩ := r; rfl
  | flt _ => obtain ⟨t, rfl⟩ := r; rfl
  | ref _ => cases r; rfl
  | ty _ => cases r; rfl
theorem RelV.inj {x y : V} {u : Value} (r : RelV x u) (q : RelV y u) : x = y := Option.some.inj (r.abs.symm.trans q.abs)
theorem Vals.inj : ∀ {xs ys : List V} {us : List Value}, Vals xs us → Vals ys us → xs = ys
  | _, _, _, .nil, .nil => rfl
  | _, _, _, .cons r t, .cons r' t' => by rw [r.inj r', Vals.inj t t']
section
variable {X : Cx} {pins : List (Addr × Obj)} {σ : St} {H : Hp} {s : Shared} {a : Addr} {xs ys : List V}
theorem SqL.of {K : PySem.W.Frag} (h : H a = some (.lst xs)) : SqL K H a xs := .inl (.inl h)
theorem SqT.of {K : PySem.W.Frag} (h : H a = some (.tup xs)) : SqT K H a xs := .inl (.inl h)
theorem Inv.list (I : Inv X pins σ H s) (h : SqL X.K H a xs) : ∃ its : List Value, Vals xs its ∧ PlainL s.heap a its.toArray ∧ xs.length ≤ sizeLine := by
  rcases h with h | ⟨o, its, n, hk, hc, hd, hs, hz, r⟩
  · obtain ⟨z, its, n, r, e⟩ := h.ok I.hok
    exact ⟨its, r, ⟨_, n, e, rfl, rfl, rfl⟩, z⟩
  · refine ⟨its.toList, r, ⟨o, n, I.kIn a o hk, hc, hd, by simpa using hs⟩, ?_⟩
    have e := r.length
    simp only [Array.length_toList] at e
    omega
theorem Inv.tuple (I : Inv X pins σ H s) (h : SqT X.K H a xs) : ∃ its : List Value, Vals xs its ∧ IsTup s.heap a its.toArray ∧ xs.length ≤ sizeLine := by
  rcases h with h | ⟨o, its, n, hk, hc, hs, hz, r⟩
  · obtain ⟨z, its, r, p⟩ := h.ok I.hok
    exact ⟨its, r, p, z⟩
  · refine ⟨its.toList, r, ⟨o, I.kIn a o hk, hc, n, by simpa using hs⟩, ?_⟩
    have e := r.length
    simp only [Array.length_toList] at e
    omega
theorem Inv.list_inj (I : Inv X pins σ H s) (h : SqL X.K H a xs) (h' : SqL X.K H a ys) : xs = ys := by
  obtain ⟨its, r, ⟨o, n, e, _, _, d⟩, _⟩ := I.list h
  obtain ⟨its', r', ⟨o', n', e', _, _, d'⟩, _⟩ := I.list h'
  rw [e] at e'; cases e'
  rw [d] at d'
  injection d' with d1 _
  have : its = its' := by simpa using congrArg Array.toList d1
  subst this
  exact r.inj r'
theorem Inv.tuple_inj (I : Inv X pins σ H s) (h : SqT X.K H a xs) (h' : SqT X.K H a ys) : xs = ys := by
  obtain ⟨its, r, ⟨o, e, _, n, d⟩, _⟩ := I.tuple h
  obtain ⟨its', r', ⟨o', e', _, n', d'⟩, _⟩ := I.tuple h'
  rw [e] at e'; cases e'
  rw [d] at d'
  injection d' with d1 _
  have : its = its' := by simpa using congrArg Array.toList d1
  subst this
  exact r.inj r'
end
abbrev Cx.wish (X : Cx) (E : Value → Shared → Prop) : Cx := { X with xe := E }
abbrev Cx.nox (X : Cx) : Cx := X.wish fun _ _ => False
theorem Cx.Ok.wish {X : Cx} (ok : X.Ok) (E : Value → Shared → Prop) : (X.wish E).Ok :=
  ⟨ok.mod, ok.kind, ok.glob, ok.blt, ok.above, ok.inj, ok.has, ok.cab, ok.hd, ok.frames, ok.stk, ok.exf, ok.bs, ok.bsz, ok.noex, ok.exfs, ok.funs, ok.frf⟩
theorem Cx.Ok.unwish {X : Cx} {E : Value → Shared → Prop} (ok : (X.wish E).Ok) : X.Ok :=
  ⟨ok.mod, ok.kind, ok.glob, ok.blt, ok.above, ok.inj, ok.has, ok.cab, ok.hd, ok.frames, ok.stk, ok.exf, ok.bs, ok.bsz, ok.noex, ok.exfs, ok.funs, ok.frf⟩
section
variable {X : Cx} {pins : List (Addr × Obj)} {σ : St} {H : Hp} {s : Shared} {E : Value → Shared → Prop}
theorem Inv.wish (I : Inv X pins σ H s) (E : Value → Shared → Prop) : Inv (X.wish E) pins σ H s := ⟨I.ok.wish E, I.os, I.bare, I.base, I.loc, I.cell, I.free, I.freeC, I.pin, I.hok, I.len⟩
theorem Inv.unwish (I : Inv (X.wish E) pins σ H s) : Inv X pins σ H s := ⟨I.ok.unwish, I.os, I.bare, I.base, I.loc, I.cell, I.free, I.freeC, I.pin, I.hok, I.len⟩
theorem SP.unwish {D : Ends} {f : Flow} {s' : Shared} (h : SP (X.wish E) pins D f s') : SP X pins D f s' := by
  cases f with
  | next => obtain ⟨σ', H', I, q⟩ := h; exact ⟨σ', H', I.unwish, q⟩
  | brk => obtain ⟨σ', H', I, q⟩ := h; exact ⟨σ', H', I.unwish, q⟩
  | cont => obtain ⟨σ', H', I, q⟩ := h; exact ⟨σ', H', I.unwish, q⟩
  | ret u => obtain ⟨v, σ', H', I, r, q⟩ := h; exact ⟨v, σ', H', I.unwish, r, q⟩
theorem PSs.nox {st : List Stmt} {t : TS} (h : PSs X.nox st t) : PSs X st t := fun pins s σ H D I hw =>
  wpAny_mono (h pins s σ H D (I.wish _) hw) (fun _ _ q => q.unwish) fun _ _ z => False.elim z
end
section
variable {X : Cx} {st : Stmt} {rest : List Stmt} {t u : TS} {e : Expr} {te : TE} {pos : Pos}
def tNext : TS := fun D σ H => D.nx σ H
def tSeq (t u : TS) : TS := fun D σ H => t { D with nx := u D } σ H
theorem pss_nil : PSs X [] tNext := fun _ _ σ H _ I h => wpAny_execs_nil ⟨σ, H, I, h⟩
theorem pss_cons (h1 : PS X st t) (h2 : PSs X rest u) : PSs X (st :: rest) (tSeq t u) := by
  intro pins s σ H D I h
  refine wpAny_execs_cons (thn (h1 pins s σ H { D with nx := u D } I h) fun f s1 q => ?_)
  cases f with
  | next =>
    obtain ⟨σ', H', I', q⟩ := q
    exact h2 pins s1 σ' H' D I' q
  | ret v => exact q
  | brk => exact q
  | cont => exact q
theorem pss_one (h1 : PS X st t) : PSs X [st] t := by
  intro pins s σ H D I h
  refine wpAny_execs_cons (thn (h1 pins s σ H D I h) fun f s1 q => ?_)
  cases f with
  | next => exact wpAny_execs_nil q
  | ret v => exact q
  | brk => exact q
  | cont => exact q
theorem Inv.quiet {pins : List (Addr × Obj)} {σ : St} {H : Hp} {s : Shared} (I : Inv X pins σ H s) : interactive X.env = false := by simp [interactive, I.ok.kind]
def tDrop (te : TE) : TS := fun D σ H => te σ H fun _ H1 => D.nx σ H1
theorem ps_expr (he : PE X e te) (hs : swapsWith e none pos.line X.env = pure false := by rfl) : PS X (.Expr e pos) (tDrop te) := by
  intro pins s σ H D I h
  exact wpAny_Expr_any (thn (he pins s σ H _ I h) fun v s1 ⟨x, H1, I1, r1, q1⟩ => ⟨σ, H1, I1, q1⟩) I.quiet hs
def tRet (te : TE) : TS := fun D σ H => te σ H D.rt
theorem ps_ret (he : PE X e te) : PS X (.Return (some e) pos) (tRet te) := by
  intro pins s σ H D I h
  exact wpAny_Return_some (thn (he pins s σ H _ I h) fun v s1 ⟨x, H1, I1, r1, q1⟩ => ⟨x, σ, H1, I1, r1, q1⟩)
def tIfS (c : TT) (t u : TS) : TS := fun D σ H => c σ H fun b H1 => if b = true then t D σ H1 else u D σ H1
theorem ps_if {c : Expr} {a b : List Stmt} {tc : TT} (hc : PT X c tc) (ha : PSs X a t) (hb : PSs X b u) : PS X (.If c a b pos) (tIfS tc t u) := by
  intro pins s σ H D I h
  refine wpAny_If (thn (hc pins s σ H _ I h) fun d s1 ⟨H1, I1, q1⟩ => ?_)
  cases d with
  | true => exact ha pins s1 σ H1 D I1 q1
  | false => exact hb pins s1 σ H1 D I1 q1
end
abbrev TG := V → St → Hp → (St → Hp → Prop) → Prop
abbrev TGs := List V → St → Hp → (St → Hp → Prop) → Prop
def PG (X : Cx) (target : Expr) (t : TG) : Prop :=
  ∀ (pins : List (Addr × Obj)) (s : Shared) (σ : St) (H : Hp) (v : V) (u : Value) (Q : St → Hp → Prop), Inv X pins σ H s → RelV v u → t v σ H Q →
    wpAny (model X.prog X.w) X.A (assign target X.env u) (fun _ s' => ∃ σ' H', Inv X pins σ' H' s' ∧ Q σ' H') X.xe s
def PGs (X : Cx) (ts : List Expr) (t : TGs) : Prop :=
  ∀ (pins : List (Addr × Obj)) (s : Shared) (σ : St) (H : Hp) (vs : List V) (us : List Value) (Q : St → Hp → Prop), Inv X pins σ H s → Vals vs us → t vs σ H Q →
    wpAny (model X.prog X.w) X.A (assignInOrder ((assignEach ts X.env).map (·.2)) us) (fun _ s' => ∃ σ' H', Inv X pins σ' H' s' ∧ Q σ' H') X.xe s
abbrev TSet := V → V → V → Hp → (Hp → Prop) → Prop
def PSet (X : Cx) (t : TSet) : Prop :=
  ∀ (pins : List (Addr × Obj)) (s : Shared) (σ : St) (H : Hp) (o i v : V) (ov iv u : Value) (Q : Hp → Prop), Inv X pins σ H s → RelV o ov → RelV i iv → RelV v u → t o i v H Q →
    wpAny (model X.prog X.w) X.A (setItem ov iv u) (fun _ s' => ∃ H', Inv X pins σ H' s' ∧ Q H') X.xe s
abbrev TIp := V → V → Hp → VK → Prop
def PIp (X : Cx) (op : Operator) (t : TIp) : Prop :=
  ∀ (pins : List (Addr × Obj)) (s : Shared) (σ : St) (H : Hp) (x y : V) (v u : Value) (Q : VK), Inv X pins σ H s → RelV x v → RelV y u → t x y H Q →
    wpAny (model X.prog X.w) X.A (inplaceOp op v u) (EP X pins σ Q) X.xe s
section
variable {X : Cx} {pos : Pos}
def gName (i : Nat) : TG := fun v σ H Q => Q (σ.set i (some v)) H
theorem pg_name {i : Nat} {x : Str} (hN : X.N.Nodup) (hi : X.N[i]? = some x) (hx : Loc X.env.scope x) (hf : X.fn x = true ∨ X.env.scope.names.lookup x = some .local := by first | exact .inl rfl | exact .inr rfl | assumption) : PG X (.Name x pos) (gName i) := by
  intro pins s σ H v u Q I r h
  exact wpAny_assign_Name (store_ok I hN hi hx r (fun s' I' => ⟨_, H, I', h⟩) hf)
def gNil : TGs := fun vs σ H Q => vs = [] ∧ Q σ H
def gCons (t : TG) (u : TGs) : TGs := fun vs σ H Q => ∃ v r, vs = v :: r ∧ t v σ H fun σ' H' => u r σ' H' Q
theorem pgs_nil : PGs X [] gNil := by
  intro pins s σ H vs us Q I r h
  obtain ⟨e, h⟩ := h
  subst e
  cases r
  exact assignInOrder_nil ⟨σ, H, I, h⟩
theorem pgs_cons {e : Expr} {es : List Expr} {t : TG} {u : TGs} (h1 : PG X e t) (h2 : PGs X es u)
    (hs : (assignEach (e :: es) X.env).map (·.2) = assign e X.env :: (assignEach es X.env).map (·.2) := by rfl) : PGs X (e :: es) (gCons t u) := by
  intro pins s σ H vs us Q I r h
  obtain ⟨v, vr, e1, h⟩ := h
  subst e1
  cases r with
  | cons r rr =>
    rw [hs]
    refine assignInOrder_cons (thn (h1 pins s σ H _ _ _ I r h) fun _ s1 ⟨σ1, H1, I1, q1⟩ => ?_)
    exact h2 pins s1 σ1 H1 _ _ Q I1 rr q1
def gTup (K : PySem.W.Frag) (n : Nat) (t : TGs) : TG := fun v σ H Q => ∃ a xs, v = .ref a ∧ SqT K H a xs ∧ xs.length = n ∧ t xs σ H Q
theorem pg_tup {es : List Expr} {k : Nat} {t : TGs} {n : Nat} (hc : X.calm = true) (h : PGs X es t)
    (hn : (assignEach es X.env).length = n := by rfl) (hst : (assignEach es X.env).findIdx? (·.1) = none := by rfl) : PG X (.Tuple es k pos) (gTup X.K n t) := by
  intro pins s σ H v u Q I r hw
  obtain ⟨a, xs, e1, hq, hl, hw⟩ := hw
  subst e1
  cases r
  obtain ⟨its, rv, ht, hz⟩ := I.tuple hq
  refine assign_Tuple_tuple (I.ok.hd hc) ht (by simp [hn, ← hl, rv.length]) hst fun h' hx => ?_
  have I1 : Inv X pins σ H { s with heap := h' } := I.kept (t' := s.toks) fun b o e => hx b o (Nat.ne_of_lt (Heap.lt_size e)) e
  exact h pins _ σ H xs _ Q I1 (by simpa using rv) hw
def gSub (to ti : TE) (t : TSet) : TG := fun v σ H Q => to σ H fun o H1 => ti σ H1 fun i H2 => t o i v H2 fun H3 => Q σ H3
theorem pg_sub {o i : Expr} {to ti : TE} {t : TSet} (ho : PE X o to) (hi : PE X i ti) (hs : PSet X t)
    (ha : ∀ v, assign (.Subscript o i pos) X.env v = (do
      let ov ← holding [v] (eval o X.env)
      let iv ← holding [v, ov] (eval i X.env)
      standAt pos
      holding [v, ov, iv] (setItem ov iv v)
      release [v, ov, iv] []) := by intro _; rfl) : PG X (.Subscript o i pos) (gSub to ti t) := by
  intro pins s σ H v u Q I r h
  rw [ha]
  refine wpAny_bind (wpAny_holding (thn (ho pins s σ H _ I h) fun ov s1 ⟨x, H1, I1, r1, q1⟩ => ?_))
  refine wpAny_bind (wpAny_holding (thn (hi pins s1 σ H1 _ I1 q1) fun iv s2 ⟨y, H2, I2, r2, q2⟩ => ?_))
  refine wpAny_bind (wpAny_standAt (wpAny_bind (wpAny_holding (thn (hs pins s2 σ H2 x y v ov iv u _ I2 r1 r2 r q2) fun _ s3 ⟨H3, I3, q3⟩ => ?_))))
  exact wpAny_release ⟨σ, H3, I3, q3⟩
def tAsg (te : TE) (g : TG) : TS := fun D σ H => te σ H fun x H1 => g x σ H1 D.nx
theorem ps_asg {tg e : Expr} {te : TE} {g : TG} (he : PE X e te) (hg : PG X tg g) (hs : swapsWithSole [tg] e pos.line X.env = pure false := by rfl) (hw : swappedStores [tg] e X.env = pure none := by rfl)
    (h1 : (assignEach [tg] X.env).map (·.2) = [assign tg X.env] := by rfl) : PS X (.Assign [tg] e pos) (tAsg te g) := by
  intro pins s σ H D I h
  refine wpAny_Assign_stores (thn (he pins s σ H _ I h) fun v s1 ⟨x, H1, I1, r1, q1⟩ => ?_) hs hw
  rw [h1]
  exact thn (hg pins s1 σ H1 x v _ I1 r1 q1) fun _ s2 q => q
theorem ps_set {i : Nat} {x : Str} {e : Expr} {te : TE} {pos' : Pos} (hN : X.N.Nodup) (hi : X.N[i]? = some x) (hx : Loc X.env.scope x) (he : PE X e te) (hs : swapsWith e (some (.Name x pos')) pos.line X.env = pure false := by rfl) (hf : X.fn x = true ∨ X.env.scope.names.lookup x = some .local := by first | exact .inl rfl | exact .inr rfl | assumption) :
    PS X (.Assign [.Name x pos'] e pos) (tAsg te (gName i)) := by
  intro pins s σ H D I h
  refine wpAny_Assign_Name (thn (he pins s σ H _ I h) fun v s1 ⟨y, H1, I1, r1, q1⟩ => ?_) hs
  exact store_ok I1 hN hi hx r1 (fun s2 I2 => ⟨_, H1, I2, q1⟩) hf
def tAug (i : Nat) (te : TE) (ti : TIp) : TS := fun D σ H => ∃ x, σ[i]? = some (some x) ∧ te σ H fun y H1 => ti x y H1 fun z H2 => D.nx (σ.set i (some z)) H2
theorem ps_aug {i : Nat} {x : Str} {e : Expr} {te : TE} {op : Operator} {ti : TIp} {pos' : Pos} (hN : X.N.Nodup) (hi : X.N[i]? = some x) (hx : Loc X.env.scope x) (he : PE X e te) (ho : PIp X op ti) (hf : X.fn x = true ∨ X.env.scope.names.lookup x = some .local := by first | exact .inl rfl | exact .inr rfl | assumption) :
    PS X (.AugAssign (.Name x pos') op e pos) (tAug i te ti) := by
  intro pins s σ H D I h
  obtain ⟨v, e1, h⟩ := h
  obtain ⟨m, hn, hl⟩ := I.loc
  have vis : Vis X.env.scope x := by rcases hx with k | k; exact .inl k; exact .inr (.inl k)
  obtain ⟨u, r, l⟩ := hl i x v hi e1 vis
  refine wpAny_AugAssign_Name ?_
  have go : wpAny (model X.prog X.w) X.A (eval e X.env) (fun w s₂ => wpAny (model X.prog X.w) X.A (inplaceOp op u w) (fun r s₃ => wpAny (model X.prog X.w) X.A (storeName X.env x r) (fun _ => SP X pins D .next) X.xe s₃) X.xe s₂) X.xe s := by
    refine thn (he pins s σ H _ I h) fun w s1 ⟨y, H1, I1, r1, q1⟩ => ?_
    refine thn (ho pins s1 σ H1 v y u w _ I1 r r1 q1) fun z s2 ⟨zv, H2, I2, r2, q2⟩ => ?_
    exact store_ok I2 hN hi hx r2 (fun s3 I3 => ⟨_, H2, I3, q2⟩) hf
  rcases l with ⟨hk, hm⟩ | ⟨hk, c, hc, hcell⟩
  · exact wpAny_loadName_local I.ok.kind hk hn hm go
  · rcases hk with hk | hk
    · exact wpAny_loadName_cell I.ok.kind hk hc hcell go
    · rcases hx with k | k
      · have : X.env.scope.names.lookup x = some .free := hk
        rw [k] at this; cases this
      · have : X.env.scope.names.lookup x = some .free := hk
        rw [k] at this; cases this
def tAugS (to ti te : TE) (tget : V → V → Hp → VK → Prop) (tip : TIp) (tset : TSet) : TS := fun D σ H => to σ H fun o H1 => ti σ H1 fun i H2 => tget o i H2 fun x H3 => te σ H3 fun y H4 => tip x y H4 fun z H5 => tset o i z H5 fun H6 => D.nx σ H6
def PGet (X : Cx) (t : V → V → Hp → VK → Prop) : Prop :=
  ∀ (pins : List (Addr × Obj)) (s : Shared) (σ : St) (H : Hp) (o i : V) (ov iv : Value) (Q : VK), Inv X pins σ H s → RelV o ov → RelV i iv → t o i H Q →
    wpAny (model X.prog X.w) X.A (getItem ov iv) (EP X pins σ Q) X.xe s
theorem ps_augS {o i e : Expr} {to ti te : TE} {tget : V → V → Hp → VK → Prop} {tip : TIp} {tset : TSet} {op : Operator} {tpos : Pos} (ho : PE X o to) (hi : PE X i ti) (hg : PGet X tget) (he : PE X e te) (hp : PIp X op tip) (hs : PSet X tset)
    (ha : ∀ ov iv new, augStore i ov iv new = (do holding [new, ov, iv] (setItem ov iv new); release [new, ov, iv] []; pure .next) := by intros; rfl) : PS X (.AugAssign (.Subscript o i tpos) op e pos) (tAugS to ti te tget tip tset) := by
  intro pins s σ H D I h
  refine wpAny_AugAssign_SubscriptAny (thn (ho pins s σ H _ I h) fun ov s1 ⟨x1, H1, I1, r1, q1⟩ => ?_) ha
  refine thn (hi pins s1 σ H1 _ I1 q1) fun iv s2 ⟨x2, H2, I2, r2, q2⟩ => ?_
  refine thn (hg pins s2 σ H2 x1 x2 ov iv _ I2 r1 r2 q2) fun old s3 ⟨x3, H3, I3, r3, q3⟩ => ?_
  refine thn (he pins s3 σ H3 _ I3 q3) fun v s4 ⟨x4, H4, I4, r4, q4⟩ => ?_
  refine thn (hp pins s4 σ H4 x3 x4 old v _ I4 r3 r4 q4) fun new s5 ⟨x5, H5, I5, r5, q5⟩ => ?_
  exact thn (hs pins s5 σ H5 x1 x2 x5 ov iv new _ I5 r1 r2 r5 q5) fun _ s6 ⟨H6, I6, q6⟩ => ⟨σ, H6, I6, q6⟩
def ipI (f : Int → Int → Int) : TIp := fun x y H Q => ∃ i j, x = .int i ∧ y = .int j ∧ Q (.int (f i j)) H
theorem ip_add : PIp X .Add (ipI fun i j => i + j) := by
  intro pins s σ H x y v u Q I r1 r2 h
  obtain ⟨i, j, e1, e2, q⟩ := h
  subst e1; subst e2
  obtain ⟨t, rfl⟩ := r1
  obtain ⟨t', rfl⟩ := r2
  exact iadd_int ⟨.int _, H, I.tok _, ⟨_, rfl⟩, q⟩
end
section
variable {X : Cx} {pos : Pos}
end
structure It where
  go : Nat → Hp → Prop
  yld : Nat → Hp → V → Hp → Prop
  stop : Nat → Hp → Prop
def FpOk (X : Cx) (pins : List (Addr × Obj)) (H : Hp) (b : Addr) : Prop :=
  H b = none ∧ b ≠ X.env.locals ∧ b ∉ X.fs ∧ (b ∈ X.ex ∨ X.s₀.heap.objs.size ≤ b) ∧ (∀ x c, X.env.cells.lookup x = some c → c ≠ b) ∧ ∀ p ∈ X.pn ++ pins, p.1 ≠ b
theorem Inv.fpOk {X : Cx} {pins : List (Addr × Obj)} {σ : St} {H H' : Hp} {s : Shared} {b : Addr} (I : Inv X pins σ H s) (hb : s.heap.objs.size ≤ b) (hn : H' b = none) : FpOk X pins H' b := by
  refine ⟨hn, Nat.ne_of_gt (Nat.lt_of_lt_of_le I.lt hb), I.nofs hb, .inr (Nat.le_trans I.sz hb), fun x c e z => ?_, fun p hp z => ?_⟩
  · obtain ⟨v, q⟩ := I.cell x c e
    exact absurd (Nat.lt_of_lt_of_le q.lt (by rw [z]; exact hb)) (Nat.lt_irrefl _)
  · exact absurd (Nat.lt_of_lt_of_le (Heap.lt_size (I.pin p hp).1) (by rw [z]; exact hb)) (Nat.lt_irrefl _)
structure Turn (P : Program) (w : World) (K : PySem.W.Frag) (tg : Expr) (J : It) (fp : List Addr) (it : Addr) (tn : Nat → Heap → Prop) : Prop where
  mem : it ∈ fp
  obj : ∀ i h, tn i h → ∀ b ∈ fp, ∃ o, h.get? b = some o ∧ ∀ v, o.data ≠ .cell v
  keep : ∀ i h h', tn i h → (∀ b ∈ fp, ∀ o, h.get? b = some o → h'.get? b = some o) → tn i h'
  item : ∀ (X : Cx), X.prog = P → X.w = w → X.K = K → X.calm = true → ∀ (i : Nat) (pins : List (Addr × Obj)) (s : Shared) (σ : St) (H : Hp) (E : Value → Shared → Prop), Inv X pins σ H s → (∀ b ∈ fp, FpOk X pins H b) → tn i s.heap → J.go i H →
    wpAny (model P w) X.A (pyNext (.ref it)) (fun r s1 => ∃ u, r = some u ∧
      wpAny (model P w) X.A (letOwnedTupleGo tg (.ref it) u) (fun _ s2 => ∃ x H', Inv X pins σ H' s2 ∧ RelV x u ∧ J.yld i H x H' ∧ tn (i + 1) s2.heap ∧ ∀ b ∈ fp, H' b = none) E s1) E s
  done : ∀ (X : Cx), X.prog = P → X.w = w → X.K = K → X.calm = true → ∀ (i : Nat) (pins : List (Addr × Obj)) (s : Shared) (σ : St) (H : Hp) (E : Value → Shared → Prop), Inv X pins σ H s → (∀ b ∈ fp, FpOk X pins H b) → tn i s.heap → J.stop i H →
    wpAny (model P w) X.A (pyNext (.ref it)) (fun r s1 => r = none ∧ Inv X pins σ H s1) E s
  self : ∀ (A : Around) (i : Nat) (s : Shared) (Q : Value → Shared → Prop) (E : Value → Shared → Prop), tn i s.heap → Q (.ref it) s → wpAny (model P w) A (pyIter (.ref it)) Q E s
abbrev TI := St → Hp → (It → Hp → Prop) → Prop
def PIE (X : Cx) (pins : List (Addr × Obj)) (σ : St) (tg : Expr) (R : It → Hp → Prop) (itv : Value) (s2 : Shared) : Prop :=
  ∃ (it : Addr) (fp : List Addr) (tn : Nat → Heap → Prop) (J : It) (H' : Hp), itv = .ref it ∧ Inv X pins σ H' s2 ∧ Turn X.prog X.w X.K tg J fp it tn ∧ tn 0 s2.heap ∧ (∀ b ∈ fp, FpOk X pins H' b) ∧ R J H'
def PI (X : Cx) (tg iter : Expr) (wi : TI) : Prop :=
  ∀ (pins : List (Addr × Obj)) (s : Shared) (σ : St) (H : Hp) (R : It → Hp → Prop), Inv X pins σ H s → wi σ H R →
    wpAny (model X.prog X.w) X.A (eval iter X.env) (fun v s1 => wpAny (model X.prog X.w) X.A (pyIter v) (PIE X pins σ tg R) X.xe s1) X.xe s
theorem go_of {M : Model} {A : Around} {E : Value → Shared → Prop} {s : Shared} {tg : Expr} {it : Addr} {u : Value} {o : Obj} {n : String} {vs : Array Value} {Q : Unit → Shared → Prop} (ho : s.heap.get? it = some o) (hc : o.cls = .type n) (hd : o.data = .fields vs)
    (hn : ["enumerate", "zip", "dict_itemiterator", "dict_reverseitemiterator", "odict_iterator", "itertools.zip_longest", "itertools.pairwise"].contains n = false) (hQ : Q () s) : wpAny M A (letOwnedTupleGo tg (.ref it) u) Q E s := by
  unfold letOwnedTupleGo
  cases tg <;> first
    | exact wpAny_pure hQ
    | (cases u <;> first
        | exact wpAny_pure hQ
        | (refine wpAny_bind (wpAny_load ho ?_)
           rw [hc, hd]
           show wpAny M A (if (["enumerate", "zip", "dict_itemiterator", "dict_reverseitemiterator", "odict_iterator", "itertools.zip_longest", "itertools.pairwise"].contains n && vs[0]? == some (rawInt _)) = true then _ else _) Q E s
           rw [if_neg (by intro h; rw [hn, Bool.false_and] at h; cases h)]
           exact wpAny_pure hQ))
def Itl (K : PySem.W.Frag) (a : Addr) : It :=
  ⟨fun i H => ∃ xs x, SqL K H a xs ∧ xs[i]? = some x, fun i H x H' => H' = H ∧ ∀ xs, SqL K H a xs → xs[i]? = some x, fun i H => ∃ xs, SqL K H a xs ∧ xs.length ≤ i⟩
def Itt (K : PySem.W.Frag) (a : Addr) : It :=
  ⟨fun i H => ∃ xs x, SqT K H a xs ∧ xs[i]? = some x, fun i H x H' => H' = H ∧ ∀ xs, SqT K H a xs → xs[i]? = some x, fun i H => ∃ xs, SqT K H a xs ∧ xs.length ≤ i⟩
def Itr (lo : Int) (n : Nat) : It := ⟨fun i _ => i < n, fun i H x H' => H' = H ∧ x = .int (lo + i), fun i _ => n ≤ i⟩
theorem turn_list {P : Program} {w : World} {K : PySem.W.Frag} {tg : Expr} (a it : Addr) : Turn P w K tg (Itl K a) [it] it (fun i h => h.IsListIter it a i) where
  mem := by simp
  obj := fun i h st b hb => by
    have e : b = it := by simpa using hb
    subst e
    obtain ⟨o, e, c, d⟩ := st
    exact ⟨o, e, fun v z => by rw [d] at z; cases z⟩
  keep := fun i h h' st k => st.at fun o e => k it (by simp) o e
  item := by
    intro X hP hw hK hc i pins s σ H E I hf st hg
    subst hP hw hK
    obtain ⟨xs, x, hq, hx⟩ := hg
    obtain ⟨its, rv, p, hz⟩ := I.list hq
    obtain ⟨u, hu, ru⟩ := rv.get hx
    obtain ⟨f0, f1, f2, f3, f4, f5⟩ := hf it (by simp)
    refine wpAny_pyNext_list_item st p.isList (x := u) (by simpa using hu) fun h' st' sb => ?_
    have I1 : Inv X pins σ H { s with heap := h' } := I.turned (t' := s.toks) (fun b o hb e => (sb.2 b hb).trans e) f0 f1 f3 f4 f5
    obtain ⟨o, e, c, d⟩ := id st'
    exact ⟨u, rfl, go_of (s := { s with heap := h' }) e c d (by decide) ⟨x, H, I1, ru, ⟨rfl, fun ys hy => by rw [I.list_inj hy hq]; exact hx⟩, st', fun b hb => (hf b hb).1⟩⟩
  done := by
    intro X hP hw hK hc i pins s σ H E I hf st hg
    subst hP hw hK
    obtain ⟨xs, hq, hx⟩ := hg
    obtain ⟨its, rv, p, hz⟩ := I.list hq
    obtain ⟨f0, f1, f2, f3, f4, f5⟩ := hf it (by simp)
    have hl := rv.length
    exact wpAny_pyNext_list_end (I.ok.hd hc) st p.isList (by simp; omega) fun h' eb => ⟨rfl, I.turned (t' := s.toks) (fun b o hb e => eb b o hb e) f0 f1 f3 f4 f5⟩
  self := fun _ _ _ _ _ st h => wpAny_pyIter_listiter st h
theorem turn_tuple {P : Program} {w : World} {K : PySem.W.Frag} {tg : Expr} (a it : Addr) : Turn P w K tg (Itt K a) [it] it (fun i h => h.IsTupleIter it a i) where
  mem := by simp
  obj := fun i h st b hb => by
    have e : b = it := by simpa using hb
    subst e
    obtain ⟨o, e, c, d⟩ := st
    exact ⟨o, e, fun v z => by rw [d] at z; cases z⟩
  keep := fun i h h' st k => st.at fun o e => k it (by simp) o e
  item := by
    intro X hP hw hK hc i pins s σ H E I hf st hg
    subst hP hw hK
    obtain ⟨xs, x, hq, hx⟩ := hg
    obtain ⟨its, rv, p, hz⟩ := I.tuple hq
    obtain ⟨u, hu, ru⟩ := rv.get hx
    obtain ⟨f0, f1, f2, f3, f4, f5⟩ := hf it (by simp)
    refine wpAny_pyNext_tuple_item st (show s.heap.IsTuple a its.toArray from p) (x := u) (by simpa using hu) fun h' st' sb => ?_
    have I1 : Inv X pins σ H { s with heap := h' } := I.turned (t' := s.toks) (fun b o hb e => (sb.2 b hb).trans e) f0 f1 f3 f4 f5
    obtain ⟨o, e, c, d⟩ := id st'
    exact ⟨u, rfl, go_of (s := { s with heap := h' }) e c d (by decide) ⟨x, H, I1, ru, ⟨rfl, fun ys hy => by rw [I.tuple_inj hy hq]; exact hx⟩, st', fun b hb => (hf b hb).1⟩⟩
  done := by
    intro X hP hw hK hc i pins s σ H E I hf st hg
    subst hP hw hK
    obtain ⟨xs, hq, hx⟩ := hg
    obtain ⟨its, rv, p, hz⟩ := I.tuple hq
    obtain ⟨f0, f1, f2, f3, f4, f5⟩ := hf it (by simp)
    have hl := rv.length
    exact wpAny_pyNext_tuple_end (I.ok.hd hc) st (show s.heap.IsTuple a its.toArray from p) (by simp; omega) fun h' eb => ⟨rfl, I.turned (t' := s.toks) (fun b o hb e => eb b o hb e) f0 f1 f3 f4 f5⟩
  self := fun _ _ _ _ _ st h => wpAny_pyIter_tupleiter st h
theorem turn_range {P : Program} {w : World} {K : PySem.W.Frag} {tg : Expr} (it : Addr) (lo : Int) (n : Nat) : Turn P w K tg (Itr lo n) [it] it (fun i h => IsRangeIter h it (lo + (i : Nat) * 1) ((n : Int) - (i : Nat)) 1) where
  mem := by simp
  obj := fun i h st b hb => by
    have e : b = it := by simpa using hb
    subst e
    exact ⟨_, st, fun v z => by
      have z' : Data.fields _ = Data.cell v := z
      cases z'⟩
  keep := fun i h h' st k => k it (by simp) _ st
  item := by
    intro X hP hw hK hc i pins s σ H E I hf st hg
    subst hP hw hK
    obtain ⟨f0, f1, f2, f3, f4, f5⟩ := hf it (by simp)
    have W := Walks.range (prog := X.prog) (w := X.w) (I.ok.hd hc) it lo 1 n
    refine W.item i s _ _ hg st fun v h' tk hv st' kk => ?_
    obtain ⟨t, rfl⟩ := hv
    have I1 : Inv X pins σ H { s with heap := h', toks := tk } := I.turned (fun b o hb e => kk b o (by simpa using hb) e) f0 f1 f3 f4 f5
    refine ⟨_, rfl, go_of (s := { s with heap := h', toks := tk }) (n := "range_iterator") st' rfl rfl (by decide) ⟨.int (lo + i), H, I1, ⟨t, ?_⟩, ⟨rfl, rfl⟩, st', fun b hb => (hf b hb).1⟩⟩
    rw [Int.mul_one]
  done := by
    intro X hP hw hK hc i pins s σ H E I hf st hg
    subst hP hw hK
    obtain ⟨f0, f1, f2, f3, f4, f5⟩ := hf it (by simp)
    exact wpAny_pyNext_range_end (I.ok.hd hc) st (by have : n ≤ i := hg; omega) fun h' eb => ⟨rfl, I.turned (t' := s.toks) (fun b o hb e => eb b o hb e) f0 f1 f3 f4 f5⟩
  self := fun _ _ _ _ _ st h => wpAny_pyIter_rangeiter st h
end L2
namespace L2
open PySem PySem.Spec PyProof.Rows
section
variable {X : Cx} {tg : Expr}
def iList (K : PySem.W.Frag) (tl : TE) : TI := fun σ H R => tl σ H fun x H1 => ∃ a, x = .ref a ∧ (∃ xs, SqL K H1 a xs) ∧ R (Itl K a) H1
def iTup (K : PySem.W.Frag) (tl : TE) : TI := fun σ H R => tl σ H fun x H1 => ∃ a, x = .ref a ∧ (∃ xs, SqT K H1 a xs) ∧ R (Itt K a) H1
theorem pi_list {l : Expr} {tl : TE} (hl : PE X l tl) : PI X tg l (iList X.K tl) := by
  intro pins s σ H R I h
  refine thn (hl pins s σ H _ I h) fun v s1 ⟨x, H1, I1, r1, q1⟩ => ?_
  obtain ⟨a, e, ⟨xs, hq⟩, q⟩ := q1
  subst e
  cases r1
  obtain ⟨its, rv, p, hz⟩ := I1.list hq
  refine wpAny_pyIter_list p.isList ?_
  refine ⟨s1.heap.objs.size, [s1.heap.objs.size], _, _, H1, rfl, I1.kept (t' := s1.toks) fun b o e => Heap.get?_push_of_some _ e, turn_list a _, ⟨_, Heap.get?_push_size _ rfl, rfl, rfl⟩, fun b hb => ?_, q⟩
  have e : b = s1.heap.objs.size := by simpa using hb
  subst e
  exact I1.fpOk (Nat.le_refl _) (I1.hok.fresh (Nat.le_refl _))
theorem pi_tup {l : Expr} {tl : TE} (hl : PE X l tl) : PI X tg l (iTup X.K tl) := by
  intro pins s σ H R I h
  refine thn (hl pins s σ H _ I h) fun v s1 ⟨x, H1, I1, r1, q1⟩ => ?_
  obtain ⟨a, e, ⟨xs, hq⟩, q⟩ := q1
  subst e
  cases r1
  obtain ⟨its, rv, p, hz⟩ := I1.tuple hq
  refine wpAny_pyIter_tuple (show s1.heap.IsTuple a its.toArray from p) ?_
  refine ⟨s1.heap.objs.size, [s1.heap.objs.size], _, _, H1, rfl, I1.kept (t' := s1.toks) fun b o e => Heap.get?_push_of_some _ e, turn_tuple a _, ⟨_, Heap.get?_push_size _ rfl, rfl, rfl⟩, fun b hb => ?_, q⟩
  have e : b = s1.heap.objs.size := by simpa using hb
  subst e
  exact I1.fpOk (Nat.le_refl _) (I1.hok.fresh (Nat.le_refl _))
theorem range_it {pins : List (Addr × Obj)} {σ : St} {H : Hp} {s : Shared} {R : It → Hp → Prop} {E : Value → Shared → Prop} {lo hi : Int} {t u v : Tok} {tk : Nat} (I : Inv X pins σ H s) (h1 : -(2 ^ 62) ≤ lo) (h2 : lo < 2 ^ 62) (h3 : -(2 ^ 62) ≤ hi) (h4 : hi < 2 ^ 62)
    (q : R (Itr lo (hi - lo).toNat) H) : wpAny (model X.prog X.w) X.A (pyIter (.ref s.heap.objs.size)) (PIE X pins σ tg R) E { s with heap := s.heap.push { cls := .type "range", data := .fields #[.int lo t, .int hi u, .int 1 v] }, toks := tk } := by
  refine wpAny_pyIter_range (IsRange.new ..) (small_one h1 h2 h3 h4) ?_
  have I1 : Inv X pins σ H { s with heap := s.heap.push { cls := .type "range", data := .fields #[.int lo t, .int hi u, .int 1 v] }, toks := tk } := I.kept fun b o e => Heap.get?_push_of_some _ e
  refine ⟨(s.heap.push { cls := .type "range", data := .fields #[.int lo t, .int hi u, .int 1 v] }).objs.size, [(s.heap.push { cls := .type "range", data := .fields #[.int lo t, .int hi u, .int 1 v] }).objs.size], _, _, H, rfl,
    I1.kept (t' := tk) fun b o e => Heap.get?_push_of_some _ e, turn_range _ lo (hi - lo).toNat, ?_, fun b hb => ?_, q⟩
  · have e1 : lo + ((0 : Nat) : Int) * 1 = lo := by simp
    have e2 : (((hi - lo).toNat : Nat) : Int) - ((0 : Nat) : Int) = Builtin.Range.rangeSize lo hi 1 := by rw [rangeSize_one]; split <;> omega
    show IsRangeIter _ _ (lo + ((0 : Nat) : Int) * 1) ((((hi - lo).toNat : Nat) : Int) - ((0 : Nat) : Int)) 1
    rw [e1, e2]
    exact Heap.get?_push_size _ rfl
  · have e : b = (s.heap.push { cls := .type "range", data := .fields #[.int lo t, .int hi u, .int 1 v] }).objs.size := by simpa using hb
    subst e
    exact I1.fpOk (Nat.le_refl _) (I1.hok.fresh (Nat.le_refl _))
def iRng1 (ta : TA) : TI := fun σ H R => ta σ H fun vs H1 => ∃ j : Int, vs = [.int j] ∧ -(2 ^ 62) ≤ j ∧ j < 2 ^ 62 ∧ R (Itr 0 j.toNat) H1
def iRng2 (ta : TA) : TI := fun σ H R => ta σ H fun vs H1 => ∃ i j : Int, vs = [.int i, .int j] ∧ (-(2 ^ 62) ≤ i ∧ i < 2 ^ 62 ∧ -(2 ^ 62) ≤ j ∧ j < 2 ^ 62) ∧ R (Itr i (j - i).toNat) H1
theorem pi_range1 {a : Expr} {ta : TA} {p pos : Pos} (hg : Gl X "range") (hm : X.mg "range" = none) (ha : PA X [a] ta) (hs : starEach [a] X.env = [(false, eval a X.env)] := by rfl) : PI X tg (.Call (.Name "range" p) [a] [] pos) (iRng1 ta) := by
  intro pins s σ H R I h
  refine Call_ (ld_blt I hg hm boot_range (PyProof.Rows.callWith_type1 (thn (ha pos pins s σ H _ I h) fun us s1 ⟨vs, H1, I1, r1, q1⟩ => ?_) hs rfl))
  obtain ⟨j, e, q1, q2, q⟩ := q1
  subst e
  cases r1 with
  | cons r rr =>
    cases rr
    obtain ⟨t, rfl⟩ := r
    exact call_range_1 (range_it I1 (by omega) (by omega) q1 q2 (by simpa using q))
theorem pi_range2 {a b : Expr} {ta : TA} {p pos : Pos} (hg : Gl X "range") (hm : X.mg "range" = none) (ha : PA X [a, b] ta) (hs : starEach [a, b] X.env = [(false, eval a X.env), (false, eval b X.env)] := by rfl) (hs2 : starEach [b] X.env = [(false, eval b X.env)] := by rfl) :
    PI X tg (.Call (.Name "range" p) [a, b] [] pos) (iRng2 ta) := by
  intro pins s σ H R I h
  refine Call_ (ld_blt I hg hm boot_range (PyProof.Rows.callWith_type1 (thn (ha pos pins s σ H _ I h) fun us s1 ⟨vs, H1, I1, r1, q1⟩ => ?_) (by rw [hs, hs2]) (by rw [hs2]; rfl)))
  obtain ⟨i, j, e, ⟨q1, q2, q3, q4⟩, q⟩ := q1
  subst e
  cases r1 with
  | cons r rr =>
    cases rr with
    | cons r' rr =>
      cases rr
      obtain ⟨t, rfl⟩ := r
      obtain ⟨t', rfl⟩ := r'
      exact call_range_2 (range_it I1 q1 q2 q3 q4 q)
def tFor (wi : TI) (g : TG) (tb : TS) : TS := fun D σ H => wi σ H fun J H1 => ∃ W : Nat → Nat → St → Hp → Prop, (∃ m, W 0 m σ H1) ∧ ∀ i m σ H, W i m σ H →
  (J.stop i H ∧ D.nx σ H) ∨ (J.go i H ∧ ∃ N : St → Hp → Prop, (∀ σ' H', N σ' H' → ∃ m', m' < m ∧ W (i + 1) m' σ' H') ∧ ∀ x H', J.yld i H x H' → g x σ H' fun σ2 H2 => tb { D with nx := N, ct := N, bk := D.nx } σ2 H2)
def pinsAt (fp : List Addr) (h : Heap) : List (Addr × Obj) := fp.filterMap fun b => (h.get? b).map fun o => (b, o)
theorem mem_pinsAt {fp : List Addr} {h : Heap} {b : Addr} {o : Obj} (hb : b ∈ fp) (e : h.get? b = some o) : (b, o) ∈ pinsAt fp h := List.mem_filterMap.mpr ⟨b, hb, by rw [e]; rfl⟩
theorem of_pinsAt {fp : List Addr} {h : Heap} {p : Addr × Obj} (hp : p ∈ pinsAt fp h) : p.1 ∈ fp ∧ h.get? p.1 = some p.2 := by
  obtain ⟨b, hb, e⟩ := List.mem_filterMap.mp hp
  cases q : h.get? b with
  | none => rw [q] at e; cases e
  | some o =>
    rw [q] at e
    have e' : (b, o) = p := Option.some.inj e
    subst e'
    exact ⟨hb, q⟩
theorem Inv.pinned {pins : List (Addr × Obj)} {σ : St} {H : Hp} {s : Shared} {fp : List Addr} (I : Inv X pins σ H s) (hf : ∀ b ∈ fp, FpOk X pins H b) (ho : ∀ b ∈ fp, ∃ o, s.heap.get? b = some o ∧ ∀ v, o.data ≠ .cell v) : Inv X (pins ++ pinsAt fp s.heap) σ H s :=
  I.pins_of fun p hp => (List.mem_append.mp hp).elim (fun z => I.pin p (List.mem_append_right _ z)) fun z => by
    obtain ⟨hb, e⟩ := of_pinsAt z
    obtain ⟨f0, f1, f2, _⟩ := hf p.1 hb
    obtain ⟨o, e', d⟩ := ho p.1 hb
    rw [e] at e'; cases e'
    exact ⟨e, f0, f1, f2, d⟩
theorem Inv.unpinned {pins pl : List (Addr × Obj)} {σ : St} {H : Hp} {s : Shared} (I : Inv X (pins ++ pl) σ H s) : Inv X pins σ H s := I.pins_of fun p hp => I.pin p (List.mem_append_right _ (List.mem_append_left _ hp))
theorem ps_for {iter : Expr} {body : List Stmt} {wi : TI} {g : TG} {tb : TS} {pos : Pos} (hp : PassesOwn (model X.prog X.w) X.A X.env X.xe) (hc : X.calm = true) (hi : PI X tg iter wi) (hg : PG X tg g) (hb : PSs X body tb)
    (hs : ∀ x, foldedSetIterable iter X.env x = pure x := by intro _; rfl) : PS X (.For tg iter body [] pos) (tFor wi g tb) := by
  intro pins s σ H D I h
  refine wpAny_For (thn (hi pins s σ H _ I h) fun v s1 h1 => thn h1 fun itv s2 h2 => ?_) hs
  obtain ⟨it, fp, tn, J, H2, e, I2, T, st2, f2, W, ⟨m0, w0⟩, turn⟩ := h2
  subst e
  have stat : ∀ {H' : Hp}, (∀ b ∈ fp, H' b = none) → ∀ b ∈ fp, FpOk X pins H' b := fun hn b hb => ⟨hn b hb, (f2 b hb).2⟩
  refine codeAny_forLoop_any (fun n s' => ∃ i σ' H', Inv X pins σ' H' s' ∧ tn i s'.heap ∧ (∀ b ∈ fp, H' b = none) ∧ W i n σ' H') ?_ m0 ⟨0, σ, H2, I2, st2, fun b hb => (f2 b hb).1, w0⟩
  rintro n s3 ⟨i, σ3, H3, I3, st3, fr3, w3⟩
  rcases turn i n σ3 H3 w3 with ⟨stop, qn⟩ | ⟨go, N, hN, step⟩
  · refine wpAny_passesOwn hp (thn (T.done X rfl rfl rfl hc i pins s3 σ3 H3 X.xe I3 (stat fr3) st3 stop) fun r s4 ⟨hr, I4⟩ => ?_)
    subst hr
    exact wpAny_execs_nil ⟨σ3, H3, I4, qn⟩
  · refine wpAny_passesOwn hp (thn (T.item X rfl rfl rfl hc i pins s3 σ3 H3 X.xe I3 (stat fr3) st3 go) fun r s4 ⟨u, hr, h4⟩ => ?_)
    subst hr
    refine wpAny_passesOwn hp (thn h4 fun _ s5 ⟨x, H5, I5, r5, y5, st5, fr5⟩ => ?_)
    have I5' := I5.pinned (stat fr5) (T.obj _ _ st5)
    refine wpAny_passesOwn hp (thn (hg _ s5 σ3 H5 x u _ I5' r5 (step x H5 y5)) fun _ s6 ⟨σ6, H6, I6, q6⟩ => ?_)
    refine wpAny_passesOwn hp (thn (hb _ s6 σ6 H6 _ I6 q6) fun f s7 q7 => ?_)
    have again : ∀ {σ7 : St} {H7 : Hp}, Inv X (pins ++ pinsAt fp s5.heap) σ7 H7 s7 → N σ7 H7 → ∃ m, m < n ∧ ∃ i σ' H', Inv X pins σ' H' s7 ∧ tn i s7.heap ∧ (∀ b ∈ fp, H' b = none) ∧ W i m σ' H' := fun {σ7 H7} I7 n7 => by
      obtain ⟨m', hm, w7⟩ := hN σ7 H7 n7
      refine ⟨m', hm, i + 1, σ7, H7, I7.unpinned, T.keep _ _ _ st5 fun b hb o e => (I7.pin (b, o) (List.mem_append_right _ (List.mem_append_right _ (mem_pinsAt hb e)))).1, fun b hb => ?_, w7⟩
      obtain ⟨o, e, d⟩ := T.obj _ _ st5 b hb
      exact (I7.pin (b, o) (List.mem_append_right _ (List.mem_append_right _ (mem_pinsAt hb e)))).2.1
    cases f with
    | next => obtain ⟨σ7, H7, I7, n7⟩ := q7; exact again I7 n7
    | cont => obtain ⟨σ7, H7, I7, n7⟩ := q7; exact again I7 n7
    | brk => obtain ⟨σ7, H7, I7, q7⟩ := q7; exact ⟨σ7, H7, I7.unpinned, q7⟩
    | ret v => obtain ⟨x7, σ7, H7, I7, r7, q7⟩ := q7; exact ⟨x7, σ7, H7, I7.unpinned, r7, q7⟩
end
theorem for_list {K : PySem.W.Frag} {a : Addr} {xs : List V} {g : TG} {tb : TS} {D : Ends} {σ : St} {H : Hp} (Pv : Nat → St → Hp → Prop) (h0 : Pv 0 σ H) (hl : ∀ i σ H, i ≤ xs.length → Pv i σ H → SqL K H a xs)
    (hs : ∀ i x σ H, xs[i]? = some x → Pv i σ H → g x σ H fun σ2 H2 => tb { D with nx := Pv (i + 1), ct := Pv (i + 1), bk := D.nx } σ2 H2) (hd : ∀ σ H, Pv xs.length σ H → D.nx σ H) :
    ∃ W : Nat → Nat → St → Hp → Prop, (∃ m, W 0 m σ H) ∧ ∀ i m σ H, W i m σ H →
      ((Itl K a).stop i H ∧ D.nx σ H) ∨ ((Itl K a).go i H ∧ ∃ N : St → Hp → Prop, (∀ σ' H', N σ' H' → ∃ m', m' < m ∧ W (i + 1) m' σ' H') ∧ ∀ x H', (Itl K a).yld i H x H' → g x σ H' fun σ2 H2 => tb { D with nx := N, ct := N, bk := D.nx } σ2 H2) := by
  refine ⟨fun i m σ H => m = xs.length - i ∧ i ≤ xs.length ∧ Pv i σ H, ⟨xs.length, by simp, Nat.zero_le _, h0⟩, ?_⟩
  rintro i m σ H ⟨rfl, hi, p⟩
  have q := hl i σ H hi p
  by_cases hlt : i < xs.length
  · refine .inr ⟨⟨xs, xs[i], q, by simp [hlt]⟩, Pv (i + 1), fun σ' H' p' => ⟨xs.length - (i + 1), by omega, rfl, hlt, p'⟩, fun x H' y => ?_⟩
    obtain ⟨e, y⟩ := y
    subst e
    exact hs i x σ _ (y xs q) p
  · have e : i = xs.length := by omega
    subst e
    exact .inl ⟨⟨xs, q, Nat.le_refl _⟩, hd σ H p⟩
theorem for_tup {K : PySem.W.Frag} {a : Addr} {xs : List V} {g : TG} {tb : TS} {D : Ends} {σ : St} {H : Hp} (Pv : Nat → St → Hp → Prop) (h0 : Pv 0 σ H) (hl : ∀ i σ H, i ≤ xs.length → Pv i σ H → SqT K H a xs)
    (hs : ∀ i x σ H, xs[i]? = some x → Pv i σ H → g x σ H fun σ2 H2 => tb { D with nx := Pv (i + 1), ct := Pv (i + 1), bk := D.nx } σ2 H2) (hd : ∀ σ H, Pv xs.length σ H → D.nx σ H) :
    ∃ W : Nat → Nat → St → Hp → Prop, (∃ m, W 0 m σ H) ∧ ∀ i m σ H, W i m σ H →
      ((Itt K a).stop i H ∧ D.nx σ H) ∨ ((Itt K a).go i H ∧ ∃ N : St → Hp → Prop, (∀ σ' H', N σ' H' → ∃ m', m' < m ∧ W (i + 1) m' σ' H') ∧ ∀ x H', (Itt K a).yld i H x H' → g x σ H' fun σ2 H2 => tb { D with nx := N, ct := N, bk := D.nx } σ2 H2) := by
  refine ⟨fun i m σ H => m = xs.length - i ∧ i ≤ xs.length ∧ Pv i σ H, ⟨xs.length, by simp, Nat.zero_le _, h0⟩, ?_⟩
  rintro i m σ H ⟨rfl, hi, p⟩
  have q := hl i σ H hi p
  by_cases hlt : i < xs.length
  · refine .inr ⟨⟨xs, xs[i], q, by simp [hlt]⟩, Pv (i + 1), fun σ' H' p' => ⟨xs.length - (i + 1), by omega, rfl, hlt, p'⟩, fun x H' y => ?_⟩
    obtain ⟨e, y⟩ := y
    subst e
    exact hs i x σ _ (y xs q) p
  · have e : i = xs.length := by omega
    subst e
    exact .inl ⟨⟨xs, q, Nat.le_refl _⟩, hd σ H p⟩
theorem for_range {lo : Int} {n : Nat} {g : TG} {tb : TS} {D : Ends} {σ : St} {H : Hp} (Pv : Nat → St → Hp → Prop) (h0 : Pv 0 σ H)
    (hs : ∀ i σ H, i < n → Pv i σ H → g (.int (lo + i)) σ H fun σ2 H2 => tb { D with nx := Pv (i + 1), ct := Pv (i + 1), bk := D.nx } σ2 H2) (hd : ∀ σ H, Pv n σ H → D.nx σ H) :
    ∃ W : Nat → Nat → St → Hp → Prop, (∃ m, W 0 m σ H) ∧ ∀ i m σ H, W i m σ H →
      ((Itr lo n).stop i H ∧ D.nx σ H) ∨ ((Itr lo n).go i H ∧ ∃ N : St → Hp → Prop, (∀ σ' H', N σ' H' → ∃ m', m' < m ∧ W (i + 1) m' σ' H') ∧ ∀ x H', (Itr lo n).yld i H x H' → g x σ H' fun σ2 H2 => tb { D with nx := N, ct := N, bk := D.nx } σ2 H2) := by
  refine ⟨fun i m σ H => m = n - i ∧ i ≤ n ∧ Pv i σ H, ⟨n, by simp, Nat.zero_le _, h0⟩, ?_⟩
  rintro i m σ H ⟨rfl, hi, p⟩
  by_cases hlt : i < n
  · refine .inr ⟨hlt, Pv (i + 1), fun σ' H' p' => ⟨n - (i + 1), by omega, rfl, hlt, p'⟩, fun x H' y => ?_⟩
    obtain ⟨e, y⟩ := y
    subst e y
    exact hs i σ _ hlt p
  · have e : i = n := by omega
    subst e
    exact .inl ⟨Nat.le_refl _, hd σ H p⟩
end L2
namespace L2
open PySem PySem.Spec PyProof.Rows
abbrev R2 := V → V → Hp → VK → Prop
def OpR (X : Cx) (f : Value → Value → Sem Value) (r : R2) : Prop :=
  ∀ (pins : List (Addr × Obj)) (s : Shared) (σ : St) (H : Hp) (x y : V) (v u : Value) (Q : VK), Inv X pins σ H s → RelV x v → RelV y u → r x y H Q →
    wpAny (model X.prog X.w) X.A (f v u) (EP X pins σ Q) X.xe s
def UnR (X : Cx) (f : Value → Sem Value) (r : V → Hp → VK → Prop) : Prop :=
  ∀ (pins : List (Addr × Obj)) (s : Shared) (σ : St) (H : Hp) (x : V) (v : Value) (Q : VK), Inv X pins σ H s → RelV x v → r x H Q →
    wpAny (model X.prog X.w) X.A (f v) (EP X pins σ Q) X.xe s
def CallR (X : Cx) (f : Value) (r : List V → Hp → VK → Prop) : Prop :=
  ∀ (pins : List (Addr × Obj)) (s : Shared) (σ : St) (H : Hp) (xs : List V) (us : List Value) (Q : VK), Inv X pins σ H s → Vals xs us → r xs H Q →
    wpAny (model X.prog X.w) X.A (call f us) (EP X pins σ Q) X.xe s
def tOp (r : R2) (ta tb : TE) : TE := fun σ H Q => ta σ H fun x H1 => tb σ H1 fun y H2 => r x y H2 Q
def tUn (r : V → Hp → VK → Prop) (ta : TE) : TE := fun σ H Q => ta σ H fun x H1 => r x H1 Q
def rI (C : Int → Int → Prop) (g : Int → Int → V) : R2 := fun x y H Q => ∃ i j, x = .int i ∧ y = .int j ∧ C i j ∧ Q (g i j) H
def rI0 (g : Int → Int → V) : R2 := fun x y H Q => ∃ i j, x = .int i ∧ y = .int j ∧ Q (g i j) H
def rU (g : Int → V) : V → Hp → VK → Prop := fun x H Q => ∃ i, x = .int i ∧ Q (g i) H
section
variable {X : Cx} {a b c : Expr} {ta tb tc : TE} {pos : Pos}
theorem binT (ha : PE X a ta) (hb : PE X b tb) {pins : List (Addr × Obj)} {s : Shared} {σ : St} {H : Hp} {R : V → V → Hp → Prop} (I : Inv X pins σ H s)
    (h : ta σ H fun x H1 => tb σ H1 fun y H2 => R x y H2) {Q : Value → Shared → Prop} {f : Value → Value → Sem Value}
    (hf : ∀ v u s2 x y H2, Inv X pins σ H2 s2 → RelV x v → RelV y u → R x y H2 → wpAny (model X.prog X.w) X.A (f v u) Q X.xe s2) :
    wpAny (model X.prog X.w) X.A (eval a X.env) (fun v s₁ => wpAny (model X.prog X.w) X.A (eval b X.env) (fun u s₂ => wpAny (model X.prog X.w) X.A (f v u) Q X.xe s₂) X.xe s₁) X.xe s := by
  refine thn (ha pins s σ H _ I h) fun v s1 ⟨x, H1, I1, r1, q1⟩ => ?_
  refine thn (hb pins s1 σ H1 _ I1 q1) fun u s2 ⟨y, H2, I2, r2, q2⟩ => ?_
  exact hf v u s2 x y H2 I2 r1 r2 q2
theorem pe_op {op : Operator} {r : R2} (ho : OpR X (binaryOp op) r) (ha : PE X a ta) (hb : PE X b tb) : PE X (.BinOp a op b pos) (tOp r ta tb) := by
  intro pins s σ H Q I h
  exact wpAny_BinOp (binT ha hb I h fun v u s2 x y H2 I2 rx ry q => ho pins s2 σ H2 x y v u Q I2 rx ry q)
theorem pe_un {op : UnaryOp} {r : V → Hp → VK → Prop} (ho : UnR X (unaryOp op) r) (ha : PE X a ta) : PE X (.UnaryOp op a pos) (tUn r ta) := by
  intro pins s σ H Q I h
  exact UnaryOp_ (thn (ha pins s σ H _ I h) fun v s1 ⟨x, H1, I1, r1, q1⟩ => ho pins s1 σ H1 x v Q I1 r1 q1)
theorem opI {f : Value → Value → Sem Value} {C : Int → Int → Prop} {g : Int → Int → Int}
    (rule : ∀ (i j : Int) (t u : Tok) (s : Shared) (Q : Value → Shared → Prop) (E : Value → Shared → Prop), C i j → Q (.int (g i j) s.toks) { s with toks := s.toks + 1 } → wpAny (model X.prog X.w) X.A (f (.int i t) (.int j u)) Q E s) :
    OpR X f (rI C fun i j => .int (g i j)) := by
  intro pins s σ H x y v u Q I rx ry h
  obtain ⟨i, j, rfl, rfl, hc, q⟩ := h
  obtain ⟨t, rfl⟩ := rx
  obtain ⟨t', rfl⟩ := ry
  exact rule i j t t' s _ _ hc ⟨.int (g i j), H, I.tok _, ⟨_, rfl⟩, q⟩
theorem opI0 {f : Value → Value → Sem Value} {g : Int → Int → Int}
    (rule : ∀ (i j : Int) (t u : Tok) (s : Shared) (Q : Value → Shared → Prop) (E : Value → Shared → Prop), Q (.int (g i j) s.toks) { s with toks := s.toks + 1 } → wpAny (model X.prog X.w) X.A (f (.int i t) (.int j u)) Q E s) :
    OpR X f (rI0 fun i j => .int (g i j)) := by
  intro pins s σ H x y v u Q I rx ry h
  obtain ⟨i, j, rfl, rfl, q⟩ := h
  obtain ⟨t, rfl⟩ := rx
  obtain ⟨t', rfl⟩ := ry
  exact rule i j t t' s _ _ ⟨.int (g i j), H, I.tok _, ⟨_, rfl⟩, q⟩
theorem opB0 {f : Value → Value → Sem Value} {g : Int → Int → Bool}
    (rule : ∀ (i j : Int) (t u : Tok) (s : Shared) (Q : Value → Shared → Prop) (E : Value → Shared → Prop), Q (.bool (g i j)) s → wpAny (model X.prog X.w) X.A (f (.int i t) (.int j u)) Q E s) :
    OpR X f (rI0 fun i j => .bl (g i j)) := by
  intro pins s σ H x y v u Q I rx ry h
  obtain ⟨i, j, rfl, rfl, q⟩ := h
  obtain ⟨t, rfl⟩ := rx
  obtain ⟨t', rfl⟩ := ry
  exact rule i j t t' s _ _ ⟨.bl (g i j), H, I, rfl, q⟩
def CDiv (i j : Int) : Prop := 0 < j ∧ j < 1073741824
def CMul (i j : Int) : Prop := (-(2 ^ 64) < i ∧ i < 2 ^ 64) ∨ (-(2 ^ 64) < j ∧ j < 2 ^ 64)
theorem CMul.ok {i j : Int} (h : CMul i j) : IntMulOk i j := by
  rcases h with ⟨h1, h2⟩ | ⟨h1, h2⟩
  · exact .of_left (intBits_le_64 h1 h2)
  · exact .of_right (intBits_le_64 h1 h2)
theorem op_add : OpR X (binaryOp .Add) (rI0 fun i j => .int (i + j)) := opI0 fun _ _ _ _ _ _ _ q => add_int q
theorem op_sub : OpR X (binaryOp .Sub) (rI0 fun i j => .int (i - j)) := opI0 fun _ _ _ _ _ _ _ q => sub_int q
theorem op_mul : OpR X (binaryOp .Mult) (rI CMul fun i j => .int (i * j)) := opI fun _ _ _ _ _ _ _ hc q => mul_int q hc.ok
theorem op_fdiv : OpR X (binaryOp .FloorDiv) (rI CDiv fun i j => .int (i / j)) := opI fun i j _ _ _ _ _ hc q => by
  have h1 : (0 : Int) < j := hc.1
  have h2 : j < 1073741824 := hc.2
  exact floordiv_int (by omega) (by rw [Int.fdiv_eq_ediv_of_nonneg i (by omega)]; exact q) (.inl (PyProof.noPylong_small (by omega)))
theorem op_mod : OpR X (binaryOp .Mod) (rI (fun _ j => 0 < j) fun i j => .int (i % j)) := opI fun i j _ _ _ _ _ hc q => by
  have h1 : (0 : Int) < j := hc
  exact mod_int' (by omega) (by rw [Int.fmod_eq_emod_of_nonneg i (by omega)]; exact q)
theorem unI {f : Value → Sem Value} {g : Int → Int}
    (rule : ∀ (i : Int) (t : Tok) (s : Shared) (Q : Value → Shared → Prop) (E : Value → Shared → Prop), Q (.int (g i) s.toks) { s with toks := s.toks + 1 } → wpAny (model X.prog X.w) X.A (f (.int i t)) Q E s) :
    UnR X f (rU fun i => .int (g i)) := by
  intro pins s σ H x v Q I rx h
  obtain ⟨i, rfl, q⟩ := h
  obtain ⟨t, rfl⟩ := rx
  exact rule i t s _ _ ⟨.int (g i), H, I.tok _, ⟨_, rfl⟩, q⟩
theorem un_neg : UnR X (unaryOp .USub) (rU fun i => .int (-i)) := unI fun _ _ _ _ _ q => neg_int q
end
def scal : V → V → Bool
  | .non, .non => true | .non, .int _ => true | .int _, .non => true | .non, .bl _ => true | .bl _, .non => true | .non, .str _ => true | .str _, .non => true
  | .int _, .int _ => true | .bl _, .bl _ => true | .str _, .str _ => true | .byt _, .byt _ => true
  | .int _, .str _ => true | .str _, .int _ => true | .bl _, .str _ => true | .str _, .bl _ => true
  | _, _ => false
def rEq : R2 := fun x y H Q => scal x y = true ∧ Q (.bl (decide (x = y))) H
def rNe : R2 := fun x y H Q => scal x y = true ∧ Q (.bl (!decide (x = y))) H
theorem dec_int {i j : Int} : decide (V.int i = V.int j) = (i == j) := by
  rw [Bool.eq_iff_iff]
  simp
theorem dec_bl {i j : Bool} : decide (V.bl i = V.bl j) = (i == j) := by
  rw [Bool.eq_iff_iff]
  simp
theorem dec_str {i j : Str} : decide (V.str i = V.str j) = (i == j) := by
  rw [Bool.eq_iff_iff]
  simp
theorem dec_byt {i j : Array UInt8} : decide (V.byt i = V.byt j) = (i.toList == j.toList) := by
  rw [Bool.eq_iff_iff]
  cases i
  cases j
  simp
section
variable {X : Cx} {a b c : Expr} {ta tb tc : TE} {pos : Pos}
theorem fin_bl {pins : List (Addr × Obj)} {σ : St} {H : Hp} {s : Shared} {Q : VK} {k k' : Bool} (I : Inv X pins σ H s) (q : Q (.bl k) H) (e : k = k') : EP X pins σ Q (.bool k') s := by
  subst e
  exact ⟨.bl k, H, I, rfl, q⟩
theorem op_eq : OpR X (compareOp .Eq) rEq := by
  intro pins s σ H x y v u Q I rx ry h
  obtain ⟨hs, q⟩ := h
  cases x with
  | non =>
    cases rx
    cases y with
    | non => cases ry; exact PySem.EqNone.eq_none_none (fin_bl I q (by simp))
    | bl j => cases ry; exact PySem.EqNone.eq_none_bool (fin_bl I q (by simp))
    | int j => obtain ⟨t', rfl⟩ := ry; exact PySem.EqNone.eq_none_int (fin_bl I q (by simp))
    | str j => obtain ⟨t', rfl⟩ := ry; exact PySem.EqNone.eq_none_str (fin_bl I q (by simp))
    | _ => exact absurd (show false = true from hs) Bool.false_ne_true
  | bl i =>
    cases rx
    cases y with
    | non => cases ry; exact PySem.EqNone.eq_bool_none (fin_bl I q (by simp))
    | bl j => cases ry; exact eq_bool (fin_bl I q dec_bl)
    | str j => obtain ⟨t', rfl⟩ := ry; exact PySem.EqMixed.eq_bool_str (fin_bl I q (by simp))
    | _ => exact absurd (show false = true from hs) Bool.false_ne_true
  | int i =>
    obtain ⟨t, rfl⟩ := rx
    cases y with
    | non => cases ry; exact PySem.EqNone.eq_int_none (fin_bl I q (by simp))
    | int j => obtain ⟨t', rfl⟩ := ry; exact eq_int (fin_bl I q dec_int)
    | str j => obtain ⟨t', rfl⟩ := ry; exact PySem.EqMixed.eq_int_str (fin_bl I q (by simp))
    | _ => exact absurd (show false = true from hs) Bool.false_ne_true
  | str i =>
    obtain ⟨t, rfl⟩ := rx
    cases y with
    | non => cases ry; exact PySem.EqNone.eq_str_none (fin_bl I q (by simp))
    | bl j => cases ry; exact PySem.EqMixed.eq_str_bool (fin_bl I q (by simp))
    | int j => obtain ⟨t', rfl⟩ := ry; exact PySem.EqMixed.eq_str_int (fin_bl I q (by simp))
    | str j => obtain ⟨t', rfl⟩ := ry; exact eq_str (fin_bl I q dec_str)
    | _ => exact absurd (show false = true from hs) Bool.false_ne_true
  | byt i =>
    obtain ⟨t, rfl⟩ := rx
    cases y with
    | byt j => obtain ⟨t', rfl⟩ := ry; exact PySem.W.eq_bytes (fin_bl I q dec_byt)
    | _ => exact absurd (show false = true from hs) Bool.false_ne_true
  | _ => cases y <;> exact absurd (show false = true from hs) Bool.false_ne_true
theorem op_ne : OpR X (compareOp .NotEq) rNe := by
  intro pins s σ H x y v u Q I rx ry h
  obtain ⟨hs, q⟩ := h
  cases x with
  | non =>
    cases rx
    cases y with
    | non => cases ry; exact PySem.EqNone.ne_none_none (fin_bl I q (by simp))
    | bl j => cases ry; exact PySem.EqNone.ne_none_bool (fin_bl I q (by simp))
    | int j => obtain ⟨t', rfl⟩ := ry; exact PySem.EqNone.ne_none_int (fin_bl I q (by simp))
    | str j => obtain ⟨t', rfl⟩ := ry; exact PySem.EqNone.ne_none_str (fin_bl I q (by simp))
    | _ => exact absurd (show false = true from hs) Bool.false_ne_true
  | bl i =>
    cases rx
    cases y with
    | non => cases ry; exact PySem.EqNone.ne_bool_none (fin_bl I q (by simp))
    | bl j => cases ry; exact ne_bool (fin_bl I q (congrArg not dec_bl))
    | str j => obtain ⟨t', rfl⟩ := ry; exact PySem.EqMixed.ne_bool_str (fin_bl I q (by simp))
    | _ => exact absurd (show false = true from hs) Bool.false_ne_true
  | int i =>
    obtain ⟨t, rfl⟩ := rx
    cases y with
    | non => cases ry; exact PySem.EqNone.ne_int_none (fin_bl I q (by simp))
    | int j => obtain ⟨t', rfl⟩ := ry; exact ne_int (fin_bl I q (congrArg not dec_int))
    | str j => obtain ⟨t', rfl⟩ := ry; exact PySem.EqMixed.ne_int_str (fin_bl I q (by simp))
    | _ => exact absurd (show false = true from hs) Bool.false_ne_true
  | str i =>
    obtain ⟨t, rfl⟩ := rx
    cases y with
    | non => cases ry; exact PySem.EqNone.ne_str_none (fin_bl I q (by simp))
    | bl j => cases ry; exact PySem.EqMixed.ne_str_bool (fin_bl I q (by simp))
    | int j => obtain ⟨t', rfl⟩ := ry; exact PySem.EqMixed.ne_str_int (fin_bl I q (by simp))
    | str j => obtain ⟨t', rfl⟩ := ry; exact ne_str (fin_bl I q (congrArg not dec_str))
    | _ => exact absurd (show false = true from hs) Bool.false_ne_true
  | byt i =>
    obtain ⟨t, rfl⟩ := rx
    cases y with
    | byt j => obtain ⟨t', rfl⟩ := ry; exact PySem.W.ne_bytes (fin_bl I q (congrArg not dec_byt))
    | _ => exact absurd (show false = true from hs) Bool.false_ne_true
  | _ => cases y <;> exact absurd (show false = true from hs) Bool.false_ne_true
theorem op_lt : OpR X (compareOp .Lt) (rI0 fun i j => .bl (decide (i < j))) := opB0 fun _ _ _ _ _ _ _ q => lt_int q
theorem op_le : OpR X (compareOp .LtE) (rI0 fun i j => .bl (decide (i ≤ j))) := opB0 fun _ _ _ _ _ _ _ q => le_int q
theorem op_gt : OpR X (compareOp .Gt) (rI0 fun i j => .bl (decide (j < i))) := opB0 fun _ _ _ _ _ _ _ q => gt_int q
theorem op_ge : OpR X (compareOp .GtE) (rI0 fun i j => .bl (decide (j ≤ i))) := opB0 fun _ _ _ _ _ _ _ q => ge_int q
theorem nomark (b : Expr) {op : CmpOp} (h : op ≠ .In := by decide) (h2 : op ≠ .NotIn := by decide) : behindInMarks op b = false := by
  have e1 : (op == CmpOp.In) = false := by cases op <;> first | rfl | exact absurd rfl h
  have e2 : (op == CmpOp.NotIn) = false := by cases op <;> first | rfl | exact absurd rfl h2
  cases b <;> simp [behindInMarks, e1, e2]
theorem pe_cmpR {op : CmpOp} {r : R2} (ho : OpR X (compareOp op) r) (ha : PE X a ta) (hb : PE X b tb) (hm : behindInMarks op b = false) : PE X (.Compare a [op] [b] pos) (tOp r ta tb) := by
  intro pins s σ H Q I h
  exact wpAny_Compare1 (binT ha hb I h fun v u s2 x y H2 I2 rx ry q => ho pins s2 σ H2 x y v u Q I2 rx ry q) hm
def tTest (t : TE) : TT := fun σ H Q => t σ H fun x H' => ∃ k, x = .bl k ∧ Q k H'
theorem pt_cmpR {op : CmpOp} {r : R2} (ho : OpR X (compareOp op) r) (ha : PE X a ta) (hb : PE X b tb) (hm : behindInMarks op b = false) : PT X (.Compare a [op] [b] pos) (tTest (tOp r ta tb)) := by
  intro pins s σ H Q I h
  refine wpAny_isTrue_Compare1 (thn (ha pins s σ H _ I h) fun v s1 ⟨x, H1, I1, r1, q1⟩ => thn (hb pins s1 σ H1 _ I1 q1) fun u s2 ⟨y, H2, I2, r2, q2⟩ =>
    thn (ho pins s2 σ H2 x y v u _ I2 r1 r2 q2) fun c s3 ⟨z, H3, I3, r3, k, e, q3⟩ => ?_) hm
  subst e
  cases r3
  exact wpAny_truthy_bool ⟨H3, I3, q3⟩
def tChain (r r' : R2) (ta tb tc : TE) : TE := fun σ H Q => ta σ H fun x H1 => tb σ H1 fun y H2 => r x y H2 fun z H3 => ∃ k, z = .bl k ∧
  (if k = true then tc σ H3 fun w' H4 => r' y w' H4 Q else Q (.bl false) H3)
theorem pe_chain {op op' : CmpOp} {r r' : R2} (ho : OpR X (compareOp op) r) (ho' : OpR X (compareOp op') r') (ha : PE X a ta) (hb : PE X b tb) (hc : PE X c tc)
    (hm : lastMarks [op, op'] [b, c] = false := by with_unfolding_all rfl) : PE X (.Compare a [op, op'] [b, c] pos) (tChain r r' ta tb tc) := by
  intro pins s σ H Q I h
  refine Compare_chain (thn (ha pins s σ H _ I h) fun v s1 ⟨x, H1, I1, r1, q1⟩ => chain_link (thn (hb pins s1 σ H1 _ I1 q1) fun u s2 ⟨y, H2, I2, r2, q2⟩ =>
    thn (ho pins s2 σ H2 x y v u _ I2 r1 r2 q2) fun d s3 ⟨z, H3, I3, r3, k, e, q3⟩ => ?_)) hm
  subst e
  cases r3
  refine wpAny_truthy_bool ?_
  cases k with
  | false => exact ite_ff ⟨.bl false, H3, I3, rfl, q3⟩
  | true => exact ite_tt (chain_last (thn (hc pins s3 σ H3 _ I3 q3) fun w' s4 ⟨z', H4, I4, r4, q4⟩ => ho' pins s4 σ H4 y z' u w' Q I4 r2 r4 q4))
theorem line63 : (sizeLine : Nat) < 2 ^ 63 := by rw [sizeLine_eq]; decide
theorem vals1 {x : V} {us : List Value} (r : Vals [x] us) : ∃ u, us = [u] ∧ RelV x u := by
  cases r with
  | cons r1 r2 => cases r2; exact ⟨_, rfl, r1⟩
theorem vals2 {x y : V} {us : List Value} (r : Vals [x, y] us) : ∃ u w', us = [u, w'] ∧ RelV x u ∧ RelV y w' := by
  cases r with
  | cons r1 r2 =>
    cases r2 with
    | cons r3 r4 => cases r4; exact ⟨_, _, rfl, r1, r3⟩
theorem call_int1 : CallR X (.type "int") (fun xs H Q => (∃ i, xs = [.int i] ∧ Q (.int i) H) ∨ ∃ k, xs = [.bl k] ∧ Q (.int (if k then 1 else 0)) H) := by
  intro pins s σ H xs us Q I r h
  rcases h with ⟨i, rfl, q⟩ | ⟨k, rfl, q⟩
  · obtain ⟨u, rfl, t, rfl⟩ := vals1 r
    exact call_int_int ⟨.int i, H, I, ⟨_, rfl⟩, q⟩
  · obtain ⟨u, rfl, r1⟩ := vals1 r
    cases r1
    exact call_int_bool ⟨.int (if k then 1 else 0), H, I.tok _, ⟨_, rfl⟩, q⟩
end
end L2
namespace L2
open PySem PySem.Spec PyProof.Rows
structure ObjM (h : Heap) (x dx C : Addr) (mA : Str → Option Value) : Prop where
  obj : h.get? x = some (PySem.W.instObj C dx)
  ns : h.Ns1 dx mA
  ne : dx ≠ x
theorem lookIn_ns {h : Heap} {dx : Addr} {mA : Str → Option Value} (n : h.Ns1 dx mA) : ∃ od, h.get? dx = some od ∧ ∀ name, PySem.W.lookIn name od = some (mA name) := by
  obtain ⟨o, es, ep, ho, hd, hk, _, hm⟩ := n
  refine ⟨o, ho, fun name => ?_⟩
  have e := hm name
  unfold nsFind findBy at e
  rw [← Array.find?_toList] at e
  unfold PySem.W.lookIn
  rw [hd]
  dsimp only
  split
  · rename_i y q
    rw [q] at e
    exact congrArg some e
  · rename_i q
    rw [q] at e
    have a : es.toList.any (·.refKey) = false := by
      rw [List.any_eq_false]
      intro y hy
      obtain ⟨z, t, hkey⟩ := hk y (Array.mem_toList_iff.mp hy)
      simp [DictEntry.refKey, hkey]
    have a' : ¬ es.toList.any (·.refKey) = true := by rw [a]; exact Bool.false_ne_true
    rw [if_neg a']
    exact congrArg some e
theorem ObjM.look {h : Heap} {x dx C : Addr} {mA : Str → Option Value} (I : ObjM h x dx C mA) : ∃ od, PySem.W.InstAt h x (PySem.W.instObj C dx) C (some od) ∧ ∀ name, PySem.W.lookIn name od = some (mA name) :=
  let ⟨od, ho, hl⟩ := lookIn_ns I.ns
  ⟨od, ⟨I.obj, rfl, rfl, ho⟩, hl⟩
section
variable {prog : Program} {w : World} {A : Around} {E : Value → Shared → Prop} {s : Shared} {K : PySem.W.Frag} {x dx C f : Addr} {mA : Str → Option Value} {name : Str} {v : Value}
theorem get_map {expr : Bool} {Q : Value → Shared → Prop} (X : K.In s.heap) (I : ObjM s.heap x dx C mA) (hg : PySem.W.plainGet K C name = true) (hh : PySem.W.hasDictIn K C = true)
    (ha : PySem.W.findIn K (.ref C) name = some none) (hv : mA name = some v) (hv' : PySem.W.handedIn v = true) (h : Q v { s with toks := s.toks + 1 }) :
    wpAny (model prog w) A (getAttr (.ref x) name expr) Q E s := by
  obtain ⟨od, J, hl⟩ := I.look
  exact PySem.W.get_value X J (PySem.W.plainGet_of hg).1 (PySem.W.findObj_own hh ha rfl (by rw [hl, hv])) hv' h
theorem get_meth {pl : Sem Bool} {Q : Value × List Value → Shared → Prop} (X : K.In s.heap) (I : ObjM s.heap x dx C mA) (hg : PySem.W.plainGet K C name = true)
    (hf : PySem.W.findIn K (.ref C) name = some (some (.ref f))) (ht : PySem.W.isFn K (.ref f) = true) (hv : mA name = none) (h : Q (.ref f, [.ref x]) s) :
    wpAny (model prog w) A (getMethod (.ref x) name pl) Q E s := by
  obtain ⟨od, J, hl⟩ := I.look
  exact PySem.W.method_fn X J (PySem.W.plainGet_of hg).1 (PySem.W.plainGet_of hg).2 hf (beq_iff_eq.mp ht) (by show (PySem.W.lookIn name od).map (·.isSome) = some false; rw [hl, hv]; rfl) h
theorem set_map {ns : List Str} {Q : Unit → Shared → Prop} (X : K.In s.heap) (I : ObjM s.heap x dx C mA)
    (hs : PySem.W.findIn K (.ref C) "__setattr__" = some (some (.builtin "object.__setattr__"))) (hp : PySem.W.plainOver K C = true) (ht : PySem.W.takerIn K C name = some none) (hh : PySem.W.hasDictIn K C = true)
    (hw : PySem.Within mA ns) (hsz : ns.length ≤ sizeLine)
    (h : ∀ h', ObjM h' x dx C (fun y => if y = name then some v else mA y) → Heap.SameBut dx s.heap h' → Q () { s with heap := h', toks := s.toks + 2 }) :
    wpAny (model prog w) A (setAttr (.ref x) name v) Q E s := by
  obtain ⟨od, J, hl⟩ := I.look
  refine PySem.W.set_plain X J hs (PySem.W.osa_open (s := { s with toks := s.toks + 1 }) (r := none) X J hp ht fun b => ?_)
  obtain ⟨cd, hc, hd'⟩ := PySem.W.any_some hh
  have hx : s.heap.get? x = some ⟨.ref C, some dx, .plain, #[]⟩ := I.obj
  refine wpAny_bind (wpAny_pure (wpAny_bind (wpAny_bind (wpAny_loadPart hx (wpAny_bind (PySem.W.Looks.here (s := { s with toks := s.toks + 1 }) (PySem.W.looks_clsIn X hc) ?_))))))
  rw [hd']
  refine wpAny_pure (a := some dx) (wpAny_bind (wpAny_pure (wpAny_bind ?_)))
  refine wpAny_nsSet1 (s := { s with toks := s.toks + 1 }) I.ns fun h' hn2 hs2 => ?_
  obtain ⟨oD, esD, epD, hoD, hdD, hcD⟩ := hn2.count (PySem.Within.cons name v hw)
  refine wpAny_bind (wpAny_lookBehind hoD (by rw [hdD]; exact pastItsLine_dict (Nat.le_trans hcD (by rw [List.length_cons]; omega))) ?_)
  exact wpAny_pure (h _ ⟨(hs2.2 _ (Ne.symm I.ne)).trans I.obj, hn2, I.ne⟩ hs2)
theorem make_map {R : Result → Shared → Prop} {vs : List Value} {kw : List (Str × Value)} (X : K.In s.heap) (hm : PySem.W.makesIn K C = true)
    (hi : PySem.W.findIn K (.ref C) "__init__" = some (some (.ref f))) (hf : PySem.W.typeIn K (.ref f) = some (.type "function"))
    (h : codeAny (model prog w) (A.under (.builtin "type.__call__" ⟨.ref C :: vs, kw⟩)) (.call (.ref f) ⟨.ref (s.heap.objs.size + 1) :: vs, kw⟩) (PySem.W.InitBack (s.heap.objs.size + 1) R)
      { s with heap := (s.heap.push PySem.W.emptyDict).push (PySem.W.instObj C s.heap.objs.size) }) :
    codeAny (model prog w) A (.call (.ref C) ⟨vs, kw⟩) R s := by
  obtain ⟨hh, g, d, t, os⟩ := s
  exact PySem.W.make_core (PySem.W.makes_of X hm) (PySem.W.looks_findIn X hi) (fun self => PySem.W.bind_fn X self hf) (.inl rfl) h
end
def putF (f : Str) (v : V) : List (Str × V) → List (Str × V)
  | [] => [(f, v)]
  | (g, x) :: r => if g = f then (g, v) :: r else (g, x) :: putF f v r
theorem lookup_putF (f g : Str) (v : V) : ∀ fs : List (Str × V), (putF f v fs).lookup g = if g = f then some v else fs.lookup g
  | [] => by
    show List.lookup g [(f, v)] = _
    by_cases h : g = f
    · have hb : (g == f) = true := beq_iff_eq.mpr h
      simp only [List.lookup, hb, if_pos h]
    · have hb : (g == f) = false := beq_eq_false_iff_ne.mpr h
      simp only [List.lookup, hb, if_neg h]
  | (k, x) :: r => by
    have ih := lookup_putF f g v r
    rw [show putF f v ((k, x) :: r) = (if k = f then (k, v) :: r else (k, x) :: putF f v r) from rfl]
    by_cases hk : k = f
    · rw [if_pos hk]
      by_cases h : g = k
      · have hb : (g == k) = true := beq_iff_eq.mpr h
        simp only [List.lookup, hb, if_pos (h.trans hk)]
      · have hb : (g == k) = false := beq_eq_false_iff_ne.mpr h
        simp only [List.lookup, hb, if_neg (fun e : g = f => h (e.trans hk.symm))]
    · rw [if_neg hk]
      by_cases h : g = k
      · have hb : (g == k) = true := beq_iff_eq.mpr h
        simp only [List.lookup, hb, if_neg (fun e : g = f => hk (h.symm.trans e))]
      · have hb : (g == k) = false := beq_eq_false_iff_ne.mpr h
        simp only [List.lookup, hb]
        exact ih
theorem keys_putF (f : Str) (v : V) : ∀ fs : List (Str × V), f ∈ (putF f v fs).map (·.1) ∧ ∀ g, g ∈ fs.map (·.1) → g ∈ (putF f v fs).map (·.1)
  | [] => ⟨by simp [putF], fun g h => by simp at h⟩
  | (k, x) :: r => by
    obtain ⟨i1, i2⟩ := keys_putF f v r
    rw [show putF f v ((k, x) :: r) = (if k = f then (k, v) :: r else (k, x) :: putF f v r) from rfl]
    by_cases hk : k = f
    · rw [if_pos hk]
      subst hk
      exact ⟨by simp, fun g h => by simpa using h⟩
    · rw [if_neg hk]
      refine ⟨?_, fun g h => ?_⟩
      · rw [List.map_cons]
        exact List.mem_cons_of_mem _ i1
      · rw [List.map_cons] at h ⊢
        rcases List.mem_cons.mp h with e | e
        · exact List.mem_cons.mpr (.inl e)
        · exact List.mem_cons_of_mem _ (i2 g e)
theorem length_putF (f : Str) (v : V) : ∀ fs : List (Str × V), (putF f v fs).length ≤ fs.length + 1
  | [] => by simp [putF]
  | (k, x) :: r => by
    have ih := length_putF f v r
    rw [show putF f v ((k, x) :: r) = (if k = f then (k, v) :: r else (k, x) :: putF f v r) from rfl]
    by_cases hk : k = f
    · rw [if_pos hk, List.length_cons, List.length_cons]; omega
    · rw [if_neg hk, List.length_cons, List.length_cons]; omega
theorem RelO.some_of {v : V} {o : Option Value} (r : RelO (some v) o) : ∃ u, o = some u ∧ RelV v u := by
  cases o with
  | none => exact (show False from r).elim
  | some u => exact ⟨u, rfl, r⟩
theorem RelO.none_of {o : Option Value} (r : RelO none o) : o = none := by
  cases o with
  | none => rfl
  | some u => exact (show False from r).elim
theorem handed_of {v : V} {u : Value} (r : RelV v u) : PySem.W.handedIn u = true := by
  cases v with
  | non => cases (show u = Value.none from r); rfl
  | bl b => cases (show u = Value.bool b from r); rfl
  | int i => obtain ⟨t, e⟩ := (show ∃ t, u = Value.int i t from r); cases e; rfl
  | str x => obtain ⟨t, e⟩ := (show ∃ t, u = Value.str x t from r); cases e; rfl
  | byt b => obtain ⟨t, e⟩ := (show ∃ t, u = Value.bytes b t from r); cases e; rfl
  | flt b => obtain ⟨t, e⟩ := (show ∃ t, u = Value.float b t from r); cases e; rfl
  | ref a => cases (show u = Value.ref a from r); rfl
  | ty n => cases (show u = Value.type n from r); rfl
section
variable {P : Program} {w : World} {H H' : Hp} {h h' : Heap} {a C dx : Addr} {fs fs' : List (Str × V)}
theorem ins_get (hok : HOk P w H h) (e : H a = some (.ins C dx fs)) : ∃ mA, ObjM h a dx C mA ∧ (∀ f, RelO (fs.lookup f) (mA f)) ∧ PySem.Within mA (fs.map (·.1)) ∧ fs.length ≤ 1000 ∧ H dx = some (.own a) := by
  obtain ⟨d, z, ne, ob, mA, n, r, q⟩ := (show ObjOk P w H h a (.ins C dx fs) from hok a _ e)
  exact ⟨mA, ⟨ob, n, ne⟩, r, q, z, d⟩
end
structure Cls (K : PySem.W.Frag) (C : Addr) : Prop where
  pg : PySem.W.plainGet K C Str.empty = true
  hd : PySem.W.hasDictIn K C = true
  po : PySem.W.plainOver K C = true
  sa : PySem.W.findIn K (.ref C) "__setattr__" = some (some (.builtin "object.__setattr__"))
theorem Cls.get {K : PySem.W.Frag} {C : Addr} (c : Cls K C) (f : Str) : PySem.W.plainGet K C f = true := c.pg
def NoAttr (K : PySem.W.Frag) (C : Addr) (f : Str) : Prop := PySem.W.findIn K (.ref C) f = some none
theorem NoAttr.taker {K : PySem.W.Frag} {C : Addr} {f : Str} (n : NoAttr K C f) : PySem.W.takerIn K C f = some none := by
  unfold PySem.W.takerIn
  rw [show PySem.W.findIn K (.ref C) f = some none from n]
  rfl
structure Meth (K : PySem.W.Frag) (C : Addr) (m : Str) (f : Addr) : Prop where
  at_ : PySem.W.findIn K (.ref C) m = some (some (.ref f))
  fn : PySem.W.isFn K (.ref f) = true
  kp : PySem.W.keepIn K (.ref f) = true
section
variable {X : Cx} {pins : List (Addr × Obj)} {σ : St} {H : Hp} {s : Shared} {a C dx : Addr} {fs : List (Str × V)} {f : Str} {v : V} {A : Around} {E : Value → Shared → Prop}
theorem getattr_ok {b : Bool} {Q : Value → Shared → Prop} (I : Inv X pins σ H s) (e : H a = some (.ins C dx fs)) (c : Cls X.K C) (n : NoAttr X.K C f) (l : fs.lookup f = some v)
    (h : ∀ u s', Inv X pins σ H s' → RelV v u → Q u s') : wpAny (model X.prog X.w) A (getAttr (.ref a) f b) Q E s := by
  obtain ⟨mA, O, r, _, _, _⟩ := ins_get I.hok e
  obtain ⟨u, hu, ru⟩ := RelO.some_of (v := v) (o := mA f) (by rw [← l]; exact r f)
  exact get_map I.kIn O (c.get f) c.hd n hu (handed_of ru) (h u _ (I.tok _) ru)
theorem getmeth_ok {m : Str} {g : Addr} {pl : Sem Bool} {Q : Value × List Value → Shared → Prop} (I : Inv X pins σ H s) (e : H a = some (.ins C dx fs)) (c : Cls X.K C) (k : Meth X.K C m g) (l : fs.lookup m = none)
    (h : Q (.ref g, [.ref a]) s) : wpAny (model X.prog X.w) A (getMethod (.ref a) m pl) Q E s := by
  obtain ⟨mA, O, r, _, _, _⟩ := ins_get I.hok e
  have hn : mA m = none := RelO.none_of (by rw [← l]; exact r m)
  exact get_meth I.kIn O (c.get m) k.at_ k.fn hn h
theorem setattr_ok {y : V} {u : Value} {Q : Unit → Shared → Prop} (I : Inv X pins σ H s) (e : H a = some (.ins C dx fs)) (c : Cls X.K C) (n : NoAttr X.K C f) (hl : fs.length < 1000) (ry : RelV y u)
    (h : ∀ s', Inv X pins σ (upd H a (.ins C dx (putF f y fs))) s' → Q () s') : wpAny (model X.prog X.w) A (setAttr (.ref a) f u) Q E s := by
  obtain ⟨mA, O, r, wi, _, ho⟩ := ins_get I.hok e
  have hz : (fs.map (·.1)).length ≤ sizeLine := by rw [List.length_map, sizeLine_eq]; omega
  refine set_map I.kIn O c.sa c.po n.taker c.hd wi hz fun h' O' sb => h _ ?_
  have hd : ∃ o, h'.get? dx = some o := let ⟨o, _, _, e', _⟩ := O'.ns; ⟨o, e'⟩
  refine I.write (x := a) (e := dx) (by rw [e]; exact True.intro) (.inr ho) (fun b q hb z => (sb.2 b hb).trans z) hd ?_
  refine ⟨by rw [upd_ne O.ne]; exact ho, ?_, O.ne, O'.obj, _, O'.ns, fun g => ?_, fun g hg => ?_⟩
  · have := length_putF f y fs; omega
  · show RelO ((putF f y fs).lookup g) (if g = f then some u else mA g)
    rw [lookup_putF]
    by_cases q : g = f
    · rw [if_pos q, if_pos q]; exact ry
    · rw [if_neg q, if_neg q]; exact r g
  · by_cases q : g = f
    · rw [q]; exact (keys_putF f y fs).1
    · refine (keys_putF f y fs).2 g (wi g fun z => hg ?_)
      show (if g = f then some u else mA g) = none
      rw [if_neg q]; exact z
theorem Inv.made (I : Inv X pins σ H s) : Inv X pins σ (upd (upd H s.heap.objs.size (.own (s.heap.objs.size + 1))) (s.heap.objs.size + 1) (.ins C s.heap.objs.size []))
    { s with heap := (s.heap.push PySem.W.emptyDict).push (PySem.W.instObj C s.heap.objs.size) } := by
  have e1 : (s.heap.push PySem.W.emptyDict).get? s.heap.objs.size = some PySem.W.emptyDict := Heap.get?_push_size s.heap rfl
  have e2 : ((s.heap.push PySem.W.emptyDict).push (PySem.W.instObj C s.heap.objs.size)).get? (s.heap.objs.size + 1) = some (PySem.W.instObj C s.heap.objs.size) := by
    have := Heap.get?_push_size (s.heap.push PySem.W.emptyDict) (o := PySem.W.instObj C s.heap.objs.size) rfl
    rwa [Heap.size_push] at this
  have e3 : (s.heap.push PySem.W.emptyDict).Ns s.heap.objs.size (fun _ => none) := ⟨PySem.W.emptyDict, #[], _, e1, rfl, (fun e he => absurd he (by simp)), fun _ => rfl⟩
  have I1 := I.laid (a := s.heap.objs.size) (o := .own (s.heap.objs.size + 1)) (h' := s.heap.push PySem.W.emptyDict) (t' := s.toks) (fun b u q => Heap.get?_push_of_some _ q) (Nat.le_refl _) ⟨_, e1⟩
  refine I1.laid (a := s.heap.objs.size + 1) (o := .ins C s.heap.objs.size []) (t' := s.toks) (fun b u q => Heap.get?_push_of_some _ q) (Nat.le_of_eq (Heap.size_push _ _)) ?_
  have ne : s.heap.objs.size ≠ s.heap.objs.size + 1 := Nat.ne_of_lt (Nat.lt_succ_self _)
  refine ⟨by rw [upd_ne ne, upd_same], Nat.zero_le _, ne, e2, fun _ => none, (Heap.Ns1.of_empty e3).at fun o q => Heap.get?_push_of_some _ q, fun _ => True.intro, fun y hy => absurd rfl hy⟩
theorem attr_of {prog : Program} {w : World} {env : Env} {e : Expr} {f : Str} {pos : Pos} {s : Shared} {Q : Value → Shared → Prop} (hb : attributeBase e f env (eval e env) = eval e env)
    (h : wpAny (model prog w) A (eval e env) (fun o s₁ => wpAny (model prog w) A (getAttr o f true) Q E s₁) E s) : wpAny (model prog w) A (eval (.Attribute e f pos) env) Q E s :=
  Attribute_any_ h (by rw [arm_eval_Attribute, hb])
end
def tFld (K : PySem.W.Frag) (ta : TE) (f : Str) : TE := fun σ H Q => ta σ H fun x H1 => ∃ a C dx fs v, x = .ref a ∧ H1 a = some (.ins C dx fs) ∧ Cls K C ∧ NoAttr K C f ∧ fs.lookup f = some v ∧ Q v H1
def sFld (K : PySem.W.Frag) (ta tv : TE) (f : Str) : TS := fun D σ H => tv σ H fun y H1 => ta σ H1 fun x H2 => ∃ a C dx fs, x = .ref a ∧ H2 a = some (.ins C dx fs) ∧ Cls K C ∧ NoAttr K C f ∧ fs.length < 1000 ∧
  D.nx σ (upd H2 a (.ins C dx (putF f y fs)))
section
variable {X : Cx} {o e value : Expr} {f : Str} {pos pos' tpos : Pos} {ta tv : TE}
theorem pe_fld (he : PE X e ta) (hb : attributeBase e f X.env (eval e X.env) = eval e X.env) : PE X (.Attribute e f pos) (tFld X.K ta f) := by
  intro pins s σ H Q I h
  refine attr_of hb (thn (he pins s σ H _ I h) fun u s1 ⟨x, H1, I1, rx, a, C, dx, fs, v, ex, ea, c, n, l, q⟩ => ?_)
  subst ex
  obtain rfl : u = Value.ref a := rx
  exact getattr_ok I1 ea c n l fun u' s2 I2 ru => ⟨v, H1, I2, ru, q⟩
theorem ps_fld (ha : PE X o ta) (hv : PE X value tv) (hs : swapsWith value (some (.Attribute o f pos')) pos.line X.env = pure false) : PS X (.Assign [.Attribute o f pos'] value pos) (sFld X.K ta tv f) := by
  intro pins s σ H D I h
  refine plainObj_wpAny_Assign_Attribute (thn (hv pins s σ H _ I h) fun u s1 ⟨y, H1, I1, ry, q⟩ => thn (ha pins s1 σ H1 _ I1 q) fun ov s2 ⟨x, H2, I2, rx, a, C, dx, fs, ex, ea, c, n, l, q2⟩ => ?_) hs
  subst ex
  obtain rfl : ov = Value.ref a := rx
  exact setattr_ok I2 ea c n l ry fun s3 I3 => ⟨σ, _, I3, q2⟩
end
section
variable {X : Cx} {pins : List (Addr × Obj)} {σ : St} {H : Hp} {s : Shared} {A : Around} {E : Value → Shared → Prop} {Q : Value → Shared → Prop} {c : Value} {b : Bool}
inductive TyOf (K : PySem.W.Frag) (H : Hp) : V → Value → Prop where
  | non : TyOf K H .non (.type "NoneType")
  | bl (x : Bool) : TyOf K H (.bl x) (.type "bool")
  | int (i : Int) : TyOf K H (.int i) (.type "int")
  | str (x : Str) : TyOf K H (.str x) (.type "str")
  | flt (x : UInt64) : TyOf K H (.flt x) (.type "float")
  | lst {a : Addr} {xs : List V} (e : H a = some (.lst xs)) : TyOf K H (.ref a) (.type "list")
  | frz {a : Addr} {o : Obj} {xs : List V} (e : H a = some (.frz o (.lst xs))) : TyOf K H (.ref a) (.type "list")
  | tup {a : Addr} {xs : List V} (e : H a = some (.tup xs)) : TyOf K H (.ref a) (.type "tuple")
  | dK {a : Addr} {kvs : List (Key × V)} (e : H a = some (.dK kvs)) : TyOf K H (.ref a) (.type "dict")
  | dT {a : Addr} {kvs : List (List Key × V)} (e : H a = some (.dT kvs)) : TyOf K H (.ref a) (.type "dict")
  | ins {a C dx : Addr} {fs : List (Str × V)} (e : H a = some (.ins C dx fs)) (cl : Cls K C) (ha : PySem.W.findIn K (.ref C) "__class__" = some (some (.builtin "object.__class__")))
      (hn : PySem.W.specialIn K (.builtin "object.__class__") "__get__" = some (some (.builtin "getset_descriptor.__get__"))) (htk : PySem.W.takesIn K (.builtin "object.__class__") = some true)
      (hm : PySem.W.mroIn K C (.type "object") = some true) : TyOf K H (.ref a) (.ref C)
theorem isinst_ok {x : V} {u t : Value} (I : Inv X pins σ H s) (rx : RelV x u) (ty : TyOf X.K H x t) (e : PySem.W.kitOne X.K t c = some b) (h : ∀ tk, Q (.bool b) { s with toks := tk }) :
    wpAny (model X.prog X.w) A (call (.builtin "isinstance") [u, c]) Q E s := by
  cases ty with
  | non => cases (show u = Value.none from rx); exact PySem.W.kia_one PySem.W.kitx_none I.kIn True.intro e (fun z => nomatch z) h
  | bl y => cases (show u = Value.bool y from rx); exact PySem.W.kia_one PySem.W.kitx_bool I.kIn True.intro e (fun z => nomatch z) h
  | int i => obtain ⟨t, q⟩ := (show ∃ t, u = Value.int i t from rx); cases q; exact PySem.W.kia_one PySem.W.kitx_int I.kIn True.intro e (fun z => nomatch z) h
  | str y => obtain ⟨t, q⟩ := (show ∃ t, u = Value.str y t from rx); cases q; exact PySem.W.kia_one PySem.W.kitx_str I.kIn True.intro e (fun z => nomatch z) h
  | flt y => obtain ⟨t, q⟩ := (show ∃ t, u = Value.float y t from rx); cases q; exact PySem.W.kia_one PySem.W.kitx_float I.kIn True.intro e (fun z => nomatch z) h
  | @lst a xs ea =>
    cases (show u = Value.ref a from rx)
    obtain ⟨_, _, n, _, h1⟩ := (show ObjOk X.prog X.w H s.heap a (.lst xs) from I.hok a _ ea)
    exact PySem.W.kia_one PySem.W.kitx_list I.kIn ⟨_, h1, rfl⟩ e (fun z => nomatch z) h
  | @frz a ob xs ea =>
    cases (show u = Value.ref a from rx)
    obtain ⟨_, _, _, n, _, h1⟩ := (show ObjOk X.prog X.w H s.heap a (.frz ob (.lst xs)) from I.hok a _ ea)
    exact PySem.W.kia_one PySem.W.kitx_list I.kIn ⟨_, h1, rfl⟩ e (fun z => nomatch z) h
  | @tup a xs ea =>
    cases (show u = Value.ref a from rx)
    obtain ⟨_, _, _, p⟩ := (show ObjOk X.prog X.w H s.heap a (.tup xs) from I.hok a _ ea)
    obtain ⟨o, h1, h2, _⟩ := p
    exact PySem.W.kia_one PySem.W.kitx_tuple I.kIn ⟨o, h1, h2⟩ e (fun z => nomatch z) h
  | @dK a kvs ea =>
    cases (show u = Value.ref a from rx)
    obtain ⟨_, _, vs, _, p⟩ := (show ObjOk X.prog X.w H s.heap a (.dK kvs) from I.hok a _ ea)
    obtain ⟨o, es, ep, h1, h2, _⟩ := p
    exact PySem.W.kia_one PySem.W.kitx_dict I.kIn ⟨o, h1, h2.1⟩ e (fun z => nomatch z) h
  | @dT a kvs ea =>
    cases (show u = Value.ref a from rx)
    obtain ⟨_, _, xs, _, o, es, ep, h1, h2, _⟩ := (show ObjOk X.prog X.w H s.heap a (.dT kvs) from I.hok a _ ea)
    exact PySem.W.kia_one PySem.W.kitx_dict I.kIn ⟨o, h1, h2.1⟩ e (fun z => nomatch z) h
  | @ins a C dx fs ea cl ha hn htk hm =>
    cases (show u = Value.ref a from rx)
    obtain ⟨mA, O, _⟩ := ins_get I.hok ea
    obtain ⟨od, J, _⟩ := O.look
    exact PySem.W.kia_one (PySem.W.kitx_own (cl.get _) cl.hd ha hn htk hm) I.kIn J e (fun z => nomatch z) h
end
end L2
namespace L2
open PySem PySem.Spec PyProof.Rows
structure Room (k : Nat) (A : Around) : Prop where
  hd : A.handled = none
  dp : A.depth + 3 * k + 5 < recursionLimit
  un : A.units + 16 * k + 200 < cLine
theorem Room.mono {j k : Nat} {A : Around} (r : Room k A) (h : j ≤ k) : Room j A := ⟨r.hd, by have := r.dp; omega, by have := r.un; omega⟩
theorem Room.deeper {k : Nat} {A : Around} (r : Room (k + 1) A) (env : Env) : Room k (A.deeper env) :=
  ⟨r.hd, by have := r.dp; show A.depth + 1 + 3 * k + 5 < _; omega, by have := r.un; show A.units + 3 + 16 * k + 200 < _; omega⟩
theorem make_depth {A : Around} {C : Addr} {us : List Value} {kw : List (Str × Value)} : (A.under (.builtin "type.__call__" ⟨.ref C :: us, kw⟩)).depth = A.depth + 1 := by
  first | rfl | simp [Around.under, Code.weight, Code.isCreation, Code.isGuard, Code.isCaller, Code.frames, Code.isFrame, guardIds]
theorem make_units {A : Around} {C : Addr} {us : List Value} {kw : List (Str × Value)} : (A.under (.builtin "type.__call__" ⟨.ref C :: us, kw⟩)).units = A.units + 1 := by
  first | rfl | simp [Around.under, Code.cUnits, Code.frames, Code.isFrame]
theorem Room.make {k : Nat} {A : Around} (r : Room (k + 1) A) (C : Addr) (us : List Value) (kw : List (Str × Value)) : Room k (A.under (.builtin "type.__call__" ⟨.ref C :: us, kw⟩)) :=
  ⟨r.hd, by have := r.dp; rw [make_depth]; omega, by have := r.un; rw [make_units]; omega⟩
theorem Room.depth {k : Nat} {A : Around} (r : Room k A) : A.depth < recursionLimit := by have := r.dp; omega
theorem Room.units {k : Nat} {A : Around} (r : Room k A) : A.units + 64 < cLine := by have := r.un; omega
def tNil : TA := fun _ H Q => Q [] H
def tCons (ta : TE) (tr : TA) : TA := fun σ H Q => ta σ H fun x H1 => tr σ H1 fun xs H2 => Q (x :: xs) H2
section
variable {X : Cx} {e : Expr} {es : List Expr} {te : TE} {t : TA} {pos : Pos}
theorem pa_nil : PA X [] tNil := fun _ _ _ _ H Q I h => Calls.spliced_nil ⟨[], H, I, .nil, h⟩
theorem pa_cons (ha : PE X e te) (hr : PA X es t) (hs : starEach (e :: es) X.env = (false, eval e X.env) :: starEach es X.env := by rfl) : PA X (e :: es) (tCons te t) := by
  intro pos pins s σ H Q I h
  rw [hs]
  show wpAny _ _ (spliced ((false, eval e X.env) :: backTo pos (starEach es X.env))) _ _ s
  refine Calls.spliced_cons (thn (ha pins s σ H _ I h) fun u s1 ⟨x, H1, I1, r1, q1⟩ => ?_)
  exact thn (hr pos pins s1 σ H1 _ I1 q1) fun us s2 ⟨xs, H2, I2, r2, q2⟩ => ⟨x :: xs, H2, I2, .cons r1 r2, q2⟩
def tTup (t : TA) : TE := fun σ H Q => t σ H fun xs H1 => xs.length ≤ sizeLine ∧ ∀ p, H1 p = none → Q (.ref p) (upd H1 p (.tup xs))
def tLst (t : TA) : TE := fun σ H Q => t σ H fun xs H1 => xs.length ≤ sizeLine ∧ ∀ p, H1 p = none → Q (.ref p) (upd H1 p (.lst xs))
theorem pe_tup {x1} (h : PA X es t) : PE X (.Tuple es x1 pos) (tTup t) := by
  intro pins s σ H Q I hq
  refine wpAny_Tuple_spliced (thn (h pos pins s σ H _ I hq) fun us s1 ⟨xs, H1, I1, r, z, q⟩ => ⟨by rw [← r.length]; exact z, ?_⟩)
  have hf : H1 s1.heap.objs.size = none := I1.hok.fresh (Nat.le_refl _)
  refine ⟨.ref s1.heap.objs.size, upd H1 s1.heap.objs.size (.tup xs), I1.laid (t' := s1.toks) (fun b u e => Heap.get?_push_of_some _ e) (Nat.le_refl _) ?_, rfl, q _ hf⟩
  exact ⟨z, us, r, ⟨_, Heap.get?_push_size _ rfl, rfl, _, rfl⟩⟩
theorem pe_lst (h : PA X es t) : PE X (.List es pos) (tLst t) := by
  intro pins s σ H Q I hq
  refine wpAny_List_spliced (thn (h pos pins s σ H _ I hq) fun us s1 ⟨xs, H1, I1, r, z, q⟩ => ⟨by rw [← r.length]; exact z, ?_⟩)
  have hf : H1 s1.heap.objs.size = none := I1.hok.fresh (Nat.le_refl _)
  refine ⟨.ref s1.heap.objs.size, upd H1 s1.heap.objs.size (.lst xs), I1.laid (t' := s1.toks) (fun b u e => Heap.get?_push_of_some _ e) (Nat.le_refl _) ?_, rfl, q _ hf⟩
  exact ⟨z, us, 0, r, Heap.get?_push_size _ rfl⟩
end
abbrev Sp := List V → Hp → VK → XK → Prop
abbrev CXT := List Env → Hp → Shared → XK → Value → Shared → Prop
structure Env0 (P : Program) (w : World) (K : PySem.W.Frag) (mg : Str → Option Value) (base : Heap) (A : Around) (outer : List Env) (s : Shared) (H : Hp) : Prop where
  frames : A.frames = some outer
  mod : Mod K mg base
  bs : ∀ b o, base.get? b = some o → s.heap.get? b = some o ∧ H b = none
  bsz : base.objs.size ≤ s.heap.objs.size
  funs : s.heap.FunFrames base outer
  frf : ∀ b ∈ frs outer, H b = none
  hok : HOk P w H s.heap
  bare : AllBare s.gens
def CE (outer : List Env) (P : Program) (w : World) (H : Hp) (s : Shared) (Q : VK) (u : Value) (s' : Shared) : Prop :=
  ∃ v H', s'.os = s.os ∧ AllBare s'.gens ∧ Un (frs outer) [] H H' s.heap s'.heap ∧ HOk P w H' s'.heap ∧ RelV v u ∧ Q v H'
def CR (CX : CXT) (outer : List Env) (P : Program) (w : World) (H : Hp) (s : Shared) (Q : VK) (E : XK) (r : Result) (s' : Shared) : Prop :=
  match r with
  | .ok (.ret u) => CE outer P w H s Q u s'
  | .ok _ => False
  | .error e => CX outer H s E e s'
structure FnOk (P : Program) (w : World) (K : PySem.W.Frag) (mg : Str → Option Value) (base : Heap) (CX : CXT) (k : Nat) (f : Addr) (fd : FuncData) (ps : List Str) (sp : Sp) : Prop where
  len : ∀ vs H Q E, sp vs H Q E → vs.length = ps.length
  run : ∀ (A : Around) (outer : List Env) (s : Shared) (H : Hp) (args : Args) (us : List Value) (vs : List V) (Q : VK) (E : XK), Room k A → Env0 P w K mg base A outer s H → BindsTo s fd args (ps.zip us) → Vals vs us → sp vs H Q E →
    codeAny (model P w) A (.call (.ref f) args) (CR CX outer P w H s Q E) s
theorem Env0.make {P : Program} {w : World} {K : PySem.W.Frag} {mg : Str → Option Value} {base : Heap} {A : Around} {outer : List Env} {s : Shared} {H : Hp} (e : Env0 P w K mg base A outer s H) (C : Addr) (us : List Value) (kw : List (Str × Value)) :
    Env0 P w K mg base (A.under (.builtin "type.__call__" ⟨.ref C :: us, kw⟩)) outer s H := ⟨by first | exact e.frames | (simpa [Around.under, Code.envs, Code.isFrame, pushEnvs] using e.frames), e.mod, e.bs, e.bsz, e.funs, e.frf, e.hok, e.bare⟩
section
variable {X : Cx} {pins : List (Addr × Obj)} {σ : St} {H : Hp} {s s' : Shared}
theorem Inv.env0 (I : Inv X pins σ H s) : Env0 X.prog X.w X.K X.mg X.base X.A X.stack s H :=
  ⟨I.ok.frames, I.ok.mod, I.bs, Nat.le_trans I.ok.bsz I.sz, I.stack, I.stkFree, I.hok, I.bare⟩
theorem Inv.after {Q : VK} {u : Value} (I : Inv X pins σ H s) (h : CE X.stack X.prog X.w H s Q u s') : EP X pins σ Q u s' := by
  obtain ⟨v, H', os, bare, un, hok, r, q⟩ := h
  obtain ⟨hh, g, d, t, os'⟩ := s'
  obtain rfl : os' = s.os := os
  exact ⟨v, H', I.call (h' := hh) (g' := g) (d' := d) (t' := t) (ch := []) un hok bare (fun b z => absurd z (by simp)), r, q⟩
end
def tCall (sp : Sp) (dvs : List V) (E : XK) (t : TA) : TE := fun σ H Q => t σ H fun vs H1 => sp (vs ++ dvs) H1 Q E
def tMeth (C : Addr) (m : Str) (sp : Sp) (dvs : List V) (E : XK) (ta : TE) (t : TA) : TE := fun σ H Q => ta σ H fun x H1 => ∃ a dx fs, x = .ref a ∧ H1 a = some (.ins C dx fs) ∧ fs.lookup m = none ∧
  t σ H1 fun vs H2 => sp (x :: (vs ++ dvs)) H2 Q E
def tMake (C : Addr) (sp : Sp) (dvs : List V) (E : XK) (t : TA) : TE := fun σ H Q => t σ H fun vs H1 => ∀ x dx, H1 x = none → H1 dx = none → dx ≠ x →
  sp (.ref x :: (vs ++ dvs)) (upd (upd H1 dx (.own x)) x (.ins C dx [])) (fun v H2 => v = .non ∧ Q (.ref x) H2) E
def Binds (K : PySem.W.Frag) (fd : FuncData) (ps : List Str) (ds : List Value) : Prop :=
  ∀ (s : Shared) (us : List Value), K.In s.heap → (us ++ ds).length = ps.length → BindsTo s fd ⟨us, []⟩ (ps.zip (us ++ ds))
theorem Binds.all {K : PySem.W.Frag} {fd : FuncData} {ps : List Str} (h : ∀ us : List Value, us.length = ps.length → bindArgs fd ⟨us, []⟩ = pure (ps.zip us)) : Binds K fd ps [] := fun s us _ hl => by
  rw [List.append_nil] at hl ⊢
  exact .of_eq (h us hl)
def Passes (CX : CXT) (X : Cx) (E : XK) : Prop := ∀ (pins : List (Addr × Obj)) (σ : St) (H : Hp) (s : Shared) (e : Value) (s' : Shared), Inv X pins σ H s → CX X.stack H s E e s' → X.xe e s'
section
variable {X : Cx} {CX : CXT} {k : Nat} {f C : Addr} {fd : FuncData} {ps : List Str} {sp : Sp} {dvs : List V} {ds : List Value} {E : XK} {x m : Str} {p pos apos : Pos} {e o : Expr} {es : List Expr} {ta : TE} {t : TA}
theorem run_fn {pins : List (Addr × Obj)} {σ : St} {H : Hp} {s : Shared} {Q : VK} {us : List Value} {vs : List V} (F : FnOk X.prog X.w X.K X.mg X.base CX k f fd ps sp) (hr : Room k X.A) (hb : Binds X.K fd ps ds) (hd : Vals dvs ds) (hx : Passes CX X E)
    (I : Inv X pins σ H s) (r : Vals vs us) (h : sp (vs ++ dvs) H Q E) : wpAny (model X.prog X.w) X.A (call (.ref f) us) (EP X pins σ Q) X.xe s := by
  have r2 : Vals (vs ++ dvs) (us ++ ds) := r.append hd
  have hl : (us ++ ds).length = ps.length := by rw [← r2.length]; exact F.len _ _ _ _ h
  refine wpAny_call (codeAny_mono (F.run X.A X.stack s H ⟨us, []⟩ (us ++ ds) (vs ++ dvs) Q E hr I.env0 (hb s us I.kIn hl) r2 h) fun r s' hq => ?_)
  cases r with
  | error e => exact hx pins σ H s e s' I hq
  | ok fl =>
    cases fl with
    | ret u => exact I.after hq
    | next => exact False.elim hq
    | brk => exact False.elim hq
    | cont => exact False.elim hq
theorem pe_call (F : FnOk X.prog X.w X.K X.mg X.base CX k f fd ps sp) (hr : Room k X.A) (hg : Gl X x) (hm : X.mg x = some (.ref f)) (hk : PySem.W.keepIn X.K (.ref f) = true) (hb : Binds X.K fd ps ds) (hd : Vals dvs ds) (hx : Passes CX X E)
    (ha : PA X (e :: es) t) (hdb : (x == ("__debug__" : Str)) = false := by decide) (he : starEach (e :: es) X.env = (false, eval e X.env) :: starEach es X.env := by rfl) (hpl : (backTo pos (starEach es X.env)).any (·.1) = false := by rfl) :
    PE X (.Call (.Name x p) (e :: es) [] pos) (tCall sp dvs E t) := by
  intro pins s σ H Q I h
  refine wpAny_Call_Name_kw (ld_glob I hg hm ?_ hdb)
  refine PySem.W.callWith_K (h₀ := X.base) I.ok.mod.kin hk (thn (ha pos pins s σ H _ I h) fun us s1 ⟨vs, H1, I1, r, q⟩ => ⟨I1.kIn, ?_⟩) he hpl
  exact run_fn F hr hb hd hx I1 r q
theorem pe_meth {pl : Sem Bool} (he : PE X o ta) (c : Cls X.K C) (hm : Meth X.K C m f) (F : FnOk X.prog X.w X.K X.mg X.base CX k f fd ps sp) (hr : Room k X.A) (hb : Binds X.K fd ps ds) (hd : Vals dvs ds) (hx : Passes CX X E) (ha : PA X (e :: es) t)
    (hst : starEach (e :: es) X.env = (false, eval e X.env) :: starEach es X.env := by rfl) (hpl : (backTo pos (starEach es X.env)).any (·.1) = false := by rfl)
    (ht : eval (.Call (.Attribute o m apos) (e :: es) [] pos) X.env = (do
      let ov ← eval o X.env
      standAt apos.atName
      let (f, first) ← holding [ov] (getMethod ov m pl)
      callWith pos f first (backTo pos (starEach (e :: es) X.env)) (backToKw pos (keywordEach [] X.env))) := by rfl) :
    PE X (.Call (.Attribute o m apos) (e :: es) [] pos) (tMeth C m sp dvs E ta t) := by
  intro pins s σ H Q I h
  refine PySem.W.methodCall_KW (pl := pl) (thn (he pins s σ H _ I h) fun u s1 ⟨x, H1, I1, rx, a, dx, fs, ex, ea, l, q⟩ => ?_) ht
  subst ex
  obtain rfl : u = Value.ref a := rx
  refine getmeth_ok I1 ea c hm l ?_
  refine PySem.W.callWith_K (first := [.ref a]) (h₀ := X.base) I.ok.mod.kin hm.kp (thn (ha pos pins s1 σ H1 _ I1 q) fun us s2 ⟨vs, H2, I2, r, q2⟩ => ⟨I2.kIn, ?_⟩) hst hpl
  exact run_fn (us := .ref a :: us) (vs := .ref a :: vs) F hr hb hd hx I2 (.cons rfl r) q2
structure Mk (K : PySem.W.Frag) (C f : Addr) : Prop where
  makes : PySem.W.makesIn K C = true
  init : PySem.W.findIn K (.ref C) "__init__" = some (some (.ref f))
  fn : PySem.W.isFn K (.ref f) = true
  kp : PySem.W.keepIn K (.ref C) = true
theorem run_make {pins : List (Addr × Obj)} {σ : St} {H : Hp} {s : Shared} {Q : VK} {us : List Value} {vs : List V} (M : Mk X.K C f) (F : FnOk X.prog X.w X.K X.mg X.base CX k f fd ps sp) (hr : Room (k + 1) X.A) (hb : Binds X.K fd ps ds) (hd : Vals dvs ds)
    (hx : Passes CX X E) (I : Inv X pins σ H s) (r : Vals vs us)
    (h : ∀ x dx, H x = none → H dx = none → dx ≠ x → sp (.ref x :: (vs ++ dvs)) (upd (upd H dx (.own x)) x (.ins C dx [])) (fun v H2 => v = .non ∧ Q (.ref x) H2) E) :
    wpAny (model X.prog X.w) X.A (call (.ref C) us) (EP X pins σ Q) X.xe s := by
  have hq := h (s.heap.objs.size + 1) s.heap.objs.size (I.hok.fresh (Nat.le_succ _)) (I.hok.fresh (Nat.le_refl _)) (Nat.ne_of_lt (Nat.lt_succ_self _))
  have I2 := Inv.made (C := C) I
  have r2 : Vals (V.ref (s.heap.objs.size + 1) :: (vs ++ dvs)) (Value.ref (s.heap.objs.size + 1) :: (us ++ ds)) := .cons rfl (r.append hd)
  have hl : (Value.ref (s.heap.objs.size + 1) :: us ++ ds).length = ps.length := by
    have e := r2.length
    rw [F.len _ _ _ _ hq] at e
    exact e.symm
  refine wpAny_call (make_map (f := f) I.kIn M.makes M.init (beq_iff_eq.mp M.fn) (codeAny_mono (F.run _ X.stack _ _ ⟨Value.ref (s.heap.objs.size + 1) :: us, []⟩ (Value.ref (s.heap.objs.size + 1) :: (us ++ ds)) _ _ E (hr.make C us [])
    (I2.env0.make C us []) (hb _ (Value.ref (s.heap.objs.size + 1) :: us) I2.kIn hl) r2 hq) fun r s' hq' => ?_))
  cases r with
  | error e => exact hx pins σ _ _ e s' I2 hq'
  | ok fl =>
    cases fl with
    | ret u =>
      obtain ⟨v, H', I3, rv, ev, q3⟩ := I2.after hq'
      subst ev
      exact ⟨rv, ⟨V.ref (s.heap.objs.size + 1), H', I3, rfl, q3⟩⟩
    | next => exact False.elim hq'
    | brk => exact False.elim hq'
    | cont => exact False.elim hq'
theorem pe_make (M : Mk X.K C f) (F : FnOk X.prog X.w X.K X.mg X.base CX k f fd ps sp) (hr : Room (k + 1) X.A) (hg : Gl X x) (hm : X.mg x = some (.ref C)) (hb : Binds X.K fd ps ds) (hd : Vals dvs ds) (hx : Passes CX X E)
    (ha : PA X (e :: es) t) (hdb : (x == ("__debug__" : Str)) = false := by decide) (he : starEach (e :: es) X.env = (false, eval e X.env) :: starEach es X.env := by rfl) (hpl : (backTo pos (starEach es X.env)).any (·.1) = false := by rfl) :
    PE X (.Call (.Name x p) (e :: es) [] pos) (tMake C sp dvs E t) := by
  intro pins s σ H Q I h
  refine wpAny_Call_Name_kw (ld_glob I hg hm ?_ hdb)
  refine PySem.W.callWith_K (h₀ := X.base) I.ok.mod.kin M.kp (thn (ha pos pins s σ H _ I h) fun us s1 ⟨vs, H1, I1, r, q⟩ => ⟨I1.kIn, ?_⟩) he hpl
  exact run_make M F hr hb hd hx I1 r q
end
section
variable {X : Cx} {CX : CXT} {k : Nat} {f C : Addr} {fd : FuncData} {ps ks : List Str} {sp : Sp} {E : XK} {x m : Str} {p pos apos kpos : Pos} {e o : Expr} {es : List Expr} {kws : List Keyword} {te ta : TE} {t tk : TA} {nm : Option Str}
variable {g : List Value → List Value → List Value} {gV : List V → List V → List V}
end
structure FnScope (N P : List Str) (sc : Scope) : Prop where
  kind : sc.kind = .function
  co : sc.isCoroutine = false
  gen : sc.isGenerator = false
  nd : N.Nodup
  pre : N.take P.length = P
  par : ∀ x ∈ P, sc.names.lookup x = some .local ∨ sc.names.lookup x = some .cell
  nofree : ∀ y ∈ sc.names, y.2 ≠ .free
theorem bindL_out {kindOf : Str → Option NameKind} {x : Str} : ∀ {binds : List (Str × Value)} {m : Str → Option Value}, (∀ v, (x, v) ∉ binds) → bindL kindOf binds m x = m x
  | [], _, _ => rfl
  | (n, v) :: r, m, h => by
    unfold bindL
    rw [bindL_out fun w hw => h w (List.mem_cons_of_mem _ hw)]
    split
    · have : x ≠ n := by rintro rfl; exact h v List.mem_cons_self
      simp [this]
    · rfl
theorem bindC_out {kindOf : Str → Option NameKind} {x : Str} : ∀ {binds : List (Str × Value)} {m : Str → Option Value}, (∀ v, (x, v) ∉ binds) → bindC kindOf binds m x = m x
  | [], _, _ => rfl
  | (n, v) :: r, m, h => by
    unfold bindC
    rw [bindC_out fun w hw => h w (List.mem_cons_of_mem _ hw)]
    split
    · rfl
    · have : x ≠ n := by rintro rfl; exact h v List.mem_cons_self
      simp [this]
theorem bindL_get {kindOf : Str → Option NameKind} {x : Str} {v : Value} : ∀ {P : List Str} {vs : List Value} {i : Nat} {m : Str → Option Value}, P.Nodup → P[i]? = some x → vs[i]? = some v → kindOf x = some .local →
    bindL kindOf (P.zip vs) m x = some v
  | [], _, _, _, _, h, _, _ => by simp at h
  | _ :: _, [], _, _, _, _, h, _ => by simp at h
  | p :: P, w :: vs, 0, m, nd, h1, h2, hk => by
    simp at h1 h2; subst h1; subst h2
    show bindL kindOf ((p, w) :: P.zip vs) m p = _
    unfold bindL
    rw [bindL_out fun v hv => (List.nodup_cons.mp nd).1 (List.of_mem_zip hv).1, if_pos hk]
    simp
  | p :: P, w :: vs, i + 1, m, nd, h1, h2, hk => by
    show bindL kindOf ((p, w) :: P.zip vs) m x = _
    unfold bindL
    exact bindL_get (i := i) (List.nodup_cons.mp nd).2 (by simpa using h1) (by simpa using h2) hk
theorem bindC_get {kindOf : Str → Option NameKind} {x : Str} {v : Value} : ∀ {P : List Str} {vs : List Value} {i : Nat} {m : Str → Option Value}, P.Nodup → P[i]? = some x → vs[i]? = some v → kindOf x ≠ some .local →
    bindC kindOf (P.zip vs) m x = some v
  | [], _, _, _, _, h, _, _ => by simp at h
  | _ :: _, [], _, _, _, _, h, _ => by simp at h
  | p :: P, w :: vs, 0, m, nd, h1, h2, hk => by
    simp at h1 h2; subst h1; subst h2
    show bindC kindOf ((p, w) :: P.zip vs) m p = _
    unfold bindC
    rw [bindC_out fun v hv => (List.nodup_cons.mp nd).1 (List.of_mem_zip hv).1, if_neg hk]
    simp
  | p :: P, w :: vs, i + 1, m, nd, h1, h2, hk => by
    show bindC kindOf ((p, w) :: P.zip vs) m x = _
    unfold bindC
    exact bindC_get (i := i) (List.nodup_cons.mp nd).2 (by simpa using h1) (by simpa using h2) hk
def start (N : List Str) (vs : List V) : St := vs.map some ++ List.replicate (N.length - vs.length) none
def cxOf (CX : CXT) (P : Program) (w : World) (K : PySem.W.Frag) (mg : Str → Option Value) (base : Heap) (N : List Str) (qual : Str) (scope : Scope) (f : Addr) (cd : Value) (A : Around) (outer : List Env) (s : Shared) (H : Hp) (E : XK) : Cx where
  prog := P
  w := w
  K := K
  mg := mg
  base := base
  A := A.deeper (envOfC qual scope s.heap.objs.size f cd)
  N := N
  s₀ := s
  H₀ := H
  env := envOfC qual scope s.heap.objs.size f cd
  outer := outer
  stack := envOfC qual scope s.heap.objs.size f cd :: outer
  ex := []
  calm := true
  fn := fun _ => true
  pn := []
  xe := fun e s' => wpAny (model P w) (A.deeper (envOfC qual scope s.heap.objs.size f cd)) (leaving (envOfC qual scope s.heap.objs.size f cd) e) (fun _ s'' => CX outer H s E e s'') (fun e' s'' => CX outer H s E e' s'') s'
theorem cell_has {sc : Scope} {n : Nat} {x : Str} (h : sc.names.lookup x = some .cell) : ∃ c, (cellsFrom n sc.names []).lookup x = some c := by
  have q := PySem.W.cellsFrom_some sc.names n [] (.inl h)
  exact Option.isSome_iff_exists.mp q
theorem inv_start {CX : CXT} {P : Program} {w : World} {K : PySem.W.Frag} {mg : Str → Option Value} {base : Heap} {N ps : List Str} {qual : Str} {scope : Scope} {f : Addr} {cd : Value} {A : Around} {outer : List Env} {s s1 : Shared} {H : Hp} {E : XK} {us : List Value} {vs : List V}
    (S : FnScope N ps scope) (hd : A.handled = none) (e0 : Env0 P w K mg base A outer s H) (hl : vs.length = ps.length) (r : Vals vs us)
    (x : InCallC s s.heap.objs.size (bindL (envOfC qual scope s.heap.objs.size f cd).kindOf (ps.zip us) fun _ => none) (cellsFrom (s.heap.objs.size + 1) scope.names []) (bindC (envOfC qual scope s.heap.objs.size f cd).kindOf (ps.zip us) fun _ => none) s1) :
    Inv (cxOf CX P w K mg base N qual scope f cd A outer s H E) [] (start N vs) H s1 := by
  have hpl : ps.length ≤ N.length := by have := congrArg List.length S.pre; rw [List.length_take] at this; omega
  obtain ⟨h1, tk, rfl, hk⟩ := x.done
  have noA : ∀ b : Addr, b ∉ (cxOf CX P w K mg base N qual scope f cd A outer s H E).ex := fun b z => absurd (show b ∈ ([] : List Addr) from z) (by simp)
  refine ⟨⟨e0.mod, S.kind, rfl, rfl, Nat.le_refl _, fun y z c h1 h2 => ?_, fun y hy => ?_, fun y c _ h => ?_, fun _ => hd, Around.frames_deeper e0.frames, .inr ⟨rfl, rfl⟩, fun b z => absurd z (noA b), e0.bs, e0.bsz, fun b _ _ => noA b, fun b z => absurd z (noA b), e0.funs, e0.frf⟩,
    rfl, e0.bare, Un.kept hk, ⟨_, x.toInCall.ns, fun i y v h1 h2 h3 => ?_⟩, fun y c h => ⟨_, x.cell y c h⟩, e0.hok.fresh (Nat.le_refl _), fun y c h => ?_, fun p hp => absurd (show p ∈ ([] : List (Addr × Obj)) from hp) (by simp), e0.hok.kept hk, ?_⟩
  · exact name_of_addr x.apart (PySem.mem_of_lookup h1) (PySem.mem_of_lookup h2)
  · have hy : scope.names.lookup y = some .cell ∨ scope.names.lookup y = some .free := hy
    rcases hy with hy | hy
    · exact cell_has hy
    · exact absurd rfl (S.nofree _ (PySem.mem_of_lookup hy))
  · exact Nat.le_of_lt (x.above y c (PySem.mem_of_lookup h))
  · have hi : i < vs.length := by
      unfold start at h2
      by_cases hi : i < vs.length
      · exact hi
      · rw [List.getElem?_append_right (by simpa using hi)] at h2
        rw [List.getElem?_replicate] at h2
        split at h2 <;> cases h2
    have ha : vs[i]? = some v := by
      unfold start at h2
      rw [List.getElem?_append_left (by simpa using hi), List.getElem?_map] at h2
      cases e : vs[i]? with
      | none => rw [e] at h2; cases h2
      | some a => rw [e] at h2; cases h2; rfl
    obtain ⟨u, hu, rv⟩ := r.get ha
    have hp : ps[i]? = some y := by
      rw [← S.pre, List.getElem?_take_of_lt (by omega)]; exact h1
    have ndP : ps.Nodup := by rw [← S.pre]; exact S.nd.sublist (List.take_sublist _ _)
    refine ⟨u, rv, ?_⟩
    rcases S.par y (List.mem_of_getElem? hp) with k | k
    · exact .inl ⟨k, bindL_get ndP hp hu k⟩
    · obtain ⟨c, e⟩ := cell_has (n := s.heap.objs.size + 1) k
      refine .inr ⟨.inl k, c, e, ?_⟩
      have q := x.cell y c e
      rw [bindC_get ndP hp hu (by show scope.names.lookup y ≠ _; rw [k]; decide)] at q
      exact q
  · exact e0.hok.fresh (Nat.le_of_lt (x.above y c (PySem.mem_of_lookup h)))
  · unfold start
    show _ = N.length
    rw [List.length_append, List.length_map, List.length_replicate]
    omega
theorem fn_of {CX : CXT} {P : Program} {w : World} {K : PySem.W.Frag} {mg : Str → Option Value} {base : Heap} {k : Nat} {f : Addr} {name qual : Str} {params : Arguments} {body : List Stmt} {scope : Scope} {dV kV doc pm cdv ct oc : Value} {an od : Option Addr}
    {osl : Array (Option Value)} {N ps : List Str} {sp : Sp} (lk : K.lookup f = some ⟨oc, od, .func (PySem.W.fnOf name qual params body scope dV kV doc pm an cdv ct), osl⟩) (hcd : PySem.W.codeIn K cdv qual = true) (S : FnScope N ps scope)
    (len : ∀ vs H Q E, sp vs H Q E → vs.length = ps.length)
    (hbody : ∀ (A : Around) (outer : List Env) (s : Shared) (H : Hp) (vs : List V) (Q : VK) (E : XK), Room k (A.deeper (envOfC qual scope s.heap.objs.size f cdv)) → sp vs H Q E →
      ∃ t, PSs (cxOf CX P w K mg base N qual scope f cdv A outer s H E) body t ∧ t { nx := fun _ H' => Q .non H', rt := Q } (start N vs) H) :
    FnOk P w K mg base CX (k + 1) f (PySem.W.fnOf name qual params body scope dV kV doc pm an cdv ct) ps sp := by
  refine ⟨len, fun A outer s H args us vs Q E hr e0 hb r hsp => ?_⟩
  have hl := len _ _ _ _ hsp
  have KX : K.In s.heap := e0.mod.kin.keeps fun b o e => (e0.bs b o e).1
  have lim : s.heap.NoLimit := e0.mod.nolimit.keeps fun b o e => (e0.bs b o e).1
  have hkind : ∀ y ∈ ps.zip us, scope.names.lookup y.1 = some .local ∨ (scope.names.lookup y.1 = some .cell ∧ ((cellsFrom (s.heap.objs.size + 1) scope.names []).lookup y.1).isSome = true) := fun ⟨n, v⟩ hy => by
    rcases S.par n (List.of_mem_zip hy).1 with q | q
    · exact .inl q
    · exact .inr ⟨q, PySem.W.cellsFrom_some _ _ _ (.inl q)⟩
  refine codeAny_call_function hr.depth (KX _ _ lk) rfl S.co S.gen rfl (PySem.W.codeRec_of KX hcd) (hb _ _ _ _ ?_)
  refine wpAny_newFunctionEnv_cells S.kind hkind fun env he s1 x => ?_
  subst he
  refine ⟨lim.keeps x.toInCall.keep, codeAny_func ?_⟩
  obtain ⟨t, ht, hq⟩ := hbody A outer s H vs Q E (hr.deeper _) hsp
  have I : Inv (cxOf CX P w K mg base N qual scope f cdv A outer s H E) [] (start N vs) H s1 := inv_start S hr.hd e0 hl r x
  refine wpAny_mono (ht [] s1 (start N vs) H _ I hq) (fun fl s' hs => ?_) fun e s' hs => hs
  have fin : ∀ {σ' : St} {H' : Hp} {v : V} {u : Value}, Inv (cxOf CX P w K mg base N qual scope f cdv A outer s H E) [] σ' H' s' → RelV v u → Q v H' → CE outer P w H s Q u s' :=
    fun {σ' H' v u} J rv q => ⟨v, H', J.os, J.bare, J.base, J.hok, rv, q⟩
  cases fl with
  | ret u =>
    obtain ⟨v, σ', H', J, rv, q⟩ := hs
    exact fin J rv q
  | next =>
    obtain ⟨σ', H', J, q⟩ := hs
    exact fin (v := V.non) (u := Value.none) J rfl q
  | brk =>
    obtain ⟨_, _, _, q⟩ := hs
    exact False.elim q
  | cont =>
    obtain ⟨_, _, _, q⟩ := hs
    exact False.elim q
end L2
namespace L2
open PySem PySem.Spec PyProof.Rows
section
variable {X : Cx} {x : Str} {p pos : Pos} {e : Expr} {es : List Expr} {t : TA} {id T : String} {r : List V → Hp → VK → Prop}
def tCB (r : List V → Hp → VK → Prop) (t : TA) : TE := fun σ H Q => t σ H fun vs H1 => r vs H1 Q
theorem pe_callB (hc : CallR X (.builtin id) r) (hg : Gl X x) (hm : X.mg x = none) (hv : bootBuiltins x = some (.builtin id)) (ha : PA X (e :: es) t) (hn : x ≠ "__name__" := by decide) (hdb : (x == ("__debug__" : Str)) = false := by decide)
    (he : starEach (e :: es) X.env = (false, eval e X.env) :: starEach es X.env := by rfl) (hpl : (backTo pos (starEach es X.env)).any (·.1) = false := by rfl) : PE X (.Call (.Name x p) (e :: es) [] pos) (tCB r t) := by
  intro pins s σ H Q I h
  refine wpAny_Call_Name_kw (ld_blt I hg hm hv ?_ hn hdb)
  exact PyProof.Rows.callWith_builtin1 (thn (ha pos pins s σ H _ I h) fun us s1 ⟨vs, H1, I1, r1, q1⟩ => hc pins s1 σ H1 vs us Q I1 r1 q1) he hpl
theorem pe_callTy (hc : CallR X (.type T) r) (hg : Gl X x) (hm : X.mg x = none) (hv : bootBuiltins x = some (.type T)) (ha : PA X (e :: es) t) (hn : x ≠ "__name__" := by decide) (hdb : (x == ("__debug__" : Str)) = false := by decide)
    (he : starEach (e :: es) X.env = (false, eval e X.env) :: starEach es X.env := by rfl) (hpl : (backTo pos (starEach es X.env)).any (·.1) = false := by rfl) : PE X (.Call (.Name x p) (e :: es) [] pos) (tCB r t) := by
  intro pins s σ H Q I h
  refine wpAny_Call_Name_kw (ld_blt I hg hm hv ?_ hn hdb)
  exact PyProof.Rows.callWith_type1 (thn (ha pos pins s σ H _ I h) fun us s1 ⟨vs, H1, I1, r1, q1⟩ => hc pins s1 σ H1 vs us Q I1 r1 q1) he hpl
end
end L2
namespace HT
open PySem PyProof.Rows
section
open PySem.SeqAt
open PySem.AutoSeq1 (wpAny_loadPart')
open PySem.MeetsSeq PySem.MeetsSeq2 PySem.MeetsSeq3
end
section
variable {prog : Program} {w : World} {A : Around} {E : Value → Shared → Prop} {s : Shared}
theorem cat_tup {t b : Addr} {vs ws : List Value} {Q : Value → Shared → Prop} (ht : IsTup s.heap t vs.toArray) (hb : IsTup s.heap b ws.toArray) (hv : vs ≠ [])
    (h1 : ws = [] → Q (.ref t) s) (h2 : ws ≠ [] → Q (.ref s.heap.objs.size) { s with heap := s.heap.push { cls := .type "tuple", data := .seq (vs ++ ws).toArray } })
    (hsz : vs.length + ws.length ≤ sizeLine) : wpAny (model prog w) A (binaryOp .Add (.ref t) (.ref b)) Q E s := by
  obtain ⟨⟨cls, dd, data, sl⟩, ho, hc, n, hd⟩ := id ht
  obtain ⟨⟨cls2, dd2, data2, sl2⟩, ho2, hc2, n2, hd2⟩ := id hb
  simp only at hc hd hc2 hd2
  subst hc hd hc2 hd2
  have e : vs.toArray ++ ws.toArray = (vs ++ ws).toArray := by simp
  by_cases hw : ws = []
  · exact concat_meets ⟨_, ho, rfl⟩ ⟨_, ho2, rfl⟩ noFill_tuple_add seq_tuple_add PySem.F.slot_tuple_add PySem.F.entry_tuple_add (PySem.F.args_tuple_add_2 _ _)
      (tuple_addW1 t b vs.toArray ws.toArray n n2 dd dd2 sl sl2 (by simpa using hv) (by simp [hw])) ⟨ho, ho2, h1 hw⟩
  · refine concat_meets ⟨_, ho, rfl⟩ ⟨_, ho2, rfl⟩ noFill_tuple_add seq_tuple_add PySem.F.slot_tuple_add PySem.F.entry_tuple_add (PySem.F.args_tuple_add_2 _ _)
      (tuple_addW2 t b vs.toArray ws.toArray n n2 dd dd2 sl sl2 (by simpa using hv) (by simpa using hw) (by rw [List.size_toArray, List.size_toArray]; exact hsz)) ⟨ho, ho2, ?_⟩
    rw [e]
    exact h2 hw
def sIx (n d : Nat) : Option Int → Nat
  | none => d
  | some v => if v < 0 then (v + (n : Int)).toNat else min v.toNat n
end
end HT
namespace L2
open PySem PySem.Spec PyProof.Rows
abbrev TO := St → Hp → (Option Int → Hp → Prop) → Prop
def PO (X : Cx) (e : Option Expr) (t : TO) : Prop :=
  ∀ (pins : List (Addr × Obj)) (s : Shared) (σ : St) (H : Hp) (Q : Option Int → Hp → Prop), Inv X pins σ H s → t σ H Q →
    wpAny (model X.prog X.w) X.A (evalPart e X.env) (fun u s' => ∃ o H', Inv X pins σ H' s' ∧ IsPart u o ∧ Q o H') X.xe s
def tNoPart : TO := fun _ H Q => Q none H
def tPart (t : TE) : TO := fun σ H Q => t σ H fun x H1 => ∃ i, x = .int i ∧ Q (some i) H1
theorem intsAre_of {ns : List Int} : ∀ {us : List Value}, Vals (ns.map V.int) us → IntsAre us ns := by
  induction ns with
  | nil => intro us r; rw [List.map_nil] at r; cases r; exact .nil
  | cons n ns ih =>
    intro us r
    rw [List.map_cons] at r
    cases r with
    | cons r1 r2 =>
      obtain ⟨t, e⟩ := r1
      subst e
      exact .cons n t (ih r2)
section
variable {X : Cx} {e : Expr} {te : TE} {lo hi : Option Expr} {tl th : TO} {pos p2 : Pos}
theorem po_none : PO X none tNoPart := by
  intro pins s σ H Q I h
  rw [evalPart_none]
  exact wpAny_pure ⟨none, H, I, .none, h⟩
theorem po_some (h : PE X e te) : PO X (some e) (tPart te) := by
  intro pins s σ H Q I hw
  rw [evalPart_some]
  refine thn (h pins s σ H _ I hw) fun u s1 ⟨x, H1, I1, r1, q1⟩ => ?_
  obtain ⟨i, rfl, q⟩ := q1
  obtain ⟨t, rfl⟩ := r1
  exact ⟨some i, H1, I1, .int i t, q⟩
def SlR (X : Cx) (r : V → Option Int → Option Int → Hp → VK → Prop) : Prop :=
  ∀ (pins : List (Addr × Obj)) (s : Shared) (σ : St) (H : Hp) (x : V) (v vl vu : Value) (lo hi : Option Int) (sl : Addr) (Q : VK), Inv X pins σ H s → RelV x v → s.heap.IsSliceOf sl vl vu .none → IsPart vl lo → IsPart vu hi → r x lo hi H Q →
    ∃ T id, typeLookup (.type T) "__getitem__" = pure (some (.builtin id)) ∧ s.TypeIs v T ∧ wpAny (model X.prog X.w) X.A (getItem v (.ref sl)) (EP X pins σ Q) X.xe s
def tSl (r : V → Option Int → Option Int → Hp → VK → Prop) (te : TE) (tl th : TO) : TE := fun σ H Q => te σ H fun x H1 => tl σ H1 fun l H2 => th σ H2 fun u H3 => r x l u H3 Q
theorem pe_slice {r : V → Option Int → Option Int → Hp → VK → Prop} (hr : SlR X r) (he : PE X e te) (hl : PO X lo tl) (hu : PO X hi th) : PE X (.Subscript e (.Slice lo hi none p2) pos) (tSl r te tl th) := by
  intro pins s σ H Q I h
  refine Subscript_ (thn (he pins s σ H _ I h) fun v s1 ⟨x, H1, I1, r1, q1⟩ => ?_)
  refine wpAny_Slice (thn (hl pins s1 σ H1 _ I1 q1) fun vl s2 ⟨l, H2, I2, pl, q2⟩ => thn (hu pins s2 σ H2 _ I2 q2) fun vu s3 ⟨u, H3, I3, pu, q3⟩ => ?_)
  rw [evalPart_none]
  refine wpAny_pure ?_
  have I4 : Inv X pins σ H3 { s3 with heap := s3.heap.push { cls := .type "slice", data := .fields #[vl, vu, .none] } } := I3.kept (t' := s3.toks) fun b ob q => Heap.get?_push_of_some _ q
  obtain ⟨T, id, hT, ht, hg⟩ := hr pins { s3 with heap := s3.heap.push { cls := .type "slice", data := .fields #[vl, vu, .none] } } σ H3 x v vl vu l u s3.heap.objs.size Q I4 r1 (Heap.IsSliceOf.new ..) pl pu q3
  show wpAny (model X.prog X.w) X.A (subscriptTail e (.Slice lo hi none p2) v (.ref s3.heap.objs.size)) (EP X pins σ Q) X.xe { s3 with heap := s3.heap.push { cls := .type "slice", data := .fields #[vl, vu, .none] } }
  exact tail_any (ops := [.ref s3.heap.objs.size, v]) ht hT hg (by with_unfolding_all rfl)
def cutV (xs : List V) (lo hi : Option Int) : List V := (xs.drop (HT.sIx xs.length 0 lo)).take (HT.sIx xs.length xs.length hi - HT.sIx xs.length 0 lo)
theorem cutV_length (xs : List V) (lo hi : Option Int) : (cutV xs lo hi).length ≤ xs.length := by
  unfold cutV
  rw [List.length_take, List.length_drop]
  omega
def rCatT (K : PySem.W.Frag) : R2 := fun x y H Q => ∃ a b xs ys, x = .ref a ∧ y = .ref b ∧ SqT K H a xs ∧ SqT K H b ys ∧ xs ≠ [] ∧ xs.length + ys.length ≤ sizeLine ∧
  (ys = [] → Q (.ref a) H) ∧ (ys ≠ [] → ∀ p, H p = none → Q (.ref p) (upd H p (.tup (xs ++ ys))))
theorem Vals.nil_iff {xs : List V} {us : List Value} (r : Vals xs us) : us = [] ↔ xs = [] := by
  cases r with
  | nil => simp
  | cons _ _ => simp
theorem op_catT : OpR X (binaryOp .Add) (rCatT X.K) := by
  intro pins s σ H x y v u Q I rx ry h
  obtain ⟨a, b, xs, ys, rfl, rfl, ha, hb, hx, hz, q1, q2⟩ := h
  cases rx
  cases ry
  obtain ⟨its, r1, p1, _⟩ := I.tuple ha
  obtain ⟨its2, r2, p2, _⟩ := I.tuple hb
  refine HT.cat_tup p1 p2 (fun z => hx (r1.nil_iff.mp z)) (fun z => ⟨.ref a, H, I, rfl, q1 (r2.nil_iff.mp z)⟩) (fun z => ?_) (by rw [← r1.length, ← r2.length]; exact hz)
  refine ⟨.ref s.heap.objs.size, _, I.laid (t' := s.toks) (o := .tup (xs ++ ys)) (fun b ob q => Heap.get?_push_of_some _ q) (Nat.le_refl _) ?_, rfl, q2 (fun w => z (r2.nil_iff.mpr w)) _ (I.hok.fresh (Nat.le_refl _))⟩
  exact ⟨by rw [List.length_append]; exact hz, _, r1.append r2, IsTup.new _ _⟩
end
end L2
namespace L2
open PySem PySem.Spec PyProof.Rows
def ixN (n : Nat) (i : Int) : Option Nat := if 0 ≤ i then (if i < n then some i.toNat else none) else if -(n : Int) ≤ i then some (i + n).toNat else none
def atI {α : Type} (xs : List α) (i : Int) : Option α := (ixN xs.length i).bind fun j => xs[j]?
theorem ixN_seq {n : Nat} {i : Int} {j : Nat} (h : ixN n i = some j) : seqIndex? i n = some j ∧ j < n ∧ -(n : Int) ≤ i ∧ i < n := by
  unfold ixN at h
  by_cases h0 : 0 ≤ i
  · rw [if_pos h0] at h
    by_cases h1 : i < n
    · rw [if_pos h1] at h
      have e : i.toNat = j := Option.some.inj h
      exact ⟨by rw [seqIndex_of h0 h1, e], by omega, by omega, h1⟩
    · rw [if_neg h1] at h; cases h
  · rw [if_neg h0] at h
    by_cases h1 : -(n : Int) ≤ i
    · rw [if_pos h1] at h
      have e : (i + n).toNat = j := Option.some.inj h
      exact ⟨by rw [seqIndex_neg (by omega) h1, e], by omega, h1, by omega⟩
    · rw [if_neg h1] at h; cases h
theorem atI_get {α : Type} {xs : List α} {i : Int} {v : α} (h : atI xs i = some v) : ∃ j, seqIndex? i xs.length = some j ∧ xs[j]? = some v ∧ j < xs.length ∧ -(xs.length : Int) ≤ i ∧ i < xs.length := by
  unfold atI at h
  cases e : ixN xs.length i with
  | none => rw [e] at h; cases h
  | some j =>
    rw [e] at h
    obtain ⟨h1, h2, h3, h4⟩ := ixN_seq e
    exact ⟨j, h1, h, h2, h3, h4⟩
theorem atI_nat {α : Type} {xs : List α} {j : Nat} {v : α} (h : xs[j]? = some v) : atI xs (j : Int) = some v := by
  have hj : j < xs.length := (List.getElem?_eq_some_iff.mp h).1
  have e : ixN xs.length (j : Int) = some j := by
    unfold ixN
    rw [if_pos (by omega), if_pos (by omega)]; simp
  unfold atI; rw [e]; exact h
theorem atI_last {α : Type} (xs : List α) (v : α) : atI (xs ++ [v]) (-1) = some v := by
  have hl : (xs ++ [v]).length = xs.length + 1 := by simp
  have e : ixN (xs ++ [v]).length (-1) = some xs.length := by
    unfold ixN
    rw [hl, if_neg (by decide), if_pos (by omega)]
    congr 1
    omega
  unfold atI
  rw [e]
  show (xs ++ [v])[xs.length]? = some v
  simp
def PlainIx (b : Expr) : Prop := ∀ o i, subscripted b false o i = operate [o, i] (getItem o i)
def IxR (X : Cx) (r : R2) : Prop :=
  ∀ (value slice : Expr) (pins : List (Addr × Obj)) (s : Shared) (σ : St) (H : Hp) (x y : V) (v u : Value) (Q : VK), Inv X pins σ H s → RelV x v → RelV y u → r x y H Q →
    subscripted slice false v u = operate [v, u] (getItem v u) → wpAny (model X.prog X.w) X.A (subscriptTail value slice v u) (EP X pins σ Q) X.xe s
def MtR (X : Cx) (id : String) (r : V → List V → Hp → VK → Prop) : Prop :=
  ∀ (pins : List (Addr × Obj)) (s : Shared) (σ : St) (H : Hp) (x : V) (xs : List V) (v : Value) (us : List Value) (Q : VK), Inv X pins σ H s → RelV x v → Vals xs us → r x xs H Q →
    wpAny (model X.prog X.w) X.A (call (.builtin id) (v :: us)) (EP X pins σ Q) X.xe s
section
variable {X : Cx} {a b : Expr} {ta tb : TE} {pos : Pos}
theorem IxR.or {r r' : R2} (h : IxR X r) (h' : IxR X r') : IxR X (fun x y H Q => r x y H Q ∨ r' x y H Q) := by
  intro value slice pins s σ H x y v u Q I rx ry q hs
  rcases q with q | q
  · exact h value slice pins s σ H x y v u Q I rx ry q hs
  · exact h' value slice pins s σ H x y v u Q I rx ry q hs
theorem pe_ix {r : R2} (hr : IxR X r) (ha : PE X a ta) (hb : PE X b tb) (hs : PlainIx b) : PE X (.Subscript a b pos) (tOp r ta tb) := by
  intro pins s σ H Q I h
  exact Subscript_ (binT ha hb I h fun v u s2 x y H2 I2 rx ry q => hr a b pins s2 σ H2 x y v u Q I2 rx ry q (hs _ _))
def rIxL (K : PySem.W.Frag) : R2 := fun x y H Q => ∃ p xs i v, x = .ref p ∧ y = .int i ∧ SqL K H p xs ∧ atI xs i = some v ∧ Q v H
def rIxT (K : PySem.W.Frag) : R2 := fun x y H Q => ∃ p xs i v, x = .ref p ∧ y = .int i ∧ SqT K H p xs ∧ atI xs i = some v ∧ Q v H
def rIxS : R2 := fun x y H Q => ∃ z i c, x = .str z ∧ y = .int i ∧ z.length ≤ sizeLine ∧ atI z.cps.toList i = some c ∧ Q (.str ⟨#[c]⟩) H
theorem ix_list : IxR X (rIxL X.K) := by
  intro value slice pins s σ H x y v u Q I rx ry h hs
  obtain ⟨p, xs, i, z, rfl, rfl, hq, he, q⟩ := h
  cases rx
  obtain ⟨t, rfl⟩ := ry
  obtain ⟨its, r, pl, hz⟩ := I.list hq
  obtain ⟨j, h1, h2, h3, h4, h5⟩ := atI_get he
  obtain ⟨w, ew, rw'⟩ := r.get h2
  have hl := r.length
  have hn := line63
  have fin : EP X pins σ Q w s := ⟨z, H, I, rw', q⟩
  by_cases h0 : 0 ≤ i
  · have hj : i.toNat = j := by
      rw [seqIndex_of h0 h5] at h1
      exact Option.some.inj h1
    exact item_listR pl.isList h0 (by omega) (by rw [hj]; simpa using ew) fin hs
  · have hj : (i + (its.toArray.size : Int)).toNat = j := by
      rw [seqIndex_neg (by omega) h4] at h1
      rw [List.size_toArray, ← hl]
      exact Option.some.inj h1
    exact subscriptTail_builtinR (x := w) pl.isList.typeIs slot_list_getitem.lookup
      (wpAny_getItem_list_neg (Q := fun r s' => r = w ∧ EP X pins σ Q r s') pl.isList (by omega) (by rw [List.size_toArray] <;> omega) (by omega) (by rw [hj]; simpa using ew) ⟨rfl, fin⟩) hs
theorem ix_tup : IxR X (rIxT X.K) := by
  intro value slice pins s σ H x y v u Q I rx ry h hs
  obtain ⟨p, xs, i, z, rfl, rfl, hq, he, q⟩ := h
  cases rx
  obtain ⟨t, rfl⟩ := ry
  obtain ⟨its, r, pl, hz⟩ := I.tuple hq
  obtain ⟨j, h1, h2, h3, h4, h5⟩ := atI_get he
  obtain ⟨w, ew, rw'⟩ := r.get h2
  have hl := r.length
  have hn := line63
  have fin : EP X pins σ Q w s := ⟨z, H, I, rw', q⟩
  exact subscriptTail_builtinR (x := w) pl.typeIs slot_tuple_getitem.lookup
    (getItem_tuple (j := j) (Q := fun r s' => r = w ∧ EP X pins σ Q r s') pl (by omega) (by omega) (by rw [List.size_toArray, ← hl]; exact h1) (by simpa using ew) ⟨rfl, fin⟩) hs
theorem ix_str : IxR X rIxS := by
  intro value slice pins s σ H x y v u Q I rx ry h hs
  obtain ⟨z, i, c, rfl, rfl, hz, he, q⟩ := h
  obtain ⟨t, rfl⟩ := rx
  obtain ⟨t', rfl⟩ := ry
  obtain ⟨j, h1, h2, h3, h4, h5⟩ := atI_get he
  have hl : z.cps.toList.length = z.length := by simp [Str.length]
  rw [hl] at h1 h4 h5
  have hn := line63
  exact tail_any (typeIs_str s z t) slot_str_getitem.lookup (getItem_str (c := c) (by
    have e1 : decide (i < -(2 ^ 63 : Int)) = false := decide_eq_false (by omega)
    have e2 : decide (i ≥ 2 ^ 63) = false := decide_eq_false (by omega)
    rw [e1, e2, Bool.or_false]) (by rw [h1]; simpa using h2) ⟨.str ⟨#[c]⟩, H, I.tok _, ⟨_, rfl⟩, q⟩) hs
def rIx (K : PySem.W.Frag) : R2 := fun x y H Q => rIxL K x y H Q ∨ rIxT K x y H Q ∨ rIxS x y H Q
theorem ix_seq : IxR X (rIx X.K) := ix_list.or (ix_tup.or ix_str)
theorem mapSeq_set (its : List Value) (n j : Nat) (u : Value) : Obj.mapSeq (·.setIfInBounds j u) { cls := .type "list", data := .seq its.toArray n } = { cls := .type "list", data := .seq (its.set j u).toArray n } := by
  simp [Obj.mapSeq]
theorem Inv.lst {pins : List (Addr × Obj)} {σ : St} {H : Hp} {s : Shared} {p : Addr} {xs : List V} (I : Inv X pins σ H s) (h : H p = some (.lst xs)) :
    ∃ (its : List Value) (n : Nat), Vals xs its ∧ s.heap.get? p = some { cls := .type "list", data := .seq its.toArray n } ∧ xs.length ≤ sizeLine := by
  obtain ⟨z, its, n, r, e⟩ := I.hok p _ h
  exact ⟨its, n, r, e, z⟩
theorem Inv.lstUpd {pins : List (Addr × Obj)} {σ : St} {H : Hp} {s : Shared} {p : Addr} {xs ys : List V} {its its' : List Value} {n n' : Nat} {f : Obj → Obj} (I : Inv X pins σ H s) (h : H p = some (.lst xs))
    (ho : s.heap.get? p = some { cls := .type "list", data := .seq its.toArray n }) (hf : f { cls := .type "list", data := .seq its.toArray n } = { cls := .type "list", data := .seq its'.toArray n' }) (r : Vals ys its') (hz : ys.length ≤ sizeLine) (t : Nat) :
    Inv X pins σ (upd H p (.lst ys)) { s with heap := s.heap.update p f, toks := t } := by
  have e : (s.heap.update p f).get? p = some { cls := .type "list", data := .seq its'.toArray n' } := by
    rw [Heap.get?_update_self f ho (by rw [hf] <;> rfl), hf]
  refine I.write (x := p) (e := p) (by rw [h]; trivial) (.inl rfl) (fun b u hb q => (Heap.get?_update_other _ _ (Ne.symm hb)).trans q) ⟨_, e⟩ ?_
  exact ⟨hz, its', n', r, e⟩
def rSetL : V → V → V → Hp → (Hp → Prop) → Prop := fun o i v H Q => ∃ p xs k j, o = .ref p ∧ i = .int k ∧ H p = some (.lst xs) ∧ ixN xs.length k = some j ∧ Q (upd H p (.lst (xs.set j v)))
theorem set_list : PSet X rSetL := by
  intro pins s σ H o i v ov iv u Q I ro ri rv h
  obtain ⟨p, xs, k, j, rfl, rfl, hp, hj, q⟩ := h
  cases ro
  obtain ⟨t, rfl⟩ := ri
  obtain ⟨its, n, r, ho, hz⟩ := I.lst hp
  obtain ⟨h1, h2, h3, h4⟩ := ixN_seq hj
  have hl := r.length
  have hn := line63
  have I' : Inv X pins σ (upd H p (.lst (xs.set j v))) { s with heap := s.heap.update p (Obj.mapSeq (·.setIfInBounds j u)) } :=
    I.lstUpd hp ho (mapSeq_set its n j u) (r.set rv j) (by rw [List.length_set]; exact hz) s.toks
  by_cases h0 : 0 ≤ k
  · have hk : k.toNat = j := by
      rw [seqIndex_of h0 h4] at h1
      exact Option.some.inj h1
    exact PySem.W.ki_setAt ho h0 (by omega) (by rw [List.size_toArray, ← hl]; exact h4) (by rw [hk]; exact ⟨_, I', q⟩)
  · have hk : (k + (its.toArray.size : Int)).toNat = j := by
      rw [seqIndex_neg (by omega) h3] at h1
      rw [List.size_toArray, ← hl]
      exact Option.some.inj h1
    exact PySem.W.ki_setBack ho (by omega) (by rw [List.size_toArray, ← hl]; exact h3) (by omega) (by rw [hk]; exact ⟨_, I', q⟩)
theorem slice_bounds (lo hi : Option Int) (n : Nat) : (sliceBounds lo hi none n).1 = ((HT.sIx n 0 lo : Nat) : Int) ∧ (sliceBounds lo hi none n).2.1 = ((HT.sIx n n hi : Nat) : Int) ∧ (sliceBounds lo hi none n).2.2 = 1 := by
  refine ⟨?_, ?_, rfl⟩
  · cases lo with
    | none => simp [sliceBounds, HT.sIx]
    | some i =>
      simp only [sliceBounds, HT.sIx, Option.getD_none, show (1 : Int) > 0 by decide, if_true]
      by_cases h : i < 0
      · simp only [h, if_true] <;> omega
      · simp only [h, if_false] <;> omega
  · cases hi with
    | none => simp [sliceBounds, HT.sIx]
    | some i =>
      simp only [sliceBounds, HT.sIx, Option.getD_none, show (1 : Int) > 0 by decide, if_true]
      by_cases h : i < 0
      · simp only [h, if_true] <;> omega
      · simp only [h, if_false] <;> omega
theorem slicePick_cut (its : List Value) (lo hi : Option Int) : slicePick its.toArray lo hi none = ((its.drop (HT.sIx its.length 0 lo)).take (HT.sIx its.length its.length hi - HT.sIx its.length 0 lo)).toArray := by
  obtain ⟨h1, h2, h3⟩ := slice_bounds lo hi its.toArray.size
  unfold slicePick
  rw [h1, h2, h3]
  simp only [sliceRange_one, pick_run, List.size_toArray] <;> rfl
def rSlL (K : PySem.W.Frag) : V → Option Int → Option Int → Hp → VK → Prop := fun x lo hi H Q => ∃ a xs, x = .ref a ∧ SqL K H a xs ∧ ∀ p, H p = none → Q (.ref p) (upd H p (.lst (cutV xs lo hi)))
theorem sl_list : SlR X (rSlL X.K) := by
  intro pins s σ H x v vl vu lo hi sl Q I rx hs pl pu h
  obtain ⟨a, xs, rfl, hx, q⟩ := h
  cases rx
  obtain ⟨its, r, ht, hz⟩ := I.list hx
  have hlen := r.length
  refine ⟨"list", _, slot_list_getitem.lookup, ht.isList.typeIs, ?_⟩
  refine wpAny_getItem_list_slice ht.isList hs pl pu .none (by simp) ?_ (by rw [List.size_toArray] <;> omega)
  rw [slicePick_cut, ← hlen]
  refine ⟨.ref s.heap.objs.size, _, I.laid (t' := s.toks) (o := .lst (cutV xs lo hi)) (fun b ob q => Heap.get?_push_of_some _ q) (Nat.le_refl _) ?_, rfl, q _ (I.hok.fresh (Nat.le_refl _))⟩
  exact ⟨Nat.le_trans (cutV_length xs lo hi) hz, _, 0, (r.drop (HT.sIx xs.length 0 lo)).take (HT.sIx xs.length xs.length hi - HT.sIx xs.length 0 lo), Heap.get?_push_size _ rfl⟩
def flatV : V → Bool
  | .non => true
  | .bl _ => true
  | .int _ => true
  | .str _ => true
  | _ => false
def eqV : V → V → Bool
  | .non, .non => true
  | .bl a, .bl b => a == b
  | .bl a, .int b => (if a then 1 else 0) == b
  | .int a, .bl b => a == (if b then 1 else 0)
  | .int a, .int b => a == b
  | .str a, .str b => a == b
  | _, _ => false
theorem eqAt_V {A : Around} {s : Shared} {y x : V} {u v : Value} (ry : RelV y u) (rx : RelV x v) (fy : flatV y = true) (fx : flatV x = true) : SeqAt.EqAt A s u v (eqV y x) := by
  cases y with
  | non =>
    cases ry
    cases x with
    | non => cases rx; exact SeqAt.EqAt.same _
    | bl b => cases rx; exact SeqAt.EqAt.none_bool b
    | int b => obtain ⟨t, rfl⟩ := rx; exact SeqAt.EqAt.none_int b t
    | str b => obtain ⟨t, rfl⟩ := rx; exact SeqAt.EqAt.none_str b t
    | _ => exact absurd (show false = true from fx) Bool.false_ne_true
  | bl a =>
    cases ry
    cases x with
    | non => cases rx; exact SeqAt.EqAt.bool_none a
    | bl b => cases rx; exact SeqAt.EqAt.bool_bool a b
    | int b => obtain ⟨t, rfl⟩ := rx; exact SeqAt.EqAt.bool_int a b t
    | str b => obtain ⟨t, rfl⟩ := rx; exact SeqAt.EqAt.bool_str a b t
    | _ => exact absurd (show false = true from fx) Bool.false_ne_true
  | int a =>
    obtain ⟨t', rfl⟩ := ry
    cases x with
    | non => cases rx; exact SeqAt.EqAt.int_none a t'
    | bl b => cases rx; exact SeqAt.EqAt.int_bool a t' b
    | int b => obtain ⟨t, rfl⟩ := rx; exact SeqAt.EqAt.int_int a t' b t
    | str b => obtain ⟨t, rfl⟩ := rx; exact SeqAt.EqAt.int_str a t' b t
    | _ => exact absurd (show false = true from fx) Bool.false_ne_true
  | str a =>
    obtain ⟨t', rfl⟩ := ry
    cases x with
    | non => cases rx; exact SeqAt.EqAt.str_none a t'
    | bl b => cases rx; exact SeqAt.EqAt.str_bool a t' b
    | int b => obtain ⟨t, rfl⟩ := rx; exact SeqAt.EqAt.str_int a t' b t
    | str b => obtain ⟨t, rfl⟩ := rx; exact SeqAt.EqAt.str_str a t' b t
    | _ => exact absurd (show false = true from fx) Bool.false_ne_true
  | _ => exact absurd (show false = true from fy) Bool.false_ne_true
theorem call_len_seq : CallR X (.builtin "len") (fun xs H Q => ∃ p ys, xs = [.ref p] ∧ (SqL X.K H p ys ∨ SqT X.K H p ys) ∧ Q (.int ys.length) H) := by
  intro pins s σ H xs us Q I r h
  obtain ⟨p, ys, rfl, hq, q⟩ := h
  obtain ⟨u, rfl, rx⟩ := vals1 r
  cases rx
  have hn := line63
  rcases hq with hq | hq
  · obtain ⟨its, r', pl, hz⟩ := I.list hq
    have hlen := r'.length
    exact Calls.call_len_list pl.isList (by simp only [List.size_toArray] <;> omega) ⟨.int ys.length, H, I.tok _, ⟨s.toks + 1, by rw [List.size_toArray, hlen]⟩, q⟩
  · obtain ⟨its, r', pl, hz⟩ := I.tuple hq
    have hlen := r'.length
    exact len_tuple pl (by simp only [List.size_toArray] <;> omega) ⟨.int ys.length, H, I.tok _, ⟨s.toks + 1, by rw [List.size_toArray, hlen]⟩, q⟩
theorem call_list_of : CallR X (.type "list") (fun xs H Q => ∃ p ys, xs = [.ref p] ∧ (SqL X.K H p ys ∨ SqT X.K H p ys) ∧ ∀ l, H l = none → Q (.ref l) (upd H l (.lst ys))) := by
  intro pins s σ H xs us Q I r h
  obtain ⟨p, ys, rfl, hq, q⟩ := h
  obtain ⟨u, rfl, rx⟩ := vals1 r
  cases rx
  have fin : ∀ (its : List Value), Vals ys its → ys.length ≤ sizeLine → ∀ (h' : Heap) (c' : Nat), (∀ b o', s.heap.get? b = some o' → h'.get? b = some o') →
      h'.get? s.heap.objs.size = some { cls := .type "list", dict := none, data := .seq its.toArray c', slots := #[] } → EP X pins σ Q (.ref s.heap.objs.size) { s with heap := h' } := fun its r' hz h' c' kp e =>
    ⟨.ref s.heap.objs.size, _, I.laid (t' := s.toks) kp (Nat.le_refl _) (show ObjOk X.prog X.w _ h' _ (.lst ys) from ⟨hz, its, c', r', e⟩), rfl, q _ (I.hok.fresh (Nat.le_refl _))⟩
  rcases hq with hq | hq
  · obtain ⟨its, r', pl, hz⟩ := I.list hq
    have hlen := r'.length
    obtain ⟨o, ho, hc, n, hd⟩ := pl.isList
    exact call_list_seq p (.inl rfl) ho hc hd (fun h' c' kp e => fin its r' hz h' c' kp e) (by simp only [List.size_toArray] <;> omega)
  · obtain ⟨its, r', pl, hz⟩ := I.tuple hq
    have hlen := r'.length
    obtain ⟨o, ho, hc, n, hd⟩ := pl
    exact call_list_seq p (.inr rfl) ho hc hd (fun h' c' kp e => fin its r' hz h' c' kp e) (by simp only [List.size_toArray] <;> omega)
theorem call_tuple_of : CallR X (.type "tuple") (fun xs H Q => ∃ p ys, xs = [.ref p] ∧ ((SqL X.K H p ys ∧ ∀ l, H l = none → Q (.ref l) (upd H l (.tup ys))) ∨ (SqT X.K H p ys ∧ Q (.ref p) H))) := by
  intro pins s σ H xs us Q I r h
  obtain ⟨p, ys, rfl, h⟩ := h
  obtain ⟨u, rfl, rx⟩ := vals1 r
  cases rx
  rcases h with ⟨hq, q⟩ | ⟨hq, q⟩
  · obtain ⟨its, r', pl, hz⟩ := I.list hq
    have hlen := r'.length
    refine call_tuple_list pl.isList (fun h' kp => ?_) (by simp only [List.size_toArray] <;> omega)
    have I1 : Inv X pins σ H { s with heap := h' } := I.kept (t' := s.toks) kp
    have I2 : Inv X pins σ (upd H h'.objs.size (.tup ys)) { s with heap := h'.push { cls := .type "tuple", data := .seq its.toArray } } :=
      I1.laid (t' := s.toks) (fun b o e => Heap.get?_push_of_some _ e) (Nat.le_refl _) (show ObjOk X.prog X.w _ _ _ (.tup ys) from ⟨hz, its, r', IsTup.new _ _⟩)
    exact ⟨.ref h'.objs.size, _, I2, rfl, q _ (I1.hok.fresh (Nat.le_refl _))⟩
  · obtain ⟨its, r', pl, hz⟩ := I.tuple hq
    exact call_tuple_same pl ⟨.ref p, H, I, rfl, q⟩
def tyV (K : PySem.W.Frag) (T : String) (x : V) (H : Hp) : Prop := match x with
  | .str _ => T = "str"
  | .int _ => T = "int"
  | .ref p => (T = "list" ∧ ∃ xs, SqL K H p xs) ∨ (T = "tuple" ∧ ∃ o, K.lookup p = some o ∧ o.cls = .type "tuple" ∧ o.dict = none) ∨
      (T = "dict" ∧ ((∃ kvs, H p = some (.dK kvs)) ∨ ∃ kvs, H p = some (.dT kvs))) ∨ (T = "set" ∧ ∃ S n, H p = some (.set S n))
  | _ => False
theorem tyV_is {pins : List (Addr × Obj)} {σ : St} {H : Hp} {s : Shared} {T : String} {x : V} {v : Value} (I : Inv X pins σ H s) (r : RelV x v) (ty : tyV X.K T x H) :
    s.TypeIs v T ∧ ∀ a, v = .ref a → ∃ ob, s.heap.get? a = some ob ∧ ob.dict = none := by
  cases x with
  | str z =>
    obtain ⟨t, rfl⟩ := r
    cases (show T = "str" from ty)
    exact ⟨typeIs_str s z t, fun _ e => nomatch e⟩
  | int i =>
    obtain ⟨t, rfl⟩ := r
    cases (show T = "int" from ty)
    exact ⟨typeIs_int s i t, fun _ e => nomatch e⟩
  | ref p =>
    cases r
    rcases ty with ⟨rfl, xs, hq⟩ | ⟨rfl, o, hk, hc, hd⟩ | ⟨rfl, hk⟩ | ⟨rfl, S, n, hk⟩
    · obtain ⟨its, _, pl, _⟩ := I.list hq
      refine ⟨pl.isList.typeIs, fun a e => ?_⟩
      cases e
      obtain ⟨o, n, e, c, hd, _⟩ := pl
      exact ⟨o, e, hd⟩
    · refine ⟨⟨o, I.kIn p o hk, hc⟩, fun a e => ?_⟩
      cases e
      exact ⟨o, I.kIn _ o hk, hd⟩
    · have z : ∃ o, s.heap.get? p = some o ∧ o.ExactDict := by
        rcases hk with ⟨kvs, hk⟩ | ⟨kvs, hk⟩
        · obtain ⟨_, _, _, _, o, _, _, e, ex, _⟩ := I.hok p _ hk
          exact ⟨o, e, ex⟩
        · obtain ⟨_, _, _, _, o, _, _, e, ex, _⟩ := I.hok p _ hk
          exact ⟨o, e, ex⟩
      obtain ⟨o, e, ex⟩ := z
      refine ⟨⟨o, e, ex.1⟩, fun a e2 => ?_⟩
      cases e2
      exact ⟨o, e, ex.2.1⟩
    · obtain ⟨o, _, _, _, e, ex, _⟩ := I.hok p _ hk
      refine ⟨⟨o, e, ex.1⟩, fun a e2 => ?_⟩
      cases e2
      exact ⟨o, e, ex.2.1⟩
  | _ => exact False.elim ty
def tBM (K : PySem.W.Frag) (T : String) (r : V → List V → Hp → VK → Prop) (to : TE) (t : TA) : TE := fun σ H Q => to σ H fun x H1 => tyV K T x H1 ∧ t σ H1 fun xs H2 => r x xs H2 Q
variable {o e : Expr} {es : List Expr} {to : TE} {t : TA} {name : Str} {apos cpos : Pos} {T id : String} {r : V → List V → Hp → VK → Prop}
theorem pe_bm (pa : PlainAttrs T) (slot : Slot T name id) (hty : typeOf (.builtin id) = pure (.type "method_descriptor")) (hm : MtR X id r) (ho : PE X o to) (ha : PA X (e :: es) t)
    (hbase : attributeBase o name X.env (eval o X.env) = eval o X.env := by rfl)
    (hfew : ((backTo cpos (starEach (e :: es) X.env)).all (fun x => !x.1) && (backToKw cpos (keywordEach [] X.env)).all (fun x => x.1.isSome)
      && decide ((e :: es).length + ([] : List Keyword).length + (if ([] : List Keyword).isEmpty then 0 else 1) < 30)) = true := by rfl)
    (hline : (apos.endLine == cpos.line) = true := by rfl) (hs : starEach (e :: es) X.env = (false, eval e X.env) :: starEach es X.env := by rfl) (hplain : (backTo cpos (starEach es X.env)).any (·.1) = false := by rfl) :
    PE X (.Call (.Attribute o name apos) (e :: es) [] cpos) (tBM X.K T r to t) := by
  intro pins s σ H Q I h
  refine wpAny_Call_method_late hbase hfew hline rfl (thn (ho pins s σ H _ I h) fun v s1 ⟨x, H1, I1, r1, ty, q1⟩ => ?_)
  obtain ⟨h1, h2⟩ := tyV_is I1 r1 ty
  refine ⟨T, id, pa, slot, hty, h1, h2, ?_⟩
  have hA := ha cpos pins s1 σ H1 _ I1 q1
  rw [hs] at hA ⊢
  refine Calls.callWith_builtin (by show (false || (backTo cpos (starEach es X.env)).any (·.1)) = false; rw [hplain] <;> rfl) (Calls.evalArgs_plain ?_)
  exact thn hA fun us s2 ⟨vs, H2, I2, r2, q2⟩ => hm pins s2 σ H2 x vs v us Q I2 r1 r2 q2
end
end L2
namespace L2
open PySem PySem.Spec PyProof.Rows
def MtM (X : Cx) (id : String) (r : V → List V → Hp → VK → Prop) : Prop :=
  ∀ (pins : List (Addr × Obj)) (s : Shared) (σ : St) (H : Hp) (x : V) (xs : List V) (v : Value) (us : List Value) (Q : VK), Inv X pins σ H s → RelV x v → Vals xs us → r x xs H Q →
    wpAny (model X.prog X.w) X.A (call (.builtin id) (v :: us)) (EP X pins σ Q) X.xe s
theorem Vals.one : ∀ {x : V} {us : List Value}, Vals [x] us → ∃ u, us = [u] ∧ RelV x u
  | _, _, .cons r .nil => ⟨_, rfl, r⟩
section
variable {X : Cx} {pins : List (Addr × Obj)} {σ : St} {H : Hp} {s : Shared} {l b : Addr} {xs ys zs : List V}
theorem Inv.lset {its its' : List Value} {n : Nat} {f : Array Value → Array Value} {t' : Nat} (I : Inv X pins σ H s) (hH : H l = some (.lst xs))
    (e : s.heap.get? l = some { cls := .type "list", data := .seq its.toArray n }) (hf : f its.toArray = its'.toArray) (hv : Vals ys its') (hz : ys.length ≤ sizeLine) :
    Inv X pins σ (upd H l (.lst ys)) { s with heap := s.heap.update l (Obj.mapSeq f), toks := t' } := by
  have q := PySem.IsL.update e f
  rw [hf] at q
  refine I.write (x := l) (e := l) (by rw [hH]; exact trivial) (.inl rfl) (fun b' u hb hu => (Heap.get?_update_other s.heap (Obj.mapSeq f) (Ne.symm hb)).trans hu) ⟨_, q⟩ ?_
  exact ⟨hz, its', _, hv, q⟩
theorem Inv.lnew {its : List Value} {t' : Nat} (I : Inv X pins σ H s) (hv : Vals ys its) (hz : ys.length ≤ sizeLine) :
    Inv X pins σ (upd H s.heap.objs.size (.lst ys)) { s with heap := s.heap.push { cls := .type "list", data := .seq its.toArray }, toks := t' } :=
  I.laid (fun _ _ q => Heap.get?_push_of_some _ q) (Nat.le_refl _) ⟨hz, its, 0, hv, Heap.get?_push_size _ rfl⟩
theorem Inv.fresh (I : Inv X pins σ H s) : H s.heap.objs.size = none := I.hok.fresh (Nat.le_refl _)
theorem Inv.lstM (I : Inv X pins σ H s) (hH : H l = some (.lst xs)) : xs.length ≤ sizeLine ∧ ∃ (its : List Value) (n : Nat), Vals xs its ∧ xs.length = its.length ∧ s.heap.get? l = some { cls := .type "list", data := .seq its.toArray n } := by
  obtain ⟨z, its, n, r, e⟩ := I.hok l _ hH
  exact ⟨z, its, n, r, r.length, e⟩
theorem notLongL {n : Nat} (h : n ≤ sizeLine) : Builtin.List.listTooLong n = false := by
  unfold Builtin.List.listTooLong
  exact decide_eq_false (by omega)
end
section
variable {X : Cx}
def rAppend : V → List V → Hp → VK → Prop := fun x vs H Q => ∃ l xs y, x = .ref l ∧ vs = [y] ∧ H l = some (.lst xs) ∧ xs.length < sizeLine ∧ Q .non (upd H l (.lst (xs ++ [y])))
theorem mt_append : MtM X "list.append" rAppend := by
  intro pins s σ H x vs v us Q I rx rv h
  obtain ⟨l, xs, y, rfl, rfl, hH, hz, q⟩ := h
  cases rx
  obtain ⟨u, rfl, ru⟩ := rv.one
  obtain ⟨z, its, n, r, hl, e⟩ := I.lstM hH
  refine call_meets F.slot_list_append ⟨_, e, rfl⟩ F.entry_list_append (F.args_list_append_2 _ _) (PySem.list_append l its.toArray n u (by rw [List.size_toArray]; omega)) ⟨e, ?_⟩
  refine ⟨.non, _, I.lset (its' := its ++ [u]) hH e (by simp) (r.append (.cons ru .nil)) ?_, rfl, q⟩
  rw [List.length_append, List.length_singleton]
  omega
def rExtend : V → List V → Hp → VK → Prop := fun x vs H Q => ∃ l b xs zs, x = .ref l ∧ vs = [.ref b] ∧ H l = some (.lst xs) ∧ H b = some (.lst zs) ∧ xs.length + zs.length ≤ sizeLine ∧ Q .non (upd H l (.lst (xs ++ zs)))
theorem mt_extend : MtM X "list.extend" rExtend := by
  intro pins s σ H x vs v us Q I rx rv h
  obtain ⟨l, b, xs, zs, rfl, rfl, hH, hB, hz, q⟩ := h
  cases rx
  obtain ⟨u, rfl, ru⟩ := rv.one
  cases ru
  obtain ⟨z, its, n, r, hl, e⟩ := I.lstM hH
  obtain ⟨z2, its2, n2, r2, hl2, e2⟩ := I.lstM hB
  have hsz : its.toArray.size + its2.toArray.size ≤ sizeLine := by rw [List.size_toArray, List.size_toArray]; omega
  have hlong : ¬ (!its.toArray.isEmpty && Builtin.List.listTooLong (its.toArray.size + its2.toArray.size)) = true := by
    rw [notLongL hsz, Bool.and_false]
    exact Bool.false_ne_true
  refine call_meets F.slot_list_extend ⟨_, e, rfl⟩ F.entry_list_extend (F.args_list_extend_2 _ _)
    (AutoSeq1.list_extend_list_list_0 l its.toArray n b its2.toArray n2 hlong (by rw [List.size_toArray]; omega) (by omega)) ⟨e, e2, ?_⟩
  refine ⟨.non, _, I.lset (its' := its ++ its2) hH e (by simp) (r.append r2) ?_, rfl, q⟩
  rw [List.length_append]
  omega
def rCat : R2 := fun x y H Q => ∃ l b xs zs, x = .ref l ∧ y = .ref b ∧ H l = some (.lst xs) ∧ H b = some (.lst zs) ∧ xs.length + zs.length ≤ sizeLine ∧ ∀ p, H p = none → Q (.ref p) (upd H p (.lst (xs ++ zs)))
theorem op_cat : OpR X (binaryOp .Add) rCat := by
  intro pins s σ H x y v u Q I rx ry h
  obtain ⟨l, b, xs, zs, rfl, rfl, hH, hB, hz, q⟩ := h
  cases rx
  cases ry
  obtain ⟨z, its, n, r, hl, e⟩ := I.lstM hH
  obtain ⟨z2, its2, n2, r2, hl2, e2⟩ := I.lstM hB
  refine PySem.P.add_list e e2 ?_ (by rw [List.size_toArray, List.size_toArray]; omega)
  have ea : its.toArray ++ its2.toArray = (its ++ its2).toArray := by simp
  rw [ea]
  exact ⟨.ref _, _, I.lnew (t' := s.toks) (r.append r2) (by rw [List.length_append]; omega), rfl, q _ I.fresh⟩
end
section
variable {prog : Program} {w : World} {A : Around} {E : Value → Shared → Prop} {s : Shared}
end
section
variable {X : Cx}
end
end L2
namespace Att
open PySem PySem.W PySem.Calls PyProof.Rows
theorem ints_of_wellAll {P : Params} {h : Heap} : ∀ (ns : List Int) (vs : List Value), WellAll P h vs (ns.map WData.int) → IntsAre vs ns := by
  intro ns
  induction ns with
  | nil =>
    intro vs w
    rw [List.map_nil] at w
    cases w
    exact .nil
  | cons n ns ih =>
    intro vs w
    rw [List.map_cons] at w
    cases w with
    | cons a b =>
      cases a
      exact .cons _ _ (ih _ b)
theorem script_of {l : OpenLaw} {n : Nat} (hn : l.most = some n) {P : Params} {h : Heap} {args : List WData} {vals : List Value}
    (hpre : l.row.toRowW.claim.pre args = true) (hwl : WellAll P h vals args) :
    ∃ a vs ns, vals = [Value.ref a] ∧ args = [WData.list (ns.map WData.int)] ∧ h.get? a = some { cls := .type "list", data := .seq vs.toArray } ∧ IntsAre vs ns ∧ ns.length ≤ n := by
  have hsh : WShape.hasAll [] args [.list .int] = true := (pre_splitW hpre).1
  have hc : l.pre.holds [] { args := args } = true := (pre_splitW hpre).2
  obtain ⟨d, r, rfl, h1, h2⟩ := hasAllW_cons hsh
  obtain rfl := hasAllW_nil h2
  obtain ⟨xs, rfl, h3⟩ := hasW_list h1
  obtain ⟨ns, rfl⟩ := items_int h3
  have hlen : ns.length ≤ n := by
    unfold OpenLaw.pre at hc
    have h4 : (WTm.not (.lt (.lit (.int (n : Int))) (.len (.arg 0)))).holds [] { args := [.list (ns.map .int)] } = true := by
      have h4 := (holds_andW hc).1
      rw [hn] at h4
      exact h4
    have h5 := condW_of h4 (w_not (w_lt w_lit (w_len_list (w_arg rfl))))
    rw [List.length_map] at h5
    refine Nat.le_of_not_lt fun q => ?_
    have q' : (n : Int) < ((ns.length : Nat) : Int) := by omega
    first
      | (rw [decide_eq_true q'] at h5; exact absurd h5 (by decide))
      | (simp at h5; omega)
  cases hwl with
  | cons w1 w2 =>
    cases w2
    cases w1 with
    | list ho hall => exact ⟨_, _, ns, rfl, rfl, ho, ints_of_wellAll ns _ hall, hlen⟩
theorem post_true (l : OpenLaw) (args : List WData) : l.row.toRowW.claim.post args (.bool true) args = true :=
  postW_of (r := l.row.toRowW) (X := (true == true))
    (show WShape.has [] (.bool true) .bool = true by first | rfl | decide | simp [WShape.has, WShape.arms, WShape.armsAll])
    (show (WTm.eq .res (.lit (.bool true))).value [] { args := args, res := some (.bool true), after := args } = some (.bool (true == true)) from w_eq_bool (w_res rfl) w_lit) rfl
theorem attach_call {l : OpenLaw} {n : Nat} {q : Program} {loose : List Str} {XP : (Str → Option Value) → Heap → Prop} {YP : World → Heap → Prop} {d : DefRec}
    (hn : l.most = some n) (hdf : d.params.defaults = [])
    (call : ∀ (w : World) (s₀ s₁ : Shared) (mg mb : Str → Option Value) (fa : Addr) (o : Obj) (pm cd doc : Value) (a : Addr) (vs : List Value) (ns : List Int),
      Ground q loose [] XP w s₀ mg mb s₁.heap → YP w s₁.heap →
      s₁.heap.get? fa = some o → o.data = .func (docDef d.name d.params d.body d.scope pm cd doc) → s₁.heap.CodeRec cd d.name → mg d.name = some (.ref fa) →
      s₁.heap.get? a = some { cls := .type "list", data := .seq vs.toArray } → IntsAre vs ns → ns.length ≤ n → s₁.gens = #[] →
      codeAny (model l.prog w) callerA (.call (.ref fa) ⟨[.ref a], []⟩) (fun r s' => r = .ok (.ret (.bool true)) ∧ OldK s₁.heap s'.heap ∧ s'.os = s₁.os ∧ AllBare s'.gens) s₁) :
    WalkO q loose XP YP l.row.toRowW d [] (fun f vs => PySem.call f vs) := by
  intro w s₀ s₁ mg mb G Y fa o pm cd doc dV kV ho hd hcd hD hmg hg args vals as hpre hlay hrd hwl hlo
  obtain rfl : dV = .none := Dflts.none hD hdf
  obtain rfl : kV = .none := Dflts.noKw hD
  obtain ⟨a, vs, ns, rfl, rfl, hobj, hints, hlen⟩ := script_of hn hpre hwl
  refine enter_call (codeAny_mono (call w s₀ s₁ mg mb fa o pm cd doc a vs ns G Y ho (fd_plain hd) hcd hmg hobj hints hlen hg) fun r s' hq => ?_)
  obtain ⟨rfl, h2, h3, h4⟩ := hq
  exact ⟨.inl ⟨.bool true, .bool true, [], rfl, fun _ => rfl, .bool true, post_true l _, fun _ => ⟨List.Pairwise.nil, fun _ hm => (nomatch hm)⟩⟩, h2, h3, h4⟩
section
variable {prog : Program} {w : World} {A : Around} {E : Value → Shared → Prop} {s : Shared} {K : Frag}
end
end Att
namespace L2
open PySem PySem.Spec PyProof.Rows
theorem vals_ints : ∀ {vs : List Value} {ns : List Int}, IntsAre vs ns → Vals (ns.map V.int) vs
  | _, _, .nil => .nil
  | _, _, .cons n t h => .cons ⟨t, rfl⟩ (vals_ints h)
def Only (H : Hp) : Prop := ∀ b, H b = none ∨ ∃ o xs, H b = some (.frz o (.lst xs))
theorem law_call {P : Program} {w : World} {K : PySem.W.Frag} {mg mb : Str → Option Value} {CX : CXT} {k : Nat} {fa a : Addr} {fd : FuncData} {x : Str} {sp : Sp} {s₁ : Shared} {vs : List Value} {ns : List Int}
    (KX : K.In s₁.heap) (hns : s₁.heap.Ns mainGlobals mg) (hb : s₁.heap.Ns builtinsNs mb) (hbb : ∀ x : Str, x ≠ "__name__" → mb x = bootBuiltins x) (hlim : s₁.heap.NoLimit) (hg : s₁.gens = #[])
    (ha : s₁.heap.get? a = some { cls := .type "list", data := .seq vs.toArray }) (hi : IntsAre vs ns) (hl : ns.length ≤ sizeLine) (hr : Room k callerA)
    (F : ∀ base : Heap, K.In base → base.Ns mainGlobals mg → FnOk P w K mg base CX k fa fd [x] sp) (hbind : ∀ (s : Shared) (u : Value), BindsTo s fd ⟨[u], []⟩ [(x, u)])
    (hsp : ∀ H : Hp, Only H → SqL K H a (ns.map V.int) → sp [.ref a] H (fun v _ => v = .bl true) fun _ _ _ => False)
    (hCX : ∀ H e s', CX [] H s₁ (fun _ _ _ => False) e s' → False) :
    codeAny (model P w) callerA (.call (.ref fa) ⟨[.ref a], []⟩) (fun r s' => r = .ok (.ret (.bool true)) ∧ OldK s₁.heap s'.heap ∧ s'.os = s₁.os ∧ AllBare s'.gens) s₁ := by
  have rv := vals_ints hi
  have lenV := hi.length
  have core : ∀ H : Hp, Only H → SqL K H a (ns.map V.int) → HOk P w H s₁.heap → (∀ b, H b ≠ none → b = a) → (H a ≠ none → K.lookup a = none) →
      codeAny (model P w) callerA (.call (.ref fa) ⟨[.ref a], []⟩) (fun r s' => r = .ok (.ret (.bool true)) ∧ OldK s₁.heap s'.heap ∧ s'.os = s₁.os ∧ AllBare s'.gens) s₁ := by
    intro H hO hS hok hA hK
    have base_of : ∀ {b : Addr} {o : Obj}, s₁.heap.get? b = some o → H b = none → (hidT s₁.heap H).get? b = some o := fun e n => hidT_get e n
    have noA : ∀ {b : Addr} {o : Obj} {es : Array DictEntry} {ep : Nat}, s₁.heap.get? b = some o → o.data = .dict es ep → H b = none := fun {b o es ep} e d => by
      cases q : H b with
      | none => rfl
      | some u =>
        have e' : b = a := hA b (by rw [q]; simp)
        subst e'
        rw [ha] at e; cases e
        have d' : Data.seq vs.toArray _ = Data.dict es ep := d
        cases d'
    have nsK : ∀ {b : Addr} {m : Str → Option Value}, s₁.heap.Ns b m → (hidT s₁.heap H).Ns b m := fun {b m} ⟨o, es, ep, e, d, r⟩ => ⟨o, es, ep, base_of e (noA e d), d, r⟩
    have hKb : K.In (hidT s₁.heap H) := fun b o e => base_of (KX b o e) (by
      cases q : H b with
      | none => rfl
      | some u =>
        have e' : b = a := hA b (by rw [q]; simp)
        subst e'
        rw [hK (by rw [q]; simp)] at e; cases e)
    have hM : Mod K mg (hidT s₁.heap H) := ⟨hKb, nsK hns, ⟨mb, nsK hb, hbb⟩, let ⟨mc, h1, h2⟩ := hlim; ⟨mc, nsK h1, h2⟩⟩
    have e0 : Env0 P w K mg (hidT s₁.heap H) callerA [] s₁ H := ⟨rfl, hM, fun b o e => of_hidT e, Nat.le_of_eq (hidT_size _ _), trivial, fun b hb => absurd (show b ∈ ([] : List Addr) from hb) (by simp), hok, .of_eq hg⟩
    refine codeAny_mono ((F _ hKb (nsK hns)).run callerA [] s₁ H ⟨[.ref a], []⟩ [.ref a] [.ref a] _ _ hr e0 (hbind s₁ (.ref a)) (.cons rfl .nil) (hsp H hO hS)) fun r s' h => ?_
    cases r with
    | error e => exact (hCX H e s' h).elim
    | ok fl =>
      cases fl with
      | next => exact False.elim h
      | brk => exact False.elim h
      | cont => exact False.elim h
      | ret u =>
        obtain ⟨v, H', os, bare, un, hok', r', q⟩ := h
        have q' : v = .bl true := q
        subst q'
        obtain rfl : u = Value.bool true := r'
        refine ⟨rfl, OldK.of_keep fun b o e => ?_, os, bare⟩
        cases q : H b with
        | none => exact un.keep b o e q (by intro z; exact absurd (show b ∈ ([] : List Addr) from z) (by simp)) (by simp)
        | some u =>
          rcases hO b with z | ⟨ob, xs, z⟩
          · rw [q] at z; cases z
          · have z2 := un.frzs b ob _ z
            obtain ⟨e1, _⟩ := hok b _ z
            obtain ⟨e2, _⟩ := hok' b _ z2
            rw [e] at e1; cases e1
            exact e2
  cases hk : K.lookup a with
  | some o =>
    have e := KX a o hk
    rw [ha] at e
    cases e
    refine core (fun _ => none) (fun _ => .inl rfl) (.inr ⟨_, vs.toArray, _, hk, rfl, rfl, rfl, by rw [List.size_toArray, lenV]; exact hl, by simpa using rv⟩) (fun b u z => by have z' : (none : Option HO) = some u := z; cases z') (fun b z => absurd rfl z) fun z => absurd rfl z
  | none =>
    refine core (fun b => if b = a then some (.frz { cls := .type "list", data := .seq vs.toArray } (.lst (ns.map V.int))) else none) (fun b => ?_) (.inl (.inr ⟨{ cls := .type "list", data := .seq vs.toArray }, if_pos rfl⟩)) (fun b u z => ?_) (fun b z => ?_) fun _ => hk
    · by_cases hb : b = a
      · exact .inr ⟨_, _, if_pos hb⟩
      · exact .inl (if_neg hb)
    · by_cases hb : b = a
      · have z' := (if_pos hb).symm.trans z
        cases z'
        subst hb
        exact ⟨ha, by rw [List.length_map]; exact hl, vs, _, rv, ha⟩
      · have z' := (if_neg hb).symm.trans z
        cases z'
    · by_cases hb : b = a
      · exact hb
      · exact absurd (if_neg hb) z
end L2
namespace L2
open PySem PySem.Spec PyProof.Rows
theorem walk_of {l : PySem.W.OpenLaw} {n k : Nat} {q : Program} {loose : List Str} {XP : (Str → Option Value) → Heap → Prop} {YP : World → Heap → Prop} {d : DefRec} {K : Params → PySem.W.Frag} {CX : World → CXT} {sp : World → Sp} {x : Str}
    (hn : l.most = some n) (hn2 : n ≤ sizeLine) (hdf : d.params.defaults = []) (hr : Room k callerA)
    (hY : ∀ (w : World) (h : Heap), YP w h → (K w.params).In h)
    (F : ∀ (w : World) (mg : Str → Option Value) (fa : Addr) (h : Heap), (K w.params).In h → h.Ns mainGlobals mg → mg d.name = some (.ref fa) →
      ∃ fd : FuncData, (∀ (s : Shared) (u : Value), BindsTo s fd ⟨[u], []⟩ [(x, u)]) ∧
        ∀ base : Heap, (K w.params).In base → base.Ns mainGlobals mg → FnOk l.prog w (K w.params) mg base (CX w) k fa fd [x] (sp w))
    (hsp : ∀ (w : World) (H : Hp) (a : Addr) (ns : List Int), ns.length ≤ n → Only H → SqL (K w.params) H a (ns.map V.int) → sp w [.ref a] H (fun v _ => v = .bl true) fun _ _ _ => False)
    (hCX : ∀ (w : World) (H : Hp) (s : Shared) (e : Value) (s' : Shared), CX w [] H s (fun _ _ _ => False) e s' → False) :
    PySem.W.WalkO q loose XP YP l.row.toRowW d [] (fun f vs => PySem.call f vs) := by
  refine Att.attach_call hn hdf fun w s₀ s₁ mg mb fa o pm cd doc a vs ns G Y ho hd hcd hmg hobj hints hlen hg => ?_
  have KX := hY w _ Y
  obtain ⟨fd, hb, hF⟩ := F w mg fa _ KX G.T.g hmg
  exact law_call KX G.T.g G.T.b G.T.builtins G.T.nolimit hg hobj hints (Nat.le_trans hlen hn2) hr hF hb (fun H hO hS => hsp w H a ns hlen hO hS) fun H e s' => hCX w H s₁ e s'
end L2
namespace L2
open PySem PySem.Spec PyProof.Rows
def inClass (s : Stmt) (j : Nat) : Stmt := match s with
  | .ClassDef _ _ _ body _ _ _ _ _ _ _ => body.getD j (.Pass ⟨0, 0, 0, 0⟩)
  | _ => .Pass ⟨0, 0, 0, 0⟩
def defArgs (s : Stmt) : Arguments := match s with
  | .FunctionDef _ a _ _ _ _ _ _ _ _ => a
  | _ => { posonlyargs := [], args := [], vararg := none, kwonlyargs := [], kw_defaults := [], kwarg := none, defaults := [] }
def defBody (s : Stmt) : List Stmt := match s with
  | .FunctionDef _ _ b _ _ _ _ _ _ _ => b
  | _ => []
def defScope (s : Stmt) : Scope := match s with
  | .FunctionDef _ _ _ _ _ _ sc _ _ _ => sc
  | _ => { kind := .function, names := [], isGenerator := false, isCoroutine := false }
abbrev CX0 : CXT := fun _ _ _ _ _ _ => False
abbrev E0 : XK := fun _ _ _ => False
theorem pass0 {X : Cx} : Passes CX0 X E0 := fun _ _ _ _ _ _ _ h => h.elim
structure Fun (K : PySem.W.Frag) (x qual : Str) (st : Stmt) (f : Addr) (fd : FuncData) : Prop where
  ex : ∃ (oc : Value) (od : Option Addr) (kV doc pm : Value) (an : Option Addr) (cdv ct : Value) (osl : Array (Option Value)),
    fd = PySem.W.fnOf x qual (defArgs st) (defBody st) (defScope st) .none kV doc pm an cdv ct ∧ K.lookup f = some ⟨oc, od, .func fd, osl⟩ ∧ PySem.W.codeIn K cdv qual = true
  kp : PySem.W.keepIn K (.ref f) = true
section
variable {P : Program} {w : World} {K : PySem.W.Frag} {mg : Str → Option Value} {base : Heap}
theorem Fun.ok {x qual : Str} {st : Stmt} {f : Addr} {fd : FuncData} {N ps : List Str} {k : Nat} {sp : Sp} (F : Fun K x qual st f fd) (S : FnScope N ps (defScope st)) (len : ∀ vs H Q E, sp vs H Q E → vs.length = ps.length)
    (hbody : ∀ (cdv : Value) (A : Around) (outer : List Env) (s : Shared) (H : Hp) (vs : List V) (Q : VK) (E : XK), Room k (A.deeper (envOfC qual (defScope st) s.heap.objs.size f cdv)) → sp vs H Q E →
      ∃ t, PSs (cxOf CX0 P w K mg base N qual (defScope st) f cdv A outer s H E).nox (defBody st) t ∧ t { nx := fun _ H' => Q .non H', rt := Q } (start N vs) H) : FnOk P w K mg base CX0 (k + 1) f fd ps sp := by
  obtain ⟨oc, od, kV, doc, pm, an, cdv, ct, osl, rfl, lk, hcd⟩ := F.ex
  refine fn_of lk hcd S len fun A outer s H vs Q E hr hsp => ?_
  obtain ⟨t, h, q⟩ := hbody cdv A outer s H vs Q E hr hsp
  exact ⟨t, h.nox, q⟩
theorem Fun.binds {x qual : Str} {st : Stmt} {f : Addr} {fd : FuncData} {ps : List Str} (F : Fun K x qual st f fd)
    (h : ∀ (kV doc pm : Value) (an : Option Addr) (cdv ct : Value) (us : List Value), us.length = ps.length → bindArgs (PySem.W.fnOf x qual (defArgs st) (defBody st) (defScope st) .none kV doc pm an cdv ct) ⟨us, []⟩ = pure (ps.zip us)) : Binds K fd ps [] := by
  obtain ⟨oc, od, kV, doc, pm, an, cdv, ct, osl, rfl, lk, hcd⟩ := F.ex
  exact .all (h kV doc pm an cdv ct)
theorem fun_mk {x qual : Str} {st : Stmt} {f : Addr} {oc : Value} {od an : Option Addr} {osl : Array (Option Value)} {kV doc pm cdv ct : Value} (l : K.lookup f = some ⟨oc, od, .func (PySem.W.fnOf x qual (defArgs st) (defBody st) (defScope st) .none kV doc pm an cdv ct), osl⟩)
    (c : PySem.W.codeIn K cdv qual = true) (k : PySem.W.keepIn K (.ref f) = true) : Fun K x qual st f (PySem.W.fnOf x qual (defArgs st) (defBody st) (defScope st) .none kV doc pm an cdv ct) := ⟨⟨oc, od, kV, doc, pm, an, cdv, ct, osl, rfl, l, c⟩, k⟩
end
theorem hu_of {A : Around} {k : Nat} (hr : Room k A) : A.units + 1 < cLine := Nat.lt_of_le_of_lt (Nat.add_le_add_left (by decide : 1 ≤ 64) _) hr.units
section
variable {X : Cx}
theorem pv (i : Nat) {x : Str} {pos : Pos} (hN : X.N[i]? = some x := by rfl) (hv : Vis X.env.scope x := by first | exact Or.inl rfl | exact Or.inr (Or.inl rfl) | exact Or.inr (Or.inr rfl)) (hd : (x == ("__debug__" : Str)) = false := by decide)
    (hcd : (x == ("__classdict__" : Str)) = false := by decide) : PE X (.Name x pos) (tVar i) := pe_var hN hv hd hcd
end
theorem iteF {A B : Prop} (h : B) : if false = true then A else B := by
  rw [if_neg Bool.false_ne_true]
  exact h
theorem iteT {A B : Prop} (h : A) : if true = true then A else B := by
  rw [if_pos rfl]
  exact h
theorem ite2 {c A B : Prop} [Decidable c] (h1 : c → A) (h2 : ¬ c → B) : if c then A else B := by
  by_cases h : c
  · rw [if_pos h]
    exact h1 h
  · rw [if_neg h]
    exact h2 h
def Same (H H' : Hp) : Prop := ∀ b o, H b = some o → H' b = some o
theorem Same.refl (H : Hp) : Same H H := fun _ _ h => h
theorem Same.trans {H H1 H2 : Hp} (a : Same H H1) (b : Same H1 H2) : Same H H2 := fun c o h => b c o (a c o h)
end L2
namespace L2
open PySem PySem.Spec PyProof.Rows
section
variable {κ : Type} [DecidableEq κ]
def valV (kvs : List (κ × V)) (k : κ) : Option V := (kvs.find? fun kv => decide (kv.1 = k)).map (·.2)
def putK (kvs : List (κ × V)) (k : κ) (v : V) : List (κ × V) :=
  if (kvs.any fun kv => decide (kv.1 = k)) = true then kvs.map (fun kv => if kv.1 = k then (kv.1, v) else kv) else kvs ++ [(k, v)]
theorem valV_pos {p : κ × V} {r : List (κ × V)} {k : κ} (e : p.1 = k) : valV (p :: r) k = some p.2 := by simp [valV, List.find?_cons, e]
theorem valV_neg {p : κ × V} {r : List (κ × V)} {k : κ} (e : ¬ p.1 = k) : valV (p :: r) k = valV r k := by simp [valV, List.find?_cons, e]
theorem valV_any (k : κ) : ∀ kvs : List (κ × V), (kvs.any fun kv => decide (kv.1 = k)) = (valV kvs k).isSome
  | [] => rfl
  | p :: r => by
    rw [List.any_cons]
    by_cases e : p.1 = k
    · simp only [valV_pos e, decide_eq_true e, Bool.true_or, Option.isSome_some]
    · rw [valV_neg e, decide_eq_false e, Bool.false_or]; exact valV_any k r
theorem length_putK (kvs : List (κ × V)) (k : κ) (v : V) : (putK kvs k v).length ≤ kvs.length + 1 := by
  unfold putK
  split
  · rw [List.length_map]; omega
  · rw [List.length_append, List.length_cons, List.length_nil]; omega
theorem RelO.isSome_eq {o : Option V} {u : Option Value} (r : RelO o u) : o.isSome = u.isSome := by
  cases o with
  | none => cases u with
    | none => rfl
    | some _ => exact (show False from r).elim
  | some _ => cases u with
    | none => exact (show False from r).elim
    | some _ => rfl
theorem RelO.getD {o : Option V} {u : Option Value} {d : V} {d' : Value} (r : RelO o u) (rd : RelV d d') : RelV (o.getD d) (u.getD d') := by
  cases o with
  | none => cases u with
    | none => exact rd
    | some _ => exact (show False from r).elim
  | some _ => cases u with
    | none => exact (show False from r).elim
    | some _ => exact r
theorem KV.val {kvs : List (κ × V)} {vs : List (κ × Value)} (r : KV kvs vs) (k : κ) : RelO (valV kvs k) (valueAt vs k) := by
  unfold KV at r
  induction r with
  | nil => exact True.intro
  | @cons p q ps qs h t ih =>
    obtain ⟨h1, h2⟩ := h
    by_cases e : p.1 = k
    · have e' : q.1 = k := h1.symm.trans e
      have b : valueAt (q :: qs) k = some q.2 := by simp [valueAt, List.find?_cons, e']
      rw [valV_pos e, b]; exact h2
    · have e' : ¬ q.1 = k := fun z => e (h1.trans z)
      have b : valueAt (q :: qs) k = valueAt qs k := by simp [valueAt, List.find?_cons, e']
      rw [valV_neg e, b]; exact ih
theorem KV.any {kvs : List (κ × V)} {vs : List (κ × Value)} (r : KV kvs vs) (k : κ) : (kvs.any fun kv => decide (kv.1 = k)) = vs.any fun kv => decide (kv.1 = k) := by
  unfold KV at r
  induction r with
  | nil => rfl
  | cons h t ih => rw [List.any_cons, List.any_cons, ih, h.1]
theorem KV.repl {kvs : List (κ × V)} {vs : List (κ × Value)} (r : KV kvs vs) (k : κ) {y : V} {u : Value} (ry : RelV y u) :
    KV (kvs.map fun kv => if kv.1 = k then (kv.1, y) else kv) (vs.map fun kv => if kv.1 = k then (kv.1, u) else kv) := by
  unfold KV at r ⊢
  induction r with
  | nil => exact .nil
  | @cons p q ps qs h t ih =>
    rw [List.map_cons, List.map_cons]
    refine .cons ?_ ih
    obtain ⟨h1, h2⟩ := h
    by_cases e : p.1 = k
    · rw [if_pos e, if_pos (h1.symm.trans e)]; exact ⟨h1, ry⟩
    · rw [if_neg e, if_neg (fun z => e (h1.trans z))]; exact ⟨h1, h2⟩
theorem KV.put {kvs : List (κ × V)} {vs : List (κ × Value)} (r : KV kvs vs) (k : κ) {y : V} {u : Value} (ry : RelV y u) : KV (putK kvs k y) (stored vs k u) := by
  unfold putK stored
  rw [r.any k]
  by_cases e : (vs.any fun kv => decide (kv.1 = k)) = true
  · rw [if_pos e, if_pos e]; exact r.repl k ry
  · rw [if_neg e, if_neg e]; exact Paired.snoc r ⟨rfl, ry⟩
theorem KV.keys {kvs : List (κ × V)} {vs : List (κ × Value)} (r : KV kvs vs) : kvs.map (·.1) = vs.map (·.1) := by
  unfold KV at r
  induction r with
  | nil => rfl
  | cons h t ih => rw [List.map_cons, List.map_cons, ih, h.1]
theorem KV.length {kvs : List (κ × V)} {vs : List (κ × Value)} (r : KV kvs vs) : kvs.length = vs.length := Paired.length r
end
theorem kV_is {P : Program} {w : World} {k : Key} {u : Value} (r : RelV (kV k) u) : (mixKind P w).is k u = true := by
  cases k with
  | inl i => obtain ⟨t, e⟩ := (show ∃ t, u = Value.int i t from r); subst e; exact mixKind_int P w i t
  | inr x => obtain ⟨t, e⟩ := (show ∃ t, u = Value.str x t from r); subst e; exact mixKind_str P w x t
theorem items_are {P : Program} {w : World} : ∀ {ks : List Key} {us : List Value}, Vals (ks.map kV) us → ItemsAre (mixKind P w) ks us
  | [], _, r => by rw [List.map_nil] at r; cases r; exact .nil
  | k :: ks, _, r => by
    rw [List.map_cons] at r
    cases r with
    | cons h t => exact .cons (kV_is h) (items_are t)
abbrev KT (H : Hp) : List (List Key × V) → List (List Key × Addr × Value) → Prop := Paired fun p q => p.1 = q.1 ∧ H q.2.1 = some (.tup (p.1.map kV)) ∧ RelV p.2 q.2.2
theorem KT.val {H : Hp} {kvs : List (List Key × V)} {xs : List (List Key × Addr × Value)} (r : KT H kvs xs) (k : List Key) : RelO (valV kvs k) ((atKey xs k).map (·.2)) := by
  induction r with
  | nil => exact True.intro
  | @cons p q ps qs h t ih =>
    obtain ⟨h1, _, h2⟩ := h
    by_cases e : p.1 = k
    · have e' : q.1 = k := h1.symm.trans e
      have b : atKey (q :: qs) k = some q.2 := by simp [atKey, List.find?_cons, e']
      rw [valV_pos e, b]; exact h2
    · have e' : ¬ q.1 = k := fun z => e (h1.trans z)
      have b : atKey (q :: qs) k = atKey qs k := by simp [atKey, List.find?_cons, e']
      rw [valV_neg e, b]; exact ih
theorem KT.repl {H : Hp} {kvs : List (List Key × V)} {xs : List (List Key × Addr × Value)} (r : KT H kvs xs) (k : List Key) {y : V} {u : Value} (ry : RelV y u) :
    KT H (kvs.map fun kv => if kv.1 = k then (kv.1, y) else kv) (xs.map (putAt k u)) := by
  induction r with
  | nil => exact .nil
  | @cons p q ps qs h t ih =>
    rw [List.map_cons, List.map_cons]
    refine .cons ?_ ih
    obtain ⟨h1, h2, h3⟩ := h
    unfold putAt
    by_cases e : p.1 = k
    · rw [if_pos e, if_pos (h1.symm.trans e)]; exact ⟨h1, h2, ry⟩
    · rw [if_neg e, if_neg (fun z => e (h1.trans z))]; exact ⟨h1, h2, h3⟩
theorem KT.put {H : Hp} {kvs : List (List Key × V)} {xs : List (List Key × Addr × Value)} (r : KT H kvs xs) (k : List Key) {b : Addr} {y : V} {u : Value} (hb : H b = some (.tup (k.map kV))) (ry : RelV y u) :
    KT H (putK kvs k y) (storedH xs k b u) := by
  have e : (kvs.any fun kv => decide (kv.1 = k)) = (atKey xs k).isSome := by
    rw [valV_any, (r.val k).isSome_eq, Option.isSome_map]
  unfold putK storedH
  rw [e]
  by_cases q : (atKey xs k).isSome = true
  · rw [if_pos q, if_pos q]; exact r.repl k ry
  · rw [if_neg q, if_neg q]; exact Paired.snoc r ⟨rfl, hb, ry⟩
theorem KT.keeps {H H' : Hp} {kvs : List (List Key × V)} {xs : List (List Key × Addr × Value)} (r : KT H kvs xs) (ht : ∀ b ys, H b = some (.tup ys) → H' b = some (.tup ys)) : KT H' kvs xs :=
  Paired.mapP r fun _ _ z => ⟨z.1, ht _ _ z.2.1, z.2.2⟩
section
variable {P : Program} {w : World} {H : Hp} {h : Heap} {a : Addr}
theorem rd_of {u : HO} (ok : HOk P w H h) (e : Rd H a u) : ObjOk P w H h a u := e.ok ok
theorem dk_rd {kvs : List (Key × V)} (ok : HOk P w H h) (e : Rd H a (.dK kvs)) : kvs.length ≤ sizeLine ∧ (a == sysModules) = false ∧ ∃ vs, KV kvs vs ∧ h.DictOf (mixKind P w) a vs :=
  show ObjOk P w H h a (.dK kvs) from rd_of ok e
theorem dk_of {kvs : List (Key × V)} (ok : HOk P w H h) (e : H a = some (.dK kvs)) : kvs.length ≤ sizeLine ∧ (a == sysModules) = false ∧ ∃ vs, KV kvs vs ∧ h.DictOf (mixKind P w) a vs := dk_rd ok (.inl e)
theorem key_of {ks : List Key} (ok : HOk P w H h) (e : H a = some (.tup (ks.map kV))) : (tupleKind (mixKind P w)).is h ks a := by
  obtain ⟨_, its, r, o, h1, h2, n, h3⟩ := (show ObjOk P w H h a (.tup (ks.map kV)) from ok a _ e)
  exact ⟨o, its.toArray, n, h1, h2, h3, by simpa using items_are r⟩
theorem dt_rd {kvs : List (List Key × V)} (ok : HOk P w H h) (e : Rd H a (.dT kvs)) : kvs.length ≤ sizeLine ∧ (a == sysModules) = false ∧
    ∃ xs, KT H kvs xs ∧ h.DictOfH (tupleKind (mixKind P w)) a xs := by
  obtain ⟨z, y, xs, r, o, es, ep, h1, h2, h3, h4, h5⟩ := (show ObjOk P w H h a (.dT kvs) from rd_of ok e)
  refine ⟨z, y, xs, r, o, es, ep, h1, h2, h3, h4, fun x hx => ?_, h5⟩
  have all : ∀ {l : List (List Key × V)} {m : List (List Key × Addr × Value)}, KT H l m → ∀ x ∈ m, (tupleKind (mixKind P w)).is h x.1 x.2.1 := by
    intro l m q
    induction q with
    | nil => intro x hx; exact nomatch hx
    | @cons p q ps qs hq t ih =>
      intro x hx
      rcases List.mem_cons.mp hx with e | hx
      · subst e
        exact key_of ok (by rw [← hq.1]; exact hq.2.1)
      · exact ih x hx
  exact all r x hx
theorem dt_of {kvs : List (List Key × V)} (ok : HOk P w H h) (e : H a = some (.dT kvs)) : kvs.length ≤ sizeLine ∧ (a == sysModules) = false ∧
    ∃ xs, KT H kvs xs ∧ h.DictOfH (tupleKind (mixKind P w)) a xs := dt_rd ok (.inl e)
end
def DGet (H : Hp) (a : Addr) (y : V) (r : Option V) : Prop :=
  (∃ kvs k, Rd H a (.dK kvs) ∧ y = kV k ∧ r = valV kvs k) ∨ ∃ kvs k b, Rd H a (.dT kvs) ∧ y = .ref b ∧ H b = some (.tup (k.map kV)) ∧ r = valV kvs k
def DPut (H : Hp) (a : Addr) (y v : V) (H' : Hp) : Prop :=
  (∃ kvs k, H a = some (.dK kvs) ∧ y = kV k ∧ kvs.length < sizeLine ∧ H' = upd H a (.dK (putK kvs k v))) ∨
  ∃ kvs k b, H a = some (.dT kvs) ∧ y = .ref b ∧ H b = some (.tup (k.map kV)) ∧ kvs.length < sizeLine ∧ H' = upd H a (.dT (putK kvs k v))
theorem DGet.k {H : Hp} {a : Addr} {kvs : List (Key × V)} {k : Key} (e : H a = some (.dK kvs)) : DGet H a (kV k) (valV kvs k) := .inl ⟨kvs, k, .inl e, rfl, rfl⟩
theorem DPut.k {H : Hp} {a : Addr} {kvs : List (Key × V)} {k : Key} {v : V} (e : H a = some (.dK kvs)) (hl : kvs.length < sizeLine) : DPut H a (kV k) v (upd H a (.dK (putK kvs k v))) := .inl ⟨kvs, k, e, rfl, hl, rfl⟩
section
variable {X : Cx} {pins : List (Addr × Obj)} {σ : St} {H : Hp} {s : Shared} {a : Addr} {y v : V} {u r : Value} {o : Option V} {A : Around} {E : Value → Shared → Prop}
theorem Inv.big (I : Inv X pins σ H s) : sysModules < s.heap.objs.size := by
  have h : mainGlobals < s.heap.objs.size := (I.mod.glob.keeps I.bk).lt
  exact Nat.lt_trans (by decide) h
theorem d_getItem {Q : Value → Shared → Prop} (hu : A.units + 1 < cLine) (I : Inv X pins σ H s) (g : DGet H a y (some v)) (ry : RelV y u) (h : ∀ w' s', Inv X pins σ H s' → RelV v w' → Q w' s') :
    wpAny (model X.prog X.w) A (getItem (.ref a) u) Q E s := by
  rcases g with ⟨kvs, k, e, ey, l⟩ | ⟨kvs, k, b, e, ey, eb, l⟩
  · subst ey
    obtain ⟨z, hd, vs, rel, dd⟩ := dk_rd I.hok e
    obtain ⟨w', hw, rw'⟩ := RelO.some_of (v := v) (o := valueAt vs k) (by rw [l]; exact rel.val k)
    exact wpAny_getItem_of (kV_is ry) dd.mapOf hw (h w' _ (I.tok _) rw')
  · subst ey
    cases (show u = Value.ref b from ry)
    obtain ⟨z, hd, xs, rel, dd⟩ := dt_rd I.hok e
    obtain ⟨w', hw, rw'⟩ := RelO.some_of (v := v) (o := (atKey xs k).map (·.2)) (by rw [l]; exact rel.val k)
    obtain ⟨p, hp, hp2⟩ := Option.map_eq_some_iff.mp hw
    refine wpAny_getItem_heap (tupleKind_room_in1 hu) (key_of I.hok eb) dd hp ?_
    rw [hp2]
    exact h w' _ (I.tok _) rw'
theorem d_write {h' : Heap} {t' : Nat} {ob : HO} (I : Inv X pins σ H s) (mu : Mut (H a)) (hs : Heap.SameBut a s.heap h') (he : ∃ q, h'.get? a = some q) (new : ObjOk X.prog X.w (upd H a ob) h' a ob) :
    Inv X pins σ (upd H a ob) { s with heap := h', toks := t' } :=
  I.write (x := a) (e := a) mu (.inl rfl) (fun b q hb z => (hs.2 b hb).trans z) he new
theorem dk_new {P : Program} {w : World} {H' : Hp} {h' : Heap} {kvs : List (Key × V)} {vs : List (Key × Value)} (z : kvs.length ≤ sizeLine) (hd : (a == sysModules) = false) (rel : KV kvs vs) (dd : h'.DictOf (mixKind P w) a vs) :
    ObjOk P w H' h' a (.dK kvs) := ⟨z, hd, vs, rel, dd⟩
theorem d_setItem {H' : Hp} {Q : Unit → Shared → Prop} (hu : A.units + 1 < cLine) (I : Inv X pins σ H s) (g : DPut H a y v H') (ry : RelV y u) (rv : RelV v r) (h : ∀ s', Inv X pins σ H' s' → Q () s') :
    wpAny (model X.prog X.w) A (setItem (.ref a) u r) Q E s := by
  rcases g with ⟨kvs, k, e, ey, l, eH⟩ | ⟨kvs, k, b, e, ey, eb, l, eH⟩
  · subst ey eH
    obtain ⟨z, hd, vs, rel, dd⟩ := dk_of I.hok e
    have hz : vs.length ≤ sizeLine := by rw [← rel.length]; exact z
    have hl : (putK kvs k v).length ≤ sizeLine := by have := length_putK kvs k v; omega
    refine wpAny_setItem_pairs (hsz := hz) (kV_is ry) dd fun h' dd' hs => h _ ?_
    have he : ∃ q, h'.get? a = some q := let ⟨q, _, _, hq, _⟩ := dd'; ⟨q, hq⟩
    exact d_write I (by rw [e]; exact True.intro) hs he (dk_new hl hd (rel.put k rv) dd')
  · subst ey eH
    cases (show u = Value.ref b from ry)
    obtain ⟨z, hd, xs, rel, dd⟩ := dt_of I.hok e
    have hz : xs.length ≤ sizeLine := by rw [← Paired.length rel]; exact z
    have hl : (putK kvs k v).length ≤ sizeLine := by have := length_putK kvs k v; omega
    refine wpAny_setItem_heap (hsz := hz) (tupleKind_room_in1 hu) (key_of I.hok eb) dd fun h' dd' hs => h _ ?_
    obtain ⟨q, es, ep, hq, h2, h3, h4, _, h5⟩ := dd'
    refine d_write I (by rw [e]; exact True.intro) hs ⟨q, hq⟩ ⟨hl, hd, _, (rel.put k eb rv).keeps fun c ys ec => ?_, q, es, ep, hq, h2, h3, h4, h5⟩
    rw [upd_ne (ne_of ec e (fun z => nomatch z))]
    exact ec
end
section
variable {X : Cx} {pins : List (Addr × Obj)} {σ : St} {H : Hp} {s : Shared} {a : Addr} {kvs : List (Key × V)} {k : Key} {u : Value} {A : Around} {E : Value → Shared → Prop}
end
def NoSl (i : Expr) : Prop := ∀ ov iv, subscripted i false ov iv = operate [ov, iv] (getItem ov iv)
theorem subD_of {prog : Program} {w : World} {A : Around} {E : Value → Shared → Prop} {s : Shared} {env : Env} {value slice : Expr} {pos : Pos} {T id : String} {Q : Value → Shared → Prop}
    (hl : typeLookup (.type T) "__getitem__" = pure (some (.builtin id))) (hs : NoSl slice)
    (h : wpAny (model prog w) A (eval value env) (fun o s₁ => wpAny (model prog w) A (eval slice env) (fun i s₂ => s₂.TypeIs o T ∧ wpAny (model prog w) A (getItem o i) Q E s₂) E s₁) E s) :
    wpAny (model prog w) A (eval (.Subscript value slice pos) env) Q E s := by
  refine Subscript_ (wpAny_mono h (fun o s₁ h₁ => wpAny_mono h₁ (fun i s₂ h₂ => ?_) fun _ _ x => x) fun _ _ x => x)
  obtain ⟨hT, h₂⟩ := h₂
  unfold subscriptTail
  refine wpAny_bind ?_
  rw [getitemInPython_of_ne hT.not_modules]
  refine wpAny_bind (wpAny_specialOf hT hl ?_)
  have fin : wpAny (model prog w) A (subscripted slice false o i) (fun r s₃ => wpAny (model prog w) A (letTemporaryGo value o r >>= fun _ => pure r) Q E s₃) E s₂ := by
    rw [hs o i]
    exact wpAny_operating (wpAny_mono h₂ (fun r s₃ h₃ => wpAny_bind (wpAny_letTemporaryGo (wpAny_pure h₃))) fun _ _ x => x)
  first
    | exact wpAny_pure (wpAny_bind fin)
    | exact wpAny_bind (wpAny_pure (wpAny_bind fin))
    | exact wpAny_bind fin
theorem dict_typeIs {X : Cx} {pins : List (Addr × Obj)} {σ : St} {H : Hp} {s : Shared} {a : Addr} {y : V} {o : Option V} (I : Inv X pins σ H s) (g : DGet H a y o) : s.TypeIs (.ref a) "dict" := by
  rcases g with ⟨kvs, k, e, _, _⟩ | ⟨kvs, k, b, e, _, _, _⟩
  · obtain ⟨_, _, vs, _, dd⟩ := dk_rd I.hok e
    exact dd.typeIs
  · obtain ⟨_, _, xs, _, dd⟩ := dt_rd I.hok e
    exact dd.typeIs
def tDGet (td ty : TE) : TE := fun σ H Q => td σ H fun x H1 => ty σ H1 fun y H2 => ∃ a v, x = .ref a ∧ DGet H2 a y (some v) ∧ Q v H2
def sDPut (td ty tv : TE) : TS := fun D σ H => tv σ H fun v H1 => td σ H1 fun x H2 => ty σ H2 fun y H3 => ∃ a H4, x = .ref a ∧ DPut H3 a y v H4 ∧ D.nx σ H4
section
variable {X : Cx} {o i e value : Expr} {pos pos' tpos : Pos} {td ty tv : TE}
theorem pe_dget (hu : X.A.units + 1 < cLine) (ho : PE X o td) (hi : PE X i ty) (hs : NoSl i) : PE X (.Subscript o i pos) (tDGet td ty) := by
  intro pins s σ H Q I h
  refine subD_of PySem.F.slot_dict_getitem.lookup hs (thn (ho pins s σ H _ I h) fun u s1 ⟨x, H1, I1, rx, q1⟩ => thn (hi pins s1 σ H1 _ I1 q1) fun iv s2 ⟨y, H2, I2, ry, a, v, ex, g, q2⟩ => ?_)
  subst ex
  obtain rfl : u = Value.ref a := rx
  exact ⟨dict_typeIs I2 g, d_getItem hu I2 g ry fun w' s3 I3 rw' => ⟨v, H2, I3, rw', q2⟩⟩
theorem ps_dput (hu : X.A.units + 1 < cLine) (ho : PE X o td) (hi : PE X i ty) (hv : PE X value tv) (hs : swapsWith value (some (.Subscript o i pos')) pos.line X.env = pure false) :
    PS X (.Assign [.Subscript o i pos'] value pos) (sDPut td ty tv) := by
  intro pins s σ H D I h
  refine wpAny_Assign_Subscript (thn (hv pins s σ H _ I h) fun r s1 ⟨v, H1, I1, rv, q1⟩ => thn (ho pins s1 σ H1 _ I1 q1) fun u s2 ⟨x, H2, I2, rx, q2⟩ => thn (hi pins s2 σ H2 _ I2 q2) fun iv s3 ⟨y, H3, I3, ry, a, H4, ex, g, q3⟩ => ?_) hs
  subst ex
  obtain rfl : u = Value.ref a := rx
  exact d_setItem hu I3 g ry rv fun s4 I4 => ⟨σ, H4, I4, q3⟩
end
theorem dk_empty {P : Program} {w : World} {H : Hp} (h : Heap) (hb : sysModules < h.objs.size) : ObjOk P w H (h.push { cls := .type "dict", data := .dict #[] }) h.objs.size (.dK []) :=
  ⟨Nat.zero_le _, beq_eq_false_iff_ne.mpr (Ne.symm (Nat.ne_of_lt hb)), [], .nil, Heap.DictOf.new h⟩
def tDNewK : TE := fun _ H Q => ∀ p, H p = none → Q (.ref p) (upd H p (.dK []))
section
variable {X : Cx} {pos : Pos}
theorem pe_dnewK : PE X (.Dict [] [] pos) tDNewK := fun pins s σ H Q I h =>
  wpAny_Dict_empty ⟨.ref s.heap.objs.size, _, I.laid (a := s.heap.objs.size) (o := .dK []) (t' := s.toks) (fun _ _ q => Heap.get?_push_of_some _ q) (Nat.le_refl _) (dk_empty s.heap I.big), rfl, h _ (I.hok.fresh (Nat.le_refl _))⟩
end
structure M2 (X : Cx) (o : Expr) (m : Str) (apos : Pos) (e f : Expr) (cpos : Pos) : Prop where
  base : attributeBase o m X.env (eval o X.env) = eval o X.env
  few : ((backTo cpos (starEach [e, f] X.env)).all (fun x => !x.1) && (backToKw cpos (keywordEach [] X.env)).all (fun x => x.1.isSome)
    && decide (([e, f] : List Expr).length + ([] : List Keyword).length + (if ([] : List Keyword).isEmpty then 0 else 1) < 30)) = true
  line : (apos.endLine == cpos.line) = true
  trees : backTo cpos (starEach [e, f] X.env) = [(false, eval e X.env), (false, eval f X.env)]
def IsD (H : Hp) (a : Addr) : Prop := (∃ kvs, Rd H a (.dK kvs)) ∨ ∃ kvs, Rd H a (.dT kvs)
theorem isD_at {X : Cx} {pins : List (Addr × Obj)} {σ : St} {H : Hp} {s : Shared} {a : Addr} (I : Inv X pins σ H s) (d : IsD H a) :
    s.TypeIs (.ref a) "dict" ∧ (∀ b, Value.ref a = .ref b → ∃ ob, s.heap.get? b = some ob ∧ ob.dict = none) ∧ (a == sysModules) = false := by
  rcases d with ⟨kvs, e⟩ | ⟨kvs, e⟩
  · obtain ⟨_, hd, vs, _, dd⟩ := dk_rd I.hok e
    refine ⟨dd.typeIs, fun b q => ?_, hd⟩
    cases q
    obtain ⟨ob, _, _, h1, h2, _⟩ := dd
    exact ⟨ob, h1, h2.2.1⟩
  · obtain ⟨_, hd, xs, _, dd⟩ := dt_rd I.hok e
    refine ⟨dd.typeIs, fun b q => ?_, hd⟩
    cases q
    obtain ⟨ob, _, _, h1, h2, _⟩ := dd
    exact ⟨ob, h1, h2.2.1⟩
section
variable {X : Cx} {pins : List (Addr × Obj)} {σ : St} {H : Hp} {s : Shared} {a : Addr} {y d : V} {u r : Value} {o : Option V} {A : Around} {E : Value → Shared → Prop}
theorem d_get2 {Q : Value → Shared → Prop} (hu : A.units + 1 < cLine) (I : Inv X pins σ H s) (g : DGet H a y o) (ry : RelV y u) (rd : RelV d r) (h : ∀ w' s', Inv X pins σ H s' → RelV (o.getD d) w' → Q w' s') :
    wpAny (model X.prog X.w) A (call (.builtin "dict.get") [.ref a, u, r]) Q E s := by
  rcases g with ⟨kvs, k, e, ey, l⟩ | ⟨kvs, k, b, e, ey, eb, l⟩
  · subst ey
    obtain ⟨z, hd, vs, rel, dd⟩ := dk_rd I.hok e
    refine call_meetsIn PySem.F.slot_dict_get dd.typeIs PySem.F.entry_dict_get (PySem.F.args_dict_get_3 _ _ _) (meets_dict_get_default (mixKind X.prog X.w) a (kV_is ry) hd r) ⟨_, dd.mapOf, h _ _ (I.tok _) ?_⟩
    rw [l]
    exact (rel.val k).getD rd
  · subst ey
    cases (show u = Value.ref b from ry)
    obtain ⟨z, hd, xs, rel, dd⟩ := dt_rd I.hok e
    refine call_meetsIn PySem.F.slot_dict_get dd.typeIs PySem.F.entry_dict_get (PySem.F.args_dict_get_3 _ _ _) (meetsH_dict_get_default (tupleKind (mixKind X.prog X.w)) a b hd r) ⟨tupleKind_room_in1 hu, k, xs, key_of I.hok eb, dd, h _ _ (I.tok _) ?_⟩
    rw [l]
    exact (rel.val k).getD rd
end
def tDGet2 (td ty tx : TE) : TE := fun σ H Q => td σ H fun x H1 => ∃ a, x = .ref a ∧ IsD H1 a ∧ ty σ H1 fun y H2 => tx σ H2 fun z H3 => ∃ o, DGet H3 a y o ∧ Q (o.getD z) H3
section
variable {X : Cx} {o e f : Expr} {apos cpos : Pos} {td ty tx : TE}
theorem pe_dget2 (hu : X.A.units + 1 < cLine) (ho : PE X o td) (he : PE X e ty) (hf : PE X f tx) (m : M2 X o "get" apos e f cpos) : PE X (.Call (.Attribute o "get" apos) [e, f] [] cpos) (tDGet2 td ty tx) := by
  intro pins s σ H Q I h
  refine wpAny_Call_method m.base m.few m.line PySem.F.plainAttrs_dict PySem.F.slot_dict_get PySem.F.type_dict_get (thn (ho pins s σ H _ I h) fun u s1 ⟨x, H1, I1, rx, a, ex, d, q1⟩ => ?_)
  subst ex
  obtain rfl : u = Value.ref a := rx
  obtain ⟨t1, t2, _⟩ := isD_at I1 d
  refine ⟨t1, t2, ?_⟩
  rw [m.trees]
  refine Calls.callWith_builtin rfl (Calls.evalArgs_plain (Calls.spliced_cons (thn (he pins s1 σ H1 _ I1 q1) fun iv s2 ⟨y, H2, I2, ry, q2⟩ =>
    Calls.spliced_cons (thn (hf pins s2 σ H2 _ I2 q2) fun fv s3 ⟨z, H3, I3, rz, ov, g, q3⟩ => Calls.spliced_nil ?_))))
  exact d_get2 hu I3 g ry rz fun w' s4 I4 rw' => ⟨_, H3, I4, rw', q3⟩
end
section
variable {X : Cx} {pins : List (Addr × Obj)} {σ : St} {H : Hp} {s : Shared} {a : Addr} {kvs : List (Key × V)} {A : Around} {E : Value → Shared → Prop}
theorem d_copyOf {Q : Value → Shared → Prop} (I : Inv X pins σ H s) (e : Rd H a (.dK kvs)) (h : ∀ p s', H p = none → Inv X pins σ (upd H p (.dK kvs)) s' → Q (.ref p) s') : wpAny (model X.prog X.w) A (call (.type "dict") [.ref a]) Q E s := by
  obtain ⟨z, hd, vs, rel, dd⟩ := dk_rd I.hok e
  refine kt_call_dict hd dd (by rw [← rel.length]; exact z) fun h' dd' hs => ?_
  refine h _ _ (I.hok.fresh (Nat.le_refl _)) (I.laid (a := s.heap.objs.size) (o := .dK kvs) (t' := s.toks) (fun b q hq => ?_) (Nat.le_refl _) (dk_new z (beq_eq_false_iff_ne.mpr (Ne.symm (Nat.ne_of_lt I.big))) rel dd'))
  exact (hs.2 b (Nat.ne_of_lt (Heap.lt_size hq))).trans (Heap.get?_push_of_some _ hq)
end
section
variable {X : Cx} {pins : List (Addr × Obj)} {σ : St} {H : Hp} {s : Shared} {a : Addr} {y : V} {u : Value} {A : Around} {E : Value → Shared → Prop}
end
end L2
namespace L2
open PySem PySem.Spec PyProof.Rows
section
variable {X : Cx}
end
section
variable {κ : Type} [DecidableEq κ]
end
end L2
namespace Hw
open PySem PySem.Spec
def lt (a b : Str) : Bool := ltCps a.cps.toList b.cps.toList
theorem c_irr : ∀ a : List Nat, ltCps a a = false
  | [] => rfl
  | x :: r => by simp [ltCps, c_irr r]
theorem c_trans : ∀ a b c : List Nat, ltCps a b = true → ltCps b c = true → ltCps a c = true
  | [], [], _, h, _ => by simp [ltCps] at h
  | [], _ :: _, [], _, h => by simp [ltCps] at h
  | [], _ :: _, _ :: _, _, _ => rfl
  | _ :: _, [], _, h, _ => by simp [ltCps] at h
  | _ :: _, _ :: _, [], _, h => by simp [ltCps] at h
  | x :: a, y :: b, z :: c, h, g => by
    simp only [ltCps, Bool.or_eq_true, Bool.and_eq_true, decide_eq_true_eq, beq_iff_eq] at h g ⊢
    rcases h with h | ⟨h, h'⟩ <;> rcases g with g | ⟨g, g'⟩
    · left; omega
    · left; omega
    · left; omega
    · right; exact ⟨by omega, c_trans a b c h' g'⟩
theorem c_tri : ∀ a b : List Nat, ltCps a b = true ∨ a = b ∨ ltCps b a = true
  | [], [] => .inr (.inl rfl)
  | [], _ :: _ => .inl rfl
  | _ :: _, [] => .inr (.inr rfl)
  | x :: a, y :: b => by
    simp only [ltCps, Bool.or_eq_true, Bool.and_eq_true, decide_eq_true_eq, beq_iff_eq, List.cons.injEq]
    rcases Nat.lt_trichotomy x y with h | h | h
    · exact .inl (.inl h)
    · rcases c_tri a b with g | g | g
      · exact .inl (.inr ⟨h, g⟩)
      · exact .inr (.inl ⟨h, g⟩)
      · exact .inr (.inr (.inr ⟨h.symm, g⟩))
    · exact .inr (.inr (.inl h))
theorem lt_irr (a : Str) : lt a a = false := c_irr _
theorem lt_trans {a b c : Str} : lt a b = true → lt b c = true → lt a c = true := c_trans _ _ _
theorem lt_tri (a b : Str) : lt a b = true ∨ a = b ∨ lt b a = true := by
  rcases c_tri a.cps.toList b.cps.toList with h | h | h
  · exact .inl h
  · refine .inr (.inl ?_)
    obtain ⟨⟨x⟩⟩ := a; obtain ⟨⟨y⟩⟩ := b
    have h : x = y := h
    rw [h]
  · exact .inr (.inr h)
theorem lt_ne {a b : Str} (h : lt a b = true) : a ≠ b := fun e => by rw [e, lt_irr] at h; cases h
theorem not_lt_trans {a b c : Str} (h : lt b a = false) (g : lt c b = false) : lt c a = false := by
  rcases lt_tri c a with e | e | e
  · rcases lt_tri b a with k | k | k
    · rw [h] at k; cases k
    · rw [k] at g; rw [g] at e; cases e
    · rw [lt_trans e k] at g; cases g
  · rw [e]; exact lt_irr a
  · cases q : lt c a with
    | false => rfl
    | true => have := lt_trans e q; rw [lt_irr] at this; cases this
abbrev Ps := List (Str × Int)
def lin : Ps → (Str → Int) → Int
  | [], _ => 0
  | p :: r, f => p.2 * f p.1 + lin r f
theorem lin_append : ∀ (a b : Ps) (f : Str → Int), lin (a ++ b) f = lin a f + lin b f
  | [], b, f => by simp [lin]
  | p :: a, b, f => by simp only [List.cons_append, lin, lin_append a b f]; omega
theorem lin_perm {a b : Ps} (h : a.Perm b) (f : Str → Int) : lin a f = lin b f := by
  induction h with
  | nil => rfl
  | cons x _ ih => simp only [lin, ih]
  | swap x y l => simp only [lin]; omega
  | trans _ _ i j => exact i.trans j
theorem lin_smul (k : Int) : ∀ (a : Ps) (f : Str → Int), lin (a.map fun p => (p.1, p.2 * k)) f = lin a f * k
  | [], f => by simp [lin]
  | p :: a, f => by
    simp only [List.map_cons, lin, lin_smul k a f, Int.add_mul]
    rw [Int.mul_assoc, Int.mul_comm k, ← Int.mul_assoc]
theorem lin_neg : ∀ (a : Ps) (f : Str → Int), lin (a.map fun p => (p.1, -p.2)) f = -lin a f
  | [], f => by simp [lin]
  | p :: a, f => by
    simp only [List.map_cons, lin, lin_neg a f, Int.neg_mul]; omega
theorem lin_filter : ∀ (a : Ps) (f : Str → Int), lin (a.filter fun p => decide (p.2 ≠ 0)) f = lin a f
  | [], f => rfl
  | p :: a, f => by
    by_cases h : p.2 = 0
    · rw [List.filter_cons_of_neg (by simp [h]), lin_filter a f, lin, h]; simp
    · rw [List.filter_cons_of_pos (by simp [h]), lin, lin, lin_filter a f]
structure Canon (a : Ps) : Prop where
  up : a.Pairwise fun p q => lt p.1 q.1 = true
  nz : ∀ p ∈ a, p.2 ≠ 0
def ind (t : Str) : Str → Int := fun s => if s = t then 1 else 0
theorem lin_none {t : Str} : ∀ {a : Ps}, (∀ p ∈ a, p.1 ≠ t) → lin a (ind t) = 0
  | [], _ => rfl
  | p :: a, h => by
    have h1 : p.1 ≠ t := h p (List.mem_cons_self ..)
    rw [lin, lin_none (a := a) fun q hq => h q (List.mem_cons_of_mem _ hq)]
    simp [ind, h1]
theorem Canon.tail {p : Str × Int} {a : Ps} (c : Canon (p :: a)) : Canon a := ⟨(List.pairwise_cons.mp c.up).2, fun q hq => c.nz q (List.mem_cons_of_mem _ hq)⟩
theorem Canon.head {p : Str × Int} {a : Ps} (c : Canon (p :: a)) : lin (p :: a) (ind p.1) = p.2 := by
  rw [lin, lin_none fun q hq => (lt_ne ((List.pairwise_cons.mp c.up).1 q hq)).symm]
  simp [ind]
theorem Canon.low {t : Str} {p : Str × Int} {a : Ps} (c : Canon (p :: a)) (h : lt t p.1 = true) : lin (p :: a) (ind t) = 0 := by
  refine lin_none fun q hq => ?_
  rcases List.mem_cons.mp hq with rfl | hq
  · exact (lt_ne h).symm
  · exact (lt_ne (lt_trans h ((List.pairwise_cons.mp c.up).1 q hq))).symm
theorem Canon.same : ∀ {a b : Ps}, Canon a → Canon b → (∀ f, lin a f = lin b f) → a = b
  | [], [], _, _, _ => rfl
  | [], p :: b, _, cb, h => by
    have e := h (ind p.1)
    rw [cb.head] at e
    exact absurd e.symm (cb.nz p (List.mem_cons_self ..))
  | p :: a, [], ca, _, h => by
    have e := h (ind p.1)
    rw [ca.head] at e
    exact absurd e (ca.nz p (List.mem_cons_self ..))
  | p :: a, q :: b, ca, cb, h => by
    rcases lt_tri p.1 q.1 with g | g | g
    · have e := h (ind p.1)
      rw [ca.head, cb.low g] at e
      exact absurd e (ca.nz p (List.mem_cons_self ..))
    · have e := h (ind p.1)
      rw [ca.head, g, cb.head] at e
      have pq : p = q := Prod.ext g e
      subst pq
      rw [Canon.same ca.tail cb.tail fun f => by have := h f; simp only [lin] at this; omega]
    · have e := h (ind q.1)
      rw [cb.head, ca.low g] at e
      exact absurd e.symm (cb.nz q (List.mem_cons_self ..))
def Gat (a b : Ps) : Prop := Canon b ∧ ∀ f, lin b f = lin a f
theorem Gat.same {a b a' b' : Ps} (h : Gat a b) (h' : Gat a' b') (e : ∀ f, lin a f = lin a' f) : b = b' := h.1.same h'.1 fun f => by rw [h.2, h'.2, e]
theorem Canon.nil : Canon [] := ⟨.nil, fun _ h => nomatch h⟩
def get (d : Ps) (t : Str) : Int := ((d.find? fun p => decide (p.1 = t)).map (·.2)).getD 0
def put (d : Ps) (t : Str) (n : Int) : Ps := if (d.any fun p => decide (p.1 = t)) = true then d.map (fun p => if p.1 = t then (p.1, n) else p) else d ++ [(t, n)]
def keys (d : Ps) : List Str := d.map (·.1)
theorem get_cons (p : Str × Int) (r : Ps) (t : Str) : get (p :: r) t = if p.1 = t then p.2 else get r t := by
  unfold get
  by_cases e : p.1 = t
  · simp [List.find?_cons, e]
  · simp [List.find?_cons, e]
theorem any_iff (d : Ps) (t : Str) : (d.any fun p => decide (p.1 = t)) = true ↔ t ∈ keys d := by
  unfold keys
  rw [List.any_eq_true, List.mem_map]
  constructor
  · rintro ⟨p, h, e⟩; exact ⟨p, h, of_decide_eq_true e⟩
  · rintro ⟨p, h, e⟩; exact ⟨p, h, decide_eq_true e⟩
theorem get_no : ∀ {d : Ps} {t : Str}, t ∉ keys d → get d t = 0
  | [], _, _ => rfl
  | p :: r, t, h => by
    have h' : p.1 ≠ t ∧ t ∉ keys r := by
      constructor
      · intro e; exact h (by unfold keys; rw [List.map_cons, e]; exact List.mem_cons_self ..)
      · intro e; exact h (List.mem_cons_of_mem _ e)
    rw [get_cons, if_neg h'.1, get_no h'.2]
theorem keys_put (d : Ps) (t : Str) (n : Int) : keys (put d t n) = if t ∈ keys d then keys d else keys d ++ [t] := by
  unfold put
  by_cases h : t ∈ keys d
  · rw [if_pos ((any_iff d t).mpr h), if_pos h]
    unfold keys
    rw [List.map_map]
    refine List.map_congr_left fun p _ => ?_
    show (if p.1 = t then (p.1, n) else p).1 = p.1
    split <;> rfl
  · rw [if_neg (fun e => h ((any_iff d t).mp e)), if_neg h]
    unfold keys
    rw [List.map_append]; rfl
theorem nodup_put {d : Ps} {t : Str} {n : Int} (h : (keys d).Nodup) : (keys (put d t n)).Nodup := by
  rw [keys_put]
  by_cases e : t ∈ keys d
  · rw [if_pos e]; exact h
  · rw [if_neg e, List.nodup_append]
    refine ⟨h, by simp, fun x hx y hy => ?_⟩
    rw [List.mem_singleton] at hy
    rw [hy]; rintro rfl; exact e hx
theorem len_put (d : Ps) (t : Str) (n : Int) : (put d t n).length ≤ d.length + 1 := by
  have h : (keys (put d t n)).length ≤ (keys d).length + 1 := by
    rw [keys_put]; split
    · omega
    · simp
  simpa [keys] using h
theorem lin_repl (t : Str) (n : Int) (f : Str → Int) : ∀ {d : Ps}, (keys d).Nodup → t ∈ keys d → lin (d.map fun p => if p.1 = t then (p.1, n) else p) f = lin d f + (n - get d t) * f t
  | [], _, h => by simp [keys] at h
  | p :: r, nd, h => by
    have nd' : p.1 ∉ keys r ∧ (keys r).Nodup := List.nodup_cons.mp nd
    rw [List.map_cons, lin, lin, get_cons]
    by_cases e : p.1 = t
    · have hr : r.map (fun p => if p.1 = t then (p.1, n) else p) = r := by
        refine (List.map_congr_left fun q hq => ?_).trans (List.map_id r)
        rw [if_neg]; rfl
        intro z
        exact nd'.1 (by rw [e, ← z]; exact List.mem_map.mpr ⟨q, hq, rfl⟩)
      rw [hr, if_pos e, if_pos e, Int.sub_mul]
      show n * f p.1 + _ = _
      rw [e]; omega
    · have ht : t ∈ keys r := (List.mem_cons.mp h).resolve_left fun z => e z.symm
      rw [if_neg e, if_neg e, lin_repl t n f nd'.2 ht]; omega
theorem lin_put {d : Ps} (t : Str) (n : Int) (f : Str → Int) (nd : (keys d).Nodup) : lin (put d t n) f = lin d f + (n - get d t) * f t := by
  unfold put
  by_cases h : t ∈ keys d
  · rw [if_pos ((any_iff d t).mpr h), lin_repl t n f nd h]
  · rw [if_neg (fun e => h ((any_iff d t).mp e)), lin_append, get_no h]; simp [lin]
def step (d : Ps) (p : Str × Int) : Ps := put d p.1 (get d p.1 + p.2)
structure Tab (pre d : Ps) : Prop where
  nd : (keys d).Nodup
  len : d.length ≤ pre.length
  lin : ∀ f, lin d f = lin pre f
theorem Tab.nil : Tab [] [] := ⟨.nil, Nat.le_refl _, fun _ => rfl⟩
theorem Tab.step {pre d : Ps} (h : Tab pre d) (p : Str × Int) : Tab (pre ++ [p]) (step d p) := by
  refine ⟨nodup_put h.nd, ?_, fun f => ?_⟩
  · have := len_put d p.1 (get d p.1 + p.2); have := h.len; simp; unfold Hw.step; omega
  · unfold Hw.step
    rw [lin_put _ _ _ h.nd, lin_append, h.lin]
    simp only [Hw.lin]
    have : get d p.1 + p.2 - get d p.1 = p.2 := by omega
    rw [this]; omega
theorem lin_keys : ∀ {d : Ps} (f : Str → Int), (keys d).Nodup → lin ((keys d).map fun t => (t, get d t)) f = lin d f
  | [], _, _ => rfl
  | p :: r, f, nd => by
    have nd' : p.1 ∉ keys r ∧ (keys r).Nodup := List.nodup_cons.mp nd
    show lin ((p.1, get (p :: r) p.1) :: (keys r).map fun t => (t, get (p :: r) t)) f = _
    have e : ((keys r).map fun t => (t, get (p :: r) t)) = (keys r).map fun t => (t, get r t) := by
      refine List.map_congr_left fun t ht => ?_
      rw [get_cons, if_neg (fun z => nd'.1 (by rw [z]; exact ht))]
    rw [e, lin, lin_keys f nd'.2, get_cons, if_pos rfl, lin]
def outs (d : Ps) (ys : List Str) : Ps := (ys.map fun t => (t, get d t)).filter fun p => decide (p.2 ≠ 0)
theorem Tab.gat {pre d : Ps} {ys : List Str} (h : Tab pre d) (hp : ys.Perm (keys d)) (hs : ys.Pairwise fun a b => lt b a = false) : Gat pre (outs d ys) := by
  have nd : ys.Nodup := hp.nodup_iff.mpr h.nd
  have up : ys.Pairwise fun a b => lt a b = true := by
    have := hs.and nd
    refine this.imp fun {a b} q => ?_
    rcases lt_tri a b with e | e | e
    · exact e
    · exact absurd e q.2
    · rw [q.1] at e; cases e
  refine ⟨⟨?_, fun p hp => ?_⟩, fun f => ?_⟩
  · unfold outs
    refine List.Pairwise.filter _ ?_
    rw [List.pairwise_map]; exact up
  · exact of_decide_eq_true (List.mem_filter.mp hp).2
  · unfold outs
    rw [lin_filter, lin_perm (hp.map _), lin_keys f h.nd, h.lin]
end Hw
set_option maxHeartbeats 4000000
namespace L2
open PySem PySem.Spec PyProof.Rows
abbrev nowish : Value → Shared → Prop := fun _ _ => False
abbrev cxB (X : Cx) (sc : Scope) (N : List Str) (cl : List (Str × Addr)) (C : Addr) (s : Shared) (H : Hp) (fp : List Addr) : Cx :=
  { X with N := N, s₀ := s, H₀ := H, env := compEnvC sc cl C X.env, outer := X.stack, ex := fp, fn := fun _ => false, pn := [], xe := nowish }
def Ext (σ σ' : St) : Prop := σ'.length = σ.length ∧ ∀ (i : Nat) v, σ[i]? = some (some v) → σ'[i]? = some (some v)
theorem Ext.one {x : V} {r : St} : Ext (none :: r) (some x :: r) := ⟨rfl, fun i v h => by cases i with | zero => cases h | succ i => exact h⟩
theorem Ext.two {x y : V} {r : St} : Ext (none :: none :: r) (some x :: some y :: r) := ⟨rfl, fun i v h => by
  cases i with
  | zero => cases h
  | succ i => cases i with | zero => cases h | succ i => exact h⟩
def testsOf (cs : List Expr) (env : Env) : Sem Bool := forIn cs true fun c r => if r = true then do let ok ← isTrue c env (eval c env); pure (ForInStep.yield ok) else pure (ForInStep.yield r)
def PTs (X : Cx) (cs : List Expr) (t : TT) : Prop :=
  ∀ (pins : List (Addr × Obj)) (s : Shared) (σ : St) (H : Hp) (Q : Bool → Hp → Prop), Inv X pins σ H s → t σ H Q → wpAny (model X.prog X.w) X.A (testsOf cs X.env) (TP X pins σ Q) X.xe s
def tAlways : TT := fun _ H Q => Q true H
theorem pts_nil {X : Cx} : PTs X [] tAlways := fun pins s σ H Q I h => wpAny_tests_nil ⟨H, I, h⟩
theorem pts_one {X : Cx} {c : Expr} {t : TT} (hc : PT X c t) : PTs X [c] t := fun pins s σ H Q I h => wpAny_tests_one (hc pins s σ H Q I h)
section
variable {prog : Program} {w : World} {A : Around} {R : Result → Shared → Prop} {s : Shared}
theorem comp_loop {elt target iter : Expr} {cs : List Expr} {scope : Scope} {pos : Pos} {it acc : Value} {env : Env} (J : Nat → Shared → Prop)
    (turn : ∀ n s, J n s → wpAny (model prog w) A (pyNext it) (fun r s1 => match r with
      | none => R (.ok .next) s1
      | some v => wpAny (model prog w) A (letOwnedTupleGo target it v) (fun _ s2 => wpAny (model prog w) A (assign target env v) (fun _ s3 =>
          wpAny (model prog w) A (testsOf cs env) (fun ok s4 => if ok = true then wpAny (model prog w) A (eval elt env) (fun x s5 =>
              wpAny (model prog w) A (call (.builtin "list.append") [acc, x]) (fun _ s6 => ∃ m, m < n ∧ J m s6) nowish s5) nowish s4
            else ∃ m, m < n ∧ J m s4) nowish s3) nowish s2) nowish s1) nowish s) (n : Nat) (h : J n s) :
    codeAny (model prog w) A (.compLoop (.ListComp elt [⟨target, iter, cs, 0⟩] scope pos) 0 it acc env) R s := by
  refine codeAny_loop rfl J (fun k s' hk => ?_) n h
  show wpAny (model prog w) A ((compTurn (.ListComp elt [⟨target, iter, cs, 0⟩] scope pos) 0 it acc env).onRaise (fun x => do noteFrame x env; theTreesLotGoes x)) _ _ s'
  refine wpAny_noted ?_
  have no : ∀ (e : Value) (s2 : Shared), nowish e s2 → notedBy (model prog w) A env (fun e s' => R (.error e) s') e s2 := fun _ _ f => f.elim
  rw [compTurn_list]
  refine wpAny_bind (wpAny_standAt (wpAny_bind (wpAny_mono (turn k s' hk) (fun r s1 g1 => ?_) no)))
  cases r with
  | none => exact wpAny_pure g1
  | some v =>
    refine wpAny_bind (wpAny_mono g1 (fun _ s2 g2 => ?_) no)
    refine wpAny_bind (wpAny_mono g2 (fun _ s3 g3 => ?_) no)
    refine wpAny_bind (wpAny_mono g3 (fun ok s4 g4 => ?_) no)
    cases ok with
    | false => exact wpAny_pure ⟨rfl, g4⟩
    | true => exact wpAny_bind (wpAny_bind (wpAny_mono g4 (fun x s5 g5 => wpAny_bind (wpAny_mono g5 (fun _ s6 g6 => wpAny_pure (wpAny_pure ⟨rfl, g6⟩)) no)) no))
end
def cWalk (J : It) (g : TG) (tt : TT) (te : TE) (σ0 : St) (W : Nat → Nat → List V → Hp → Prop) (R : List V → Hp → Prop) : Prop :=
  ∀ i m ys H, W i m ys H → (J.stop i H ∧ R ys H) ∨ (J.go i H ∧ ∃ F : List V → Hp → Prop, (∀ ys' H', F ys' H' → ∃ m', m' < m ∧ W (i + 1) m' ys' H') ∧ ∀ x H', J.yld i H x H' → g x σ0 H' fun σ2 H2 => Ext σ0 σ2 ∧ tt σ2 H2 fun b H3 =>
    if b = true then te σ2 H3 fun v H4 => ys.length < sizeLine ∧ F (ys ++ [v]) H4 else F ys H3)
structure CompSc (X : Cx) (sc : Scope) (cl : List (Str × Addr)) (own : Nat) (N : List Str) (fr : List Nat) : Prop where
  kind : sc.kind = .function
  names : ∀ x ∈ sc.names, x.2 = .local → sc.names.lookup x.1 = some .local
  nocell : ∀ x ∈ sc.names, x.2 ≠ .cell
  clos : closureFor sc X.env = pure cl
  cells : ∀ x c, cl.lookup x = some c → X.env.cells.lookup x = some c
  has : ∀ x, ((relabel sc X.env).names.lookup x = some .cell ∨ (relabel sc X.env).names.lookup x = some .free) → ∃ c, cl.lookup x = some c
  len : N.length = own + fr.length
  fro : ∀ (i : Nat) j, fr[i]? = some j → ∃ x, N[own + i]? = some x ∧ X.N[j]? = some x ∧ (X.env.kindOf x = some .cell ∨ X.env.kindOf x = some .free) ∧ ((relabel sc X.env).names.lookup x = some .cell ∨ (relabel sc X.env).names.lookup x = some .free)
def AllC (env : Env) : List (Str × Addr) → Prop
  | [] => True
  | p :: r => env.cells.lookup p.1 = some p.2 ∧ AllC env r
theorem AllC.mem {env : Env} : ∀ {cl : List (Str × Addr)}, AllC env cl → ∀ p ∈ cl, env.cells.lookup p.1 = some p.2
  | [], _, _, h => nomatch h
  | _ :: _, h, p, hp => by
    rcases List.mem_cons.mp hp with rfl | hp
    · exact h.1
    · exact h.2.mem p hp
def isCF (k : Option NameKind) : Bool := match k with
  | some .cell => true
  | some .free => true
  | _ => false
theorem isCF_of {k : Option NameKind} (h : isCF k = true) : k = some .cell ∨ k = some .free := by
  cases k with
  | none => cases h
  | some k => cases k <;> first | exact .inl rfl | exact .inr rfl | cases h
def froOk (X : Cx) (sc : Scope) : List Str → List Nat → Bool
  | [], [] => true
  | x :: ns, j :: fr => decide (X.N[j]? = some x) && isCF (X.env.kindOf x) && isCF ((relabel sc X.env).names.lookup x) && froOk X sc ns fr
  | _, _ => false
theorem froOk_at {X : Cx} {sc : Scope} : ∀ {ns : List Str} {fr : List Nat}, froOk X sc ns fr = true → ns.length = fr.length ∧ ∀ (i : Nat) j, fr[i]? = some j → ∃ x, ns[i]? = some x ∧ X.N[j]? = some x ∧ isCF (X.env.kindOf x) = true ∧ isCF ((relabel sc X.env).names.lookup x) = true
  | [], [], _ => ⟨rfl, fun i j h => by simp at h⟩
  | [], _ :: _, h => by cases h
  | _ :: _, [], h => by cases h
  | x :: ns, j :: fr, h => by
    have h : (decide (X.N[j]? = some x) && isCF (X.env.kindOf x) && isCF ((relabel sc X.env).names.lookup x) && froOk X sc ns fr) = true := h
    rw [Bool.and_eq_true, Bool.and_eq_true, Bool.and_eq_true] at h
    obtain ⟨⟨⟨h1, h2⟩, h3⟩, h4⟩ := h
    obtain ⟨l, g⟩ := froOk_at h4
    refine ⟨by simp [l], fun i k e => ?_⟩
    cases i with
    | zero => cases e; exact ⟨x, rfl, of_decide_eq_true h1, h2, h3⟩
    | succ i => exact g i k e
theorem compSc_mk {X : Cx} {sc : Scope} {cl : List (Str × Addr)} (ownN frN : List Str) (fr : List Nat) (kind : sc.kind = .function) (names : (sc.names.all fun x => x.2 != .local || sc.names.lookup x.1 == some .local) = true)
    (nocell : (sc.names.all fun x => x.2 != .cell) = true) (clos : closureFor sc X.env = pure cl) (cells : AllC X.env cl) (has : ((relabel sc X.env).names.all fun y => !isCF (some y.2) || (cl.lookup y.1).isSome) = true)
    (len : frN.length = fr.length) (fro : froOk X sc frN fr = true) : CompSc X sc cl ownN.length (ownN ++ frN) fr where
  kind := kind
  names := fun x hx hl => by
    have := List.all_eq_true.mp names x hx
    rw [hl] at this
    simpa using this
  nocell := fun x hx => by simpa using List.all_eq_true.mp nocell x hx
  clos := clos
  cells := fun x c h => cells.mem (x, c) (PySem.mem_of_lookup h)
  has := fun x h => by
    obtain ⟨k, hk, e⟩ : ∃ k, (relabel sc X.env).names.lookup x = some k ∧ isCF (some k) = true := by
      rcases h with h | h
      · exact ⟨_, h, rfl⟩
      · exact ⟨_, h, rfl⟩
    have := List.all_eq_true.mp has (x, k) (PySem.mem_of_lookup hk)
    rw [e] at this
    exact Option.isSome_iff_exists.mp (by simpa using this)
  len := by rw [List.length_append, len]
  fro := fun i j e => by
    obtain ⟨_, g⟩ := froOk_at fro
    obtain ⟨x, e1, e2, e3, e4⟩ := g i j e
    refine ⟨x, ?_, e2, isCF_of e3, isCF_of e4⟩
    rw [List.getElem?_append_right (Nat.le_add_right _ _), Nat.add_sub_cancel_left]
    exact e1
def st0 (own : Nat) (fr : List Nat) (σ : St) : St := List.replicate own none ++ fr.map fun j => (σ[j]?).join
section
variable {X : Cx} {sc : Scope} {cl : List (Str × Addr)} {own : Nat} {N : List Str} {fr : List Nat}
theorem st0_at {σ : St} {i : Nat} {v : V} (h : (st0 own fr σ)[i]? = some (some v)) : ∃ k j, i = own + k ∧ fr[k]? = some j ∧ σ[j]? = some (some v) := by
  unfold st0 at h
  by_cases hi : i < own
  · rw [List.getElem?_append_left (by simpa using hi), List.getElem?_replicate, if_pos hi] at h
    cases h
  · rw [List.getElem?_append_right (by simpa using hi), List.length_replicate, List.getElem?_map] at h
    cases e : fr[i - own]? with
    | none => rw [e] at h; cases h
    | some j =>
      rw [e] at h
      have h : (σ[j]?).join = some v := Option.some.inj h
      refine ⟨i - own, j, by omega, e, ?_⟩
      cases q : σ[j]? with
      | none => rw [q] at h; cases h
      | some o => rw [q] at h; exact congrArg some h
theorem block_inv {pins : List (Addr × Obj)} {σ : St} {H : Hp} {s : Shared} {fp : List Addr} {h1 : Heap} {m1 : Str → Option Value} {t : Nat} {C D : Addr} {od : Obj} (S : CompSc X sc cl own N fr) (I : Inv X pins σ H s) (hfp : ∀ b ∈ fp, FpOk X pins H b)
    (hob : ∀ b ∈ fp, ∃ o, s.heap.get? b = some o) (kp : ∀ b o, s.heap.get? b = some o → h1.get? b = some o) (hC : s.heap.objs.size ≤ C) (hns : h1.Ns C m1) (hD : s.heap.objs.size ≤ D) (hDC : D ≠ C) (ho : h1.get? D = some od) (hod : ∀ v, od.data ≠ .cell v) :
    Inv (cxB X sc N cl C s H fp) [(D, od)] (st0 own fr σ) H { s with heap := h1, toks := t } := by
  have subL : ∀ b ∈ fp, b < s.heap.objs.size := fun b hb => let ⟨o, e⟩ := hob b hb; Heap.lt_size e
  refine ⟨⟨I.ok.mod, S.kind, I.ok.glob, I.ok.blt, hC, fun x y c a b => I.ok.inj x y c (S.cells x c a) (S.cells y c b), S.has, (fun x c z => nomatch z), I.ok.hd, I.ok.frames, .inl rfl, fun b hb => ?_, I.bs, Nat.le_trans I.ok.bsz I.sz, fun b o e hb => ?_, fun b hb hf => ?_, I.stack, I.stkFree⟩,
    rfl, I.bare, Un.kept kp, ⟨m1, hns, fun i x v e1 e2 e3 => ?_⟩, fun x c e => ?_, I.hok.fresh hC, fun x c e => I.freeC x c (S.cells x c e), fun p hp => ?_, I.hok.kept kp, ?_⟩
  · exact ⟨Nat.ne_of_lt (Nat.lt_of_lt_of_le (subL b hb) hC), fun x c e => (hfp b hb).2.2.2.2.1 x c (S.cells x c e)⟩
  · rcases (hfp b hb).2.2.2.1 with z | z
    · exact I.ok.noex b o e z
    · exact absurd (Nat.lt_of_lt_of_le (Heap.lt_size e) (Nat.le_trans I.ok.bsz z)) (Nat.lt_irrefl _)
  · rcases List.mem_cons.mp (I.stkSub b hf) with z | z
    · exact (hfp b hb).2.1 z
    · exact (hfp b hb).2.2.1 z
  · obtain ⟨k, j, rfl, ej, eσ⟩ := st0_at e2
    obtain ⟨y, n1, n2, k1, k2⟩ := S.fro k j ej
    have e1 : N[own + k]? = some x := e1
    rw [n1] at e1
    cases e1
    obtain ⟨m, hn, hl⟩ := I.loc
    obtain ⟨u, ru, l⟩ := hl j x v n2 eσ (by rcases k1 with z | z; exact .inr (.inl z); exact .inr (.inr z))
    refine ⟨u, ru, .inr ⟨k2, ?_⟩⟩
    obtain ⟨c, hc⟩ := S.has x k2
    refine ⟨c, hc, ?_⟩
    rcases l with ⟨q, _⟩ | ⟨_, c', e', z⟩
    · rcases k1 with k1 | k1 <;> (rw [k1] at q; cases q)
    · have := S.cells x c hc
      rw [e'] at this; cases this
      obtain ⟨o, h1', h2'⟩ := z
      exact ⟨o, kp _ _ h1', h2'⟩
  · obtain ⟨v, o, h1', h2'⟩ := I.cell x c (S.cells x c e)
    exact ⟨v, o, kp _ _ h1', h2'⟩
  · have hp : p = (D, od) := by simpa using hp
    subst hp
    refine ⟨ho, I.hok.fresh hD, hDC, fun hf => ?_, hod⟩
    have : D ∈ X.env.locals :: X.fs := I.stkSub D hf
    rcases List.mem_cons.mp this with z | z
    · exact absurd (Nat.lt_of_lt_of_le I.lt hD) (by rw [z]; exact Nat.lt_irrefl _)
    · exact I.nofs hD z
  · unfold st0
    rw [List.length_append, List.length_replicate, List.length_map]
    exact S.len.symm
theorem block_end {pins pl : List (Addr × Obj)} {σ τ : St} {H H' : Hp} {s s' : Shared} {fp : List Addr} {C D : Addr} {ys : List V} {its : List Value} {n : Nat} (I : Inv X pins σ H s) (hfp : ∀ b ∈ fp, FpOk X pins H b) (hC : s.heap.objs.size ≤ C) (hD : s.heap.objs.size ≤ D)
    (B : Inv (cxB X sc N cl C s H fp) pl τ H' s') (hn : H' D = none) (ho : s'.heap.get? D = some { cls := .type "list", data := .seq its.toArray n }) (r : Vals ys its) (hz : ys.length ≤ sizeLine) :
    Inv X pins σ (upd H' D (.lst ys)) s' := by
  have ne : ∀ b o, s.heap.get? b = some o → b ≠ D := fun b o e => Nat.ne_of_lt (Nat.lt_of_lt_of_le (Heap.lt_size e) hD)
  have nt : ∀ b u, H' b = some u → b ≠ D := fun b u e => ne_of_none e hn
  refine I.call' (ch := fp) B.os ⟨B.base.keep, B.base.slot, fun b o e q hx => ?_, B.base.there, fun b xs e => ?_, fun b o u e => ?_, fun b ps e => ?_⟩ (fun b u e => ?_) B.bare fun b hb => ?_
  · rw [upd_ne (ne b o e)]; exact B.base.free b o e q hx
  · have := B.base.tups b xs e; rw [upd_ne (nt _ _ this)]; exact this
  · have := B.base.frzs b o u e; rw [upd_ne (nt _ _ this)]; exact this
  · obtain ⟨mo, this⟩ := B.base.tbls b ps e; exact ⟨mo, by rw [upd_ne (nt _ _ this)]; exact this⟩
  · by_cases hb : b = D
    · subst hb
      rw [upd_same] at e
      cases e
      exact ⟨hz, its, n, r, ho⟩
    · rw [upd_ne hb] at e
      exact (B.hok b u e).stay (fun _ _ _ q => q) (fun c q => by rw [upd_ne (nt _ _ q)]; exact q) fun c xs q => by rw [upd_ne (nt _ _ q)]; exact q
  · obtain ⟨_, f1, _, f3, f4, f5⟩ := hfp b hb
    exact ⟨f3, f1, f4, f5⟩
end
end L2
namespace L2
open PySem PySem.Spec PyProof.Rows
section
variable {X : Cx} {sc : Scope} {cl : List (Str × Addr)} {own : Nat} {N : List Str} {fr : List Nat}
theorem Inv.pins_sub {pins pins' : List (Addr × Obj)} {σ : St} {H : Hp} {s : Shared} (I : Inv X pins σ H s) (h : ∀ p ∈ pins', p ∈ pins) : Inv X pins' σ H s := I.pins_of fun p hp => I.pin p (List.mem_append_right _ (h p hp))
theorem comp_core {elt tg iter : Expr} {cs : List Expr} {pos : Pos} {g : TG} {tt : TT} {te : TE} {pins : List (Addr × Obj)} {σ : St} {H : Hp} {s : Shared} {it : Addr} {fp : List Addr} {tn : Nat → Heap → Prop} {J : It} {RR : Value → Addr → Result → Shared → Prop}
    (S : CompSc X sc cl own N fr) (hc : X.calm = true) (I : Inv X pins σ H s) (T : Turn X.prog X.w X.K tg J fp it tn) (st : tn 0 s.heap) (hfp : ∀ b ∈ fp, FpOk X pins H b)
    (hg : ∀ C s H, PG (cxB X sc N cl C s H fp) tg g) (ht : ∀ C s H, PTs (cxB X sc N cl C s H fp) cs tt) (he : ∀ C s H, PE (cxB X sc N cl C s H fp) elt te)
    {W : Nat → Nat → List V → Hp → Prop} {R : List V → Hp → Prop} (w0 : ∃ m, W 0 m [] H) (walk : cWalk J g tt te (st0 own fr σ) W R)
    (fin : ∀ D C H' ys s' m, s'.heap.Ns C m → H' D = none → FpOk X pins (upd H' D (.lst ys)) C → Inv X pins σ (upd H' D (.lst ys)) s' → R ys H' → RR (.ref D) C (.ok .next) s') :
    wpAny (model X.prog X.w) X.A (newList []) (fun acc s3 => wpAny (model X.prog X.w) X.A (newFunctionEnv sc X.env.globals cl [] X.env.qual none .none (some X.env)) (fun cenv s4 =>
      codeAny (model X.prog X.w) X.A (.compStart (.ListComp elt [⟨tg, iter, cs, 0⟩] sc pos) 0 (.ref it) acc { cenv with scope := relabel sc X.env }) (RR acc cenv.locals) s4) X.xe s3) X.xe s := by
  refine wpAny_newObj_type (wpAny_newFunctionEnv S.nocell (by intro y hy; simp at hy) (fun h1 hns hsb => ?_) S.kind)
  dsimp only at hns hsb ⊢
  generalize hH : s.heap.push { cls := .type "list", dict := none, data := .seq ([] : List Value).toArray } = hp at hns hsb ⊢
  have sC : hp.objs.size = s.heap.objs.size + 1 := by rw [← hH, Heap.size_push]
  have hDC : s.heap.objs.size ≠ hp.objs.size := by omega
  have kp : ∀ b o, s.heap.get? b = some o → h1.get? b = some o := fun b o e => by
    have l := Heap.lt_size e
    exact hsb.extBut b o (Nat.ne_of_lt (by rw [sC]; exact Nat.lt_succ_of_lt l)) (Heap.get?_push_of_some _ (hH ▸ Heap.get?_push_of_some _ e))
  have hD1 : h1.get? s.heap.objs.size = some { cls := .type "list", data := .seq ([] : List Value).toArray } := hsb.extBut _ _ hDC (Heap.get?_push_of_some _ (hH ▸ Heap.get?_push_size _ rfl))
  have subL : ∀ b ∈ fp, b < s.heap.objs.size := fun b hb => let ⟨o, e, _⟩ := T.obj 0 _ st b hb; Heap.lt_size e
  generalize hCC : hp.objs.size = C at *
  generalize hDD : s.heap.objs.size = D at *
  have I1 : ∀ t, Inv (cxB X sc N cl C s H fp) [(D, { cls := .type "list", data := .seq ([] : List Value).toArray })] (st0 own fr σ) H { s with heap := h1, toks := t } := fun t =>
    block_inv S I hfp (fun b hb => let ⟨o, e, _⟩ := T.obj 0 _ st b hb; ⟨o, e⟩) kp (by omega) hns (by omega) hDC hD1 (by intro v z; cases z)
  have st1 : tn 0 h1 := T.keep 0 _ _ st fun b hb o e => kp b o e
  have fpo : ∀ {H' : Hp} {s' : Shared} {τ : St} {pl : List (Addr × Obj)} {od : Obj}, Inv (cxB X sc N cl C s H fp) pl τ H' s' → (∀ p ∈ pl, p.1 = D) → (∀ b ∈ fp, H' b = none) → ∀ b ∈ fp, FpOk (cxB X sc N cl C s H fp) pl H' b := fun {H' s' τ pl od} B hpl hn b hb => by
    have q := subL b hb
    refine ⟨hn b hb, (B.ok.exf b hb).1, B.ok.exfs b hb, .inl hb, (B.ok.exf b hb).2, fun p hp => ?_⟩
    have hp : p ∈ pl := by simpa using hp
    rw [hpl p hp]; exact (Nat.ne_of_lt q).symm
  have loop : ∀ t, codeAny (model X.prog X.w) X.A (.compLoop (.ListComp elt [⟨tg, iter, cs, 0⟩] sc pos) 0 (.ref it) (.ref D) (compEnvC sc cl C X.env)) (RR (.ref D) C) { s with heap := h1, toks := t } := by
    intro t
    obtain ⟨m0, w0⟩ := w0
    refine comp_loop (fun n s' => ∃ i ys its k H', Inv (cxB X sc N cl C s H fp) [(D, { cls := .type "list", data := .seq (List.toArray its) k })] (st0 own fr σ) H' s' ∧ tn i s'.heap ∧ (∀ b ∈ fp, H' b = none) ∧ Vals ys its ∧ ys.length ≤ sizeLine ∧ W i n ys H') ?_ m0
      ⟨0, [], [], _, H, I1 t, st1, fun b hb => (hfp b hb).1, .nil, Nat.zero_le _, w0⟩
    rintro n s2 ⟨i, ys, its, k, H2, B2, st2, fr2, rv, hz, w2⟩
    have pD := B2.pin (D, { cls := .type "list", data := .seq (List.toArray its) k }) (List.mem_append_right _ (List.mem_singleton.mpr rfl))
    rcases walk i n ys H2 w2 with ⟨stop, rr⟩ | ⟨go, nx, hnx, tk⟩
    · refine wpAny_mono (T.done (cxB X sc N cl C s H fp) rfl rfl rfl hc i _ s2 _ H2 nowish B2 (fpo (od := default) B2 (by simp) fr2) st2 stop) (fun r s3 ⟨hr, B3⟩ => ?_) fun _ _ z => z
      subst hr
      obtain ⟨m3, n3, _⟩ := B3.loc
      have pD3 := B3.pin (D, { cls := .type "list", data := .seq (List.toArray its) k }) (List.mem_append_right _ (List.mem_singleton.mpr rfl))
      refine fin D C H2 ys s3 m3 n3 pD3.2.1 ?_ (block_end I hfp (by omega) (by omega) B3 pD3.2.1 pD3.1 rv hz) rr
      exact I.fpOk (by omega) (by rw [upd_ne (Ne.symm hDC)]; exact B3.free)
    · refine wpAny_mono (T.item (cxB X sc N cl C s H fp) rfl rfl rfl hc i _ s2 _ H2 nowish B2 (fpo (od := default) B2 (by simp) fr2) st2 go) (fun r s3 ⟨u, hr, g3⟩ => ?_) fun _ _ z => z
      subst hr
      refine wpAny_mono g3 (fun _ s4 ⟨x, H4, B4, rx, y4, st4, fr4⟩ => ?_) fun _ _ z => z
      have B5 := B4.pinned (fpo (od := default) B4 (by simp) fr4) (T.obj _ _ st4)
      refine wpAny_mono (hg C s H _ s4 _ H4 x u _ B5 rx (tk x H4 y4)) (fun _ s5 ⟨σ5, H5, B6, ex, q5⟩ => ?_) fun _ _ z => z
      refine wpAny_mono (ht C s H _ s5 σ5 H5 _ B6 q5) (fun b s6 ⟨H6, B7, q6⟩ => ?_) fun _ _ z => z
      have back : ∀ {H' : Hp} {s' : Shared}, Inv (cxB X sc N cl C s H fp) ([(D, { cls := .type "list", data := .seq (List.toArray its) k })] ++ pinsAt fp s4.heap) σ5 H' s' → tn (i + 1) s'.heap ∧ ∀ b ∈ fp, H' b = none := fun {H' s'} B => by
        refine ⟨T.keep _ _ _ st4 fun b hb o e => (B.pin (b, o) (List.mem_append_right _ (List.mem_append_right _ (mem_pinsAt hb e)))).1, fun b hb => ?_⟩
        obtain ⟨o, e, _⟩ := T.obj _ _ st4 b hb
        exact (B.pin (b, o) (List.mem_append_right _ (List.mem_append_right _ (mem_pinsAt hb e)))).2.1
      cases b with
      | false =>
        obtain ⟨m', hm, w'⟩ := hnx _ _ q6
        obtain ⟨t7, f7⟩ := back B7
        exact ⟨m', hm, i + 1, ys, its, k, H6, (B7.unpinned).weak ex.1.symm ex.2, t7, f7, rv, hz, w'⟩
      | true =>
        refine wpAny_mono (he C s H _ s6 σ5 H6 _ B7 q6) (fun x7 s7 ⟨v7, H7, B8, r7, hz7, q7⟩ => ?_) fun _ _ z => z
        obtain ⟨m', hm, w'⟩ := hnx _ _ q7
        obtain ⟨t8, f8⟩ := back B8
        have pD8 := B8.pin (D, { cls := .type "list", data := .seq (List.toArray its) k }) (List.mem_append_right _ (List.mem_append_left _ (List.mem_singleton.mpr rfl)))
        have lz : its.length = ys.length := rv.length.symm
        refine call_meets F.slot_list_append ⟨_, pD8.1, rfl⟩ F.entry_list_append (F.args_list_append_2 _ _) (PySem.list_append D its.toArray k x7 (by rw [List.size_toArray]; omega)) ⟨pD8.1, ?_⟩
        have q := PySem.IsL.update pD8.1 (·.push x7)
        have eo : its.toArray.push x7 = (its ++ [x7]).toArray := by simp
        have B9 : Inv (cxB X sc N cl C s H fp) [] (st0 own fr σ) H7 { s7 with heap := s7.heap.update D (Obj.mapSeq (·.push x7)) } :=
          Inv.turned (t' := s7.toks) (((B8.pins_sub (pins' := []) (by intro p hp; simp at hp)).weak ex.1.symm ex.2)) (fun b o hb e => (Heap.get?_update_other _ _ (Ne.symm hb)).trans e) pD8.2.1 hDC (.inr (by show s.heap.objs.size ≤ D; omega)) (fun y c e z => by
            have := B8.cell y c e
            obtain ⟨v, o, h1', h2'⟩ := this
            have h1' : s7.heap.get? c = some o := h1'
            rw [z, pD8.1] at h1'
            cases h1'
            cases h2') (by intro p hp; simp at hp)
        have B10 : ∀ o', (s7.heap.update D (Obj.mapSeq (·.push x7))).get? D = some o' → (∀ v, o'.data ≠ .cell v) → Inv (cxB X sc N cl C s H fp) [(D, o')] (st0 own fr σ) H7 { s7 with heap := s7.heap.update D (Obj.mapSeq (·.push x7)) } := fun o' e1 e2 =>
          Inv.pins_of B9 fun p hp => by
            have hp : p = (D, o') := by simpa using hp
            subst hp
            exact ⟨e1, pD8.2.1, hDC, pD8.2.2.2.1, e2⟩
        rw [eo] at q
        refine ⟨m', hm, i + 1, ys ++ [v7], its ++ [x7], _, H7, B10 _ q (by intro v z; cases z), T.keep _ _ _ t8 fun b hb o e => (Heap.get?_update_other _ _ (Nat.ne_of_gt (subL b hb))).trans e, f8, rv.append (.cons r7 .nil), by rw [List.length_append, List.length_singleton]; omega, w'⟩
  exact codeAny_compStart_list (loop _) (T.self _ 0 _ _ _ st1 (loop _))
def tComp (own : Nat) (fr : List Nat) (wi : TI) (g : TG) (tt : TT) (te : TE) : TE := fun σ H Q => wi σ H fun J H1 => ∃ W : Nat → Nat → List V → Hp → Prop, (∃ m, W 0 m [] H1) ∧
  cWalk J g tt te (st0 own fr σ) W fun ys H2 => ∀ p, H2 p = none → Q (.ref p) (upd H2 p (.lst ys))
theorem pe_comp {elt tg iter : Expr} {cs : List Expr} {pos : Pos} {wi : TI} {g : TG} {tt : TT} {te : TE} (S : CompSc X sc cl own N fr) (hc : X.calm = true) (hi : PI X tg iter wi) (hg : ∀ C s H fp, PG (cxB X sc N cl C s H fp) tg g)
    (ht : ∀ C s H fp, PTs (cxB X sc N cl C s H fp) cs tt) (he : ∀ C s H fp, PE (cxB X sc N cl C s H fp) elt te) (hs : ∀ x, foldedSetIterable iter X.env x = pure x := by intro _; rfl) :
    PE X (.ListComp elt [⟨tg, iter, cs, 0⟩] sc pos) (tComp own fr wi g tt te) := by
  intro pins s σ H Q I h
  rw [eval_ListComp]
  refine wpAny_comprehension_free (use := none) rfl hs S.clos S.kind S.names (thn (hi pins s σ H _ I h) fun v s1 h1 => thn h1 fun itv s2 h2 => ?_)
  obtain ⟨it, fp, tn, J, H2, e, I2, T, st2, f2, W, w0, walk⟩ := h2
  subst e
  refine comp_core (RR := fun acc C => compPost (model X.prog X.w) X.A X.xe none (EP X pins σ Q) acc C) S hc I2 T st2 f2 (fun C s H => hg C s H fp) (fun C s H => ht C s H fp) (fun C s H => he C s H fp) w0 walk ?_
  intro D C H' ys s' m hn hD fC I' rr
  obtain ⟨f0, f1, f2', f3, f4, f5⟩ := fC
  exact ⟨m, hn, fun h' hs' => ⟨.ref D, _, Inv.turned (t' := s'.toks) I' (fun b o hb e => hs'.extBut b o hb e) f0 f1 f3 f4 f5, rfl, rr D hD⟩⟩
theorem ps_setC {elt tg iter : Expr} {cs : List Expr} {pos spos py : Pos} {wi : TI} {g : TG} {tt : TT} {te : TE} {i : Nat} {y : Str} (hN : X.N.Nodup) (hiy : X.N[i]? = some y) (hy : Loc X.env.scope y) (S : CompSc X sc cl own N fr) (hc : X.calm = true) (hi : PI X tg iter wi)
    (hg : ∀ C s H fp, PG (cxB X sc N cl C s H fp) tg g) (ht : ∀ C s H fp, PTs (cxB X sc N cl C s H fp) cs tt) (he : ∀ C s H fp, PE (cxB X sc N cl C s H fp) elt te)
    (hsw : swapsWith (.ListComp elt [⟨tg, iter, cs, 0⟩] sc pos) (some (.Name y py)) spos.line X.env = pure true := by rfl) (hs : ∀ x, foldedSetIterable iter X.env x = pure x := by intro _; rfl)
    (hf : X.fn y = true ∨ X.env.scope.names.lookup y = some .local := by first | exact .inl rfl | exact .inr rfl | assumption) :
    PS X (.Assign [.Name y py] (.ListComp elt [⟨tg, iter, cs, 0⟩] sc pos) spos) (tAsg (tComp own fr wi g tt te) (gName i)) := by
  intro pins s σ H D0 I h
  rw [exec_Assign_Name_used _ _ _ _ hsw]
  refine wpAny_bind (wpAny_standAt (wpAny_bind ?_))
  show wpAny _ X.A (do let _ ← comprehension (.ListComp elt [⟨tg, iter, cs, 0⟩] sc pos) sc X.env _ (newList []) false (eval iter X.env) (some (assign (.Name y py) X.env))) _ _ s
  refine wpAny_bind (thn (wpAny_comprehension_free (use := some (assign (.Name y py) X.env)) (Q := fun _ s' => SP X pins D0 .next s') rfl hs S.clos S.kind S.names
    (thn (hi pins s σ H _ I h) fun v s1 h1 => thn h1 fun itv s2 h2 => ?_)) fun _ s' hq => wpAny_pure (wpAny_pure hq))
  obtain ⟨it, fp, tn, J, H2, e, I2, T, st2, f2, W, w0, walk⟩ := h2
  subst e
  refine comp_core (RR := fun acc C => compPost (model X.prog X.w) X.A X.xe (some (assign (.Name y py) X.env)) (fun _ s' => SP X pins D0 .next s') acc C) S hc I2 T st2 f2 (fun C s H => hg C s H fp) (fun C s H => ht C s H fp) (fun C s H => he C s H fp) w0 walk ?_
  intro D C H' ys s' m hn hD fC I' rr
  obtain ⟨f0, f1, f2', f3, f4, f5⟩ := fC
  show wpAny _ X.A (assign (.Name y py) X.env (.ref D)) _ _ _
  refine wpAny_assign_Name (store_ok2 I' hN hiy hy (v := .ref D) rfl (fun s2 I2 ⟨a, sb, ha⟩ => ?_) hf)
  have aC : C ≠ a := by
    rcases ha with z | z
    · rw [z]; exact f1
    · exact fun q => f4 y a z q.symm
  exact ⟨m, hn.sameBut sb aC, fun h' hs' => ⟨_, _, Inv.turned (t' := s2.toks) I2 (fun b o hb e => hs'.extBut b o hb e) f0 f1 f3 f4 f5, rr D hD⟩⟩
end
theorem comp_list {K : PySem.W.Frag} {a : Addr} {xs : List V} {g : TG} {tt : TT} {te : TE} {σ0 : St} {H : Hp} {R : List V → Hp → Prop} (Pv : Nat → List V → Hp → Prop) (h0 : Pv 0 [] H) (hl : ∀ i ys H, i ≤ xs.length → Pv i ys H → SqL K H a xs)
    (hs : ∀ i x ys H, xs[i]? = some x → Pv i ys H → g x σ0 H fun σ2 H2 => Ext σ0 σ2 ∧ tt σ2 H2 fun b H3 => if b = true then te σ2 H3 fun v H4 => ys.length < sizeLine ∧ Pv (i + 1) (ys ++ [v]) H4 else Pv (i + 1) ys H3)
    (hd : ∀ ys H, Pv xs.length ys H → R ys H) : ∃ W : Nat → Nat → List V → Hp → Prop, (∃ m, W 0 m [] H) ∧ cWalk (Itl K a) g tt te σ0 W R := by
  refine ⟨fun i m ys H => m = xs.length - i ∧ i ≤ xs.length ∧ Pv i ys H, ⟨xs.length, by simp, Nat.zero_le _, h0⟩, ?_⟩
  rintro i m ys H ⟨rfl, hi, p⟩
  have q := hl i ys H hi p
  by_cases hlt : i < xs.length
  · refine .inr ⟨⟨xs, xs[i], q, by simp [hlt]⟩, Pv (i + 1), fun ys' H' p' => ⟨xs.length - (i + 1), by omega, rfl, hlt, p'⟩, fun x H' y => ?_⟩
    obtain ⟨e, y⟩ := y
    subst e
    exact hs i x ys _ (y xs q) p
  · have e : i = xs.length := by omega
    subst e
    exact .inl ⟨⟨xs, q, Nat.le_refl _⟩, hd ys H p⟩
theorem comp_tup {K : PySem.W.Frag} {a : Addr} {xs : List V} {g : TG} {tt : TT} {te : TE} {σ0 : St} {H : Hp} {R : List V → Hp → Prop} (Pv : Nat → List V → Hp → Prop) (h0 : Pv 0 [] H) (hl : ∀ i ys H, i ≤ xs.length → Pv i ys H → SqT K H a xs)
    (hs : ∀ i x ys H, xs[i]? = some x → Pv i ys H → g x σ0 H fun σ2 H2 => Ext σ0 σ2 ∧ tt σ2 H2 fun b H3 => if b = true then te σ2 H3 fun v H4 => ys.length < sizeLine ∧ Pv (i + 1) (ys ++ [v]) H4 else Pv (i + 1) ys H3)
    (hd : ∀ ys H, Pv xs.length ys H → R ys H) : ∃ W : Nat → Nat → List V → Hp → Prop, (∃ m, W 0 m [] H) ∧ cWalk (Itt K a) g tt te σ0 W R := by
  refine ⟨fun i m ys H => m = xs.length - i ∧ i ≤ xs.length ∧ Pv i ys H, ⟨xs.length, by simp, Nat.zero_le _, h0⟩, ?_⟩
  rintro i m ys H ⟨rfl, hi, p⟩
  have q := hl i ys H hi p
  by_cases hlt : i < xs.length
  · refine .inr ⟨⟨xs, xs[i], q, by simp [hlt]⟩, Pv (i + 1), fun ys' H' p' => ⟨xs.length - (i + 1), by omega, rfl, hlt, p'⟩, fun x H' y => ?_⟩
    obtain ⟨e, y⟩ := y
    subst e
    exact hs i x ys _ (y xs q) p
  · have e : i = xs.length := by omega
    subst e
    exact .inl ⟨⟨xs, q, Nat.le_refl _⟩, hd ys H p⟩
theorem comp_range {lo : Int} {n : Nat} {g : TG} {tt : TT} {te : TE} {σ0 : St} {H : Hp} {R : List V → Hp → Prop} (Pv : Nat → List V → Hp → Prop) (h0 : Pv 0 [] H)
    (hs : ∀ i ys H, i < n → Pv i ys H → g (.int (lo + i)) σ0 H fun σ2 H2 => Ext σ0 σ2 ∧ tt σ2 H2 fun b H3 => if b = true then te σ2 H3 fun v H4 => ys.length < sizeLine ∧ Pv (i + 1) (ys ++ [v]) H4 else Pv (i + 1) ys H3)
    (hd : ∀ ys H, Pv n ys H → R ys H) : ∃ W : Nat → Nat → List V → Hp → Prop, (∃ m, W 0 m [] H) ∧ cWalk (Itr lo n) g tt te σ0 W R := by
  refine ⟨fun i m ys H => m = n - i ∧ i ≤ n ∧ Pv i ys H, ⟨n, by simp, Nat.zero_le _, h0⟩, ?_⟩
  rintro i m ys H ⟨rfl, hi, p⟩
  by_cases hlt : i < n
  · refine .inr ⟨hlt, Pv (i + 1), fun ys' H' p' => ⟨n - (i + 1), by omega, rfl, hlt, p'⟩, fun x H' y => ?_⟩
    obtain ⟨e, y⟩ := y
    subst e y
    exact hs i ys _ hlt p
  · have e : i = n := by omega
    subst e
    exact .inl ⟨Nat.le_refl _, hd ys H p⟩
def iSeq (K : PySem.W.Frag) (tl : TE) : TI := fun σ H R => tl σ H fun x H1 => ∃ a, x = .ref a ∧ (((∃ xs, SqL K H1 a xs) ∧ R (Itl K a) H1) ∨ ((∃ xs, SqT K H1 a xs) ∧ R (Itt K a) H1))
theorem pi_seq {X : Cx} {tg l : Expr} {tl : TE} (hl : PE X l tl) : PI X tg l (iSeq X.K tl) := by
  intro pins s σ H R I h
  refine thn (hl pins s σ H _ I h) fun v s1 ⟨x, H1, I1, r1, q1⟩ => ?_
  obtain ⟨a, e, q⟩ := q1
  subst e
  cases r1
  have fo : ∀ b ∈ [s1.heap.objs.size], FpOk X pins H1 b := fun b hb => by
    have e : b = s1.heap.objs.size := by simpa using hb
    subst e
    exact I1.fpOk (Nat.le_refl _) (I1.hok.fresh (Nat.le_refl _))
  rcases q with ⟨⟨xs, hq⟩, q⟩ | ⟨⟨xs, hq⟩, q⟩
  · obtain ⟨its, rv, p, hz⟩ := I1.list hq
    refine wpAny_pyIter_list p.isList ?_
    exact ⟨s1.heap.objs.size, [s1.heap.objs.size], _, _, H1, rfl, I1.kept (t' := s1.toks) fun b o e => Heap.get?_push_of_some _ e, turn_list a _, ⟨_, Heap.get?_push_size _ rfl, rfl, rfl⟩, fo, q⟩
  · obtain ⟨its, rv, p, hz⟩ := I1.tuple hq
    refine wpAny_pyIter_tuple (show s1.heap.IsTuple a its.toArray from p) ?_
    exact ⟨s1.heap.objs.size, [s1.heap.objs.size], _, _, H1, rfl, I1.kept (t' := s1.toks) fun b o e => Heap.get?_push_of_some _ e, turn_tuple a _, ⟨_, Heap.get?_push_size _ rfl, rfl, rfl⟩, fo, q⟩
end L2
namespace L2
open PySem PySem.Spec PyProof.Rows
section
variable {X : Cx}
theorem preSum_list : ∀ (ns : List Int), PySem.preSum (fun i => ns.getD i 0) ns.length = ns.sum := by
  intro ns
  induction ns with
  | nil => rfl
  | cons n r ih =>
    rw [List.length_cons, PySem.W.kdu_shift, List.sum_cons, ← ih]
    rfl
theorem call_sum (hc : X.calm = true) : CallR X (.builtin "sum") (fun xs H Q => ∃ (p : Addr) (ns : List Int), xs = [.ref p] ∧ SqL X.K H p (ns.map V.int) ∧ Q (.int ns.sum) H) := by
  intro pins s σ H xs us Q I r h
  obtain ⟨p, ns, rfl, hq, q⟩ := h
  obtain ⟨u, rfl, ru⟩ := vals1 r
  cases ru
  obtain ⟨its, rv, pl, hz⟩ := I.list hq
  have hi : IntsAre its ns := intsAre_of rv
  have lp : p < s.heap.objs.size := let ⟨o, _, e, _⟩ := pl; Heap.lt_size e
  refine call_sum_walkAnyS (wpAny_pyIter_list pl.isList ?_)
  have W := Walks.list (prog := X.prog) (w := X.w) (A := X.A.in1) (I.ok.hd hc) s.heap.objs.size p (Nat.ne_of_lt lp) its.toArray
  refine ⟨s.heap.objs.size, _, _, _, _, _, _, (fun i => ns.getD i 0), rfl, W.toS, ⟨⟨_, Heap.get?_push_size _ rfl, rfl, rfl⟩, pl.isList.at fun o e => Heap.get?_push_of_some _ e⟩, fun b hb => ?_, fun i v hv => ?_, fun s' t' hm => ?_⟩
  · show b < (s.heap.push _).objs.size
    rw [Heap.size_push]
    rcases List.mem_cons.mp hb with e | hb
    · rw [e]; exact Nat.lt_succ_self _
    · rw [List.mem_singleton.mp hb]; exact Nat.lt_succ_of_lt lp
  · have hv : its.toArray[i]? = some v := hv
    have hv : its[i]? = some v := by simpa using hv
    have hl := rv.length
    have hil : i < its.length := (List.getElem?_eq_some_iff.mp hv).1
    rw [List.length_map] at hl
    obtain ⟨u, hu, ru⟩ := rv.get (i := i) (x := .int (ns.getD i 0)) (by rw [List.getElem?_map, List.getD_eq_getElem?_getD, List.getElem?_eq_getElem (by omega)]; rfl)
    rw [hv] at hu
    cases hu
    exact ru
  · have kp : ∀ b o, s.heap.get? b = some o → s'.heap.get? b = some o := fun b o e =>
      hm.heap b o (fun hI => absurd (Heap.lt_size e) (by rw [List.mem_singleton.mp hI]; exact Nat.lt_irrefl _)) (Heap.get?_push_of_some _ e)
    rw [Moved.eq_with hm]
    have hl := rv.length
    rw [List.length_map] at hl
    have e : PySem.preSum (fun i => ns.getD i 0) its.toArray.size = ns.sum := by rw [List.size_toArray, ← hl]; exact preSum_list ns
    rw [e]
    exact ⟨.int ns.sum, H, I.kept (t' := s'.toks) kp, ⟨_, rfl⟩, q⟩
theorem rising_pair : ∀ (p : Str) (l : List Str), risingS p l = true → (p :: l).Pairwise fun a b => Hw.lt b a = false
  | p, [], _ => by simp
  | p, x :: r, h => by
    have h : (!ltCps x.cps.toList p.cps.toList && risingS x r) = true := h
    rw [Bool.and_eq_true, Bool.not_eq_true'] at h
    have ih := rising_pair x r h.2
    refine List.pairwise_cons.mpr ⟨fun y hy => ?_, ih⟩
    rcases List.mem_cons.mp hy with rfl | hy
    · exact h.1
    · exact Hw.not_lt_trans h.1 ((List.pairwise_cons.mp ih).1 y hy)
theorem sortedS_pair : ∀ (l : List Str), sortedS l = true → l.Pairwise fun a b => Hw.lt b a = false
  | [], _ => .nil
  | x :: r, h => rising_pair x r h
theorem strsAre_of : ∀ {ss : List Str} {us : List Value}, StrsAre us ss → Vals (ss.map V.str) us
  | _, _, .nil => .nil
  | _, _, .cons x t h => .cons ⟨t, rfl⟩ (strsAre_of h)
theorem of_vals_str : ∀ {ss : List Str} {us : List Value}, Vals (ss.map V.str) us → StrsAre us ss := by
  intro ss
  induction ss with
  | nil => intro us r; rw [List.map_nil] at r; cases r; exact .nil
  | cons x ss ih =>
    intro us r
    rw [List.map_cons] at r
    cases r with
    | cons r1 r2 =>
      obtain ⟨t, e⟩ := r1
      subst e
      exact .cons x t (ih r2)
theorem vals_of_get : ∀ {xs : List V} {us : List Value}, xs.length = us.length → (∀ (i : Nat) x, xs[i]? = some x → ∃ u, us[i]? = some u ∧ RelV x u) → Vals xs us
  | [], [], _, _ => .nil
  | [], _ :: _, h, _ => by simp at h
  | _ :: _, [], h, _ => by simp at h
  | x :: xs, u :: us, h, g => by
    obtain ⟨v, e, r⟩ := g 0 x rfl
    cases e
    exact .cons r (vals_of_get (by simpa using h) fun i y hy => g (i + 1) y hy)
theorem ObjOk.here {P : Program} {w : World} {H : Hp} {h : Heap} {a : Addr} {o : HO} (x : ObjOk P w H h a o) : ∃ u, h.get? a = some u := by
  cases o with
  | lst xs => obtain ⟨_, _, _, _, e⟩ := x; exact ⟨_, e⟩
  | tup xs => obtain ⟨_, _, _, o, e, _⟩ := x; exact ⟨_, e⟩
  | dK kvs => obtain ⟨_, _, _, _, o, _, _, e, _⟩ := x; exact ⟨_, e⟩
  | dT kvs => obtain ⟨_, _, _, _, o, _, _, e, _⟩ := x; exact ⟨_, e⟩
  | set S n => obtain ⟨o, _, _, _, e, _⟩ := x; exact ⟨_, e⟩
  | ins C dx fs => obtain ⟨_, _, _, e, _⟩ := x; exact ⟨_, e⟩
  | own y => obtain ⟨_, e⟩ := x; exact ⟨_, e⟩
  | xd fs => obtain ⟨_, ⟨_, _, _, e, _⟩, _⟩ := x; exact ⟨_, e⟩
  | rng lo hi => obtain ⟨_, _, _, e⟩ := x; exact ⟨_, e⟩
  | frz ob u => obtain ⟨e, _⟩ := x; exact ⟨_, e⟩
  | tbl ps => exact ⟨_, (show h.get? a = some _ from x)⟩
  | met f y => exact ⟨_, (show h.get? a = some _ from x)⟩
  | ext φ => obtain ⟨_, ⟨_, e⟩, _⟩ := x; exact ⟨_, e⟩
theorem Inv.laid2 {pins : List (Addr × Obj)} {σ : St} {H : Hp} {s : Shared} {h' : Heap} {a : Addr} {o : HO} {t' : Nat} (I : Inv X pins σ H s) (k : ∀ b u, s.heap.get? b = some u → h'.get? b = some u) (hp : ∀ b u, s.heap.get? b = some u → b ≠ a) (new : ObjOk X.prog X.w (upd H a o) h' a o) :
    H a = none ∧ Inv X pins σ (upd H a o) { s with heap := h', toks := t' } := by
  have hn : H a = none := by
    cases q : H a with
    | none => rfl
    | some u => obtain ⟨v, e⟩ := (I.hok a u q).here; exact absurd rfl (hp a v e)
  refine ⟨hn, I.un ⟨fun b u e _ _ _ => k b u e, fun b u e _ _ _ => ⟨u.slots, k b u e⟩, fun b u e n _ => by rw [upd_ne (hp b u e)]; exact n, fun b u e _ => ⟨u, k b u e⟩, fun b xs e => by rw [upd_ne (ne_of_none e hn)]; exact e, fun b u xs e => by rw [upd_ne (ne_of_none e hn)]; exact e, fun b ps e => ⟨#[], by rw [upd_ne (ne_of_none e hn), e]; simp⟩⟩ fun b u e => ?_⟩
  by_cases hb : b = a
  · subst hb; rw [upd_same] at e; cases e; exact new
  · rw [upd_ne hb] at e
    exact (I.hok b u e).stay (fun c v _ q => k c v q) (fun c q => by rw [upd_ne (ne_of_none q hn)]; exact q) fun c xs q => by rw [upd_ne (ne_of_none q hn)]; exact q
theorem call_sortedD (hc : X.calm = true) : CallR X (.builtin "sorted") (fun xs H Q => ∃ p kvs ss, xs = [.ref p] ∧ H p = some (.dK kvs) ∧ kvs.map (·.1) = List.map (Sum.inr : Str → Key) ss ∧ kvs.length < 64 ∧
    ∀ l ys, H l = none → List.Perm ys ss → ys.Pairwise (fun a b => Hw.lt b a = false) → Q (.ref l) (upd H l (.lst (ys.map V.str)))) := by
  intro pins s σ H xs us Q I r h
  obtain ⟨p, kvs, ss, rfl, hp, hk, h64, q⟩ := h
  obtain ⟨u, rfl, ru⟩ := vals1 r
  cases ru
  obtain ⟨hz, lo, vs, rel, dd⟩ := dk_rd I.hok (.inl hp)
  obtain ⟨ep, hat⟩ := dd.dictAt
  have hlv := rel.length
  refine Calls.call_function_entry kind_sorted plain_sorted entry_sorted (args_sorted1 _) ?_
  unfold Builtin.«sorted»
  refine wpAny_bind (m := checkCount "sorted" 1 1 _) (wpAny_pure (wpAny_bind (PySem.W.kdu_collect (A := X.A.in1) (PySem.W.kdl_dict (knd := mixKind X.prog X.w) (kvs := vs) (ep := ep) lo) (I.ok.hd hc) hat (by rw [← hlv]; exact hz) fun h' tk acc kp hacc => ?_)))
  have hS : StrsAre acc.toList ss := by
    refine of_vals_str (vals_of_get ?_ fun i x hx => ?_)
    · have : (kvs.map (·.1)).length = (List.map (Sum.inr : Str → Key) ss).length := by rw [hk]
      rw [List.length_map, List.length_map] at this
      have el : acc.toList.length = kvs.length := by rw [Array.length_toList, hacc.1, ← hlv]
      rw [List.length_map, el, this]
    · rw [List.getElem?_map] at hx
      cases e : ss[i]? with
      | none => rw [e] at hx; cases hx
      | some y =>
        rw [e] at hx
        cases hx
        have hi : i < acc.size := by
          have h1 : i < ss.length := (List.getElem?_eq_some_iff.mp e).1
          have : (kvs.map (·.1)).length = (List.map (Sum.inr : Str → Key) ss).length := by rw [hk]
          rw [List.length_map, List.length_map] at this
          rw [hacc.1]; omega
        obtain ⟨k, x, hv, hkk⟩ := hacc.2 i acc[i] (by simp)
        have ek : (vs.map (·.1))[i]? = some (Sum.inr y) := by rw [← rel.keys, hk, List.getElem?_map, e]; rfl
        rw [List.getElem?_map, hv] at ek
        have ek : k = Sum.inr y := Option.some.inj ek
        subst ek
        rcases keyIs_shape (show keyIs (Sum.inr y) acc[i] = true from hkk) with ⟨_, _, z, _⟩ | ⟨z, t, z1, z2⟩
        · cases z
        · cases z1
          exact ⟨acc[i], by simp, t, z2⟩
  have hla : acc.toList.length < 64 := by rw [Array.length_toList, hacc.1, ← hlv]; exact h64
  refine wpAny_bind (wpAny_newList ?_ (by have : 64 ≤ sizeLine := by rw [sizeLine_eq]; decide
                                          omega))
  have ho : (h'.push (seqObj "list" acc.toList.toArray 0)).get? h'.objs.size = some (seqObj "list" acc.toList.toArray 0) := Heap.get?_push_size _ rfl
  refine wpAny_bind (wpAny_holding (wpAny_call_entry slot_list_sort ⟨_, ho, rfl⟩ entry_list_sort (list_sort_treeK (s := { s with heap := h'.push (seqObj "list" acc.toList.toArray 0), toks := tk }) strKind_oneLt ho hS.keysOf (fun v1 v2 rest e => keyKind_strs (by rw [← e]; exact hS)) hla fun st' a1 a2 => ⟨_, rfl, ?_⟩) (args_list_sort _)))
  obtain ⟨ss', b1, b2, b3⟩ := sorted_out_str hS a1 a2
  obtain ⟨e, he⟩ := sortedHeap_at (out := (arrOf st').map (·.2)) ho
  have hss : (ss'.map V.str).length ≤ sizeLine := by
    have h1 : 64 ≤ sizeLine := by rw [sizeLine_eq]; decide
    have h2 : (ss'.map V.str).length = acc.toList.length := by rw [List.length_map, b2.length_eq, ← StrsAre.length hS]
    rw [h2]
    exact Nat.le_trans (Nat.le_of_lt hla) h1
  have L := I.laid2 (h' := sortedHeap (h'.push (seqObj "list" acc.toList.toArray 0)) h'.objs.size acc.toList ((arrOf st').map (·.2))) (a := h'.objs.size) (o := .lst (ss'.map V.str)) (t' := tk)
    (fun b u q => by
      have l := Heap.lt_size (kp b u q)
      rw [sortedHeap_old (Nat.ne_of_lt l) (by rw [Heap.size_push]; exact Nat.lt_succ_of_lt l)]
      exact Heap.get?_push_of_some _ (kp b u q))
    (fun b u q => Nat.ne_of_lt (Heap.lt_size (kp b u q)))
    ⟨hss, ((arrOf st').map (·.2)).toList, e, strsAre_of b1, by rw [Array.toArray_toList]; exact he⟩
  exact wpAny_pure ⟨_, rfl, .ref h'.objs.size, _, L.2, rfl, q _ ss' L.1 b2 (sortedS_pair _ b3)⟩
def Like (K : PySem.W.Frag) (H : Hp) : Nat → V → V → Prop
  | 0, x, y => flatV x = true ∧ x = y
  | n + 1, x, y => (flatV x = true ∧ x = y) ∨ ∃ a b xs ys, x = .ref a ∧ y = .ref b ∧ ((SqL K H a xs ∧ SqL K H b ys) ∨ (SqT K H a xs ∧ SqT K H b ys)) ∧ Paired (Like K H n) xs ys
theorem eqV_same {x : V} (h : flatV x = true) : eqV x x = true := by
  cases x with
  | non => rfl
  | bl b => simp [eqV]
  | int i => simp [eqV]
  | str z => simp [eqV]
  | _ => cases h
theorem pair_get {F : V → V → Prop} : ∀ {xs ys : List V}, Paired F xs ys → ∀ {i : Nat} {x y : V}, xs[i]? = some x → ys[i]? = some y → F x y
  | _, _, .nil, _, _, _, e, _ => by simp at e
  | _, _, .cons r t, 0, _, _, e, e' => by simp at e e'; rw [← e, ← e']; exact r
  | _, _, .cons r t, i + 1, _, _, e, e' => pair_get t (by simpa using e) (by simpa using e')
theorem like_items {K : PySem.W.Frag} {n : Nat} {H : Hp} {A : Around} {s : Shared} {xs ys : List V} {us vs : List Value} (p : Paired (Like K H n) xs ys) (r : Vals xs us) (r' : Vals ys vs)
    (ih : ∀ x y u v, RelV x u → RelV y v → Like K H n x y → SeqAt.EqAt A s u v true) : ∀ (j : Nat) (h1 : j < us.toArray.size) (h2 : j < vs.toArray.size), SeqAt.EqAt A s us.toArray[j] vs.toArray[j] true := by
  intro j h1 h2
  have l1 := r.length
  have l2 := r'.length
  simp only [List.size_toArray] at h1 h2
  have e1 : xs[j]? = some xs[j] := List.getElem?_eq_getElem (by omega)
  have e2 : ys[j]? = some ys[j] := List.getElem?_eq_getElem (by omega)
  obtain ⟨u, hu, ru⟩ := r.get e1
  obtain ⟨v, hv, rv⟩ := r'.get e2
  have hu' : us.toArray[j] = u := by
    rw [List.getElem?_eq_getElem h1] at hu; simpa using hu
  have hv' : vs.toArray[j] = v := by
    rw [List.getElem?_eq_getElem h2] at hv; simpa using hv
  rw [hu', hv']
  exact ih _ _ u v ru rv (pair_get p e1 e2)
theorem all_tt (n : Nat) : ((List.range n).all fun _ => true) = true := by rw [List.all_eq_true]; intro _ _; rfl
theorem like_eq {pins : List (Addr × Obj)} {σ : St} {H : Hp} {s : Shared} (I : Inv X pins σ H s) : ∀ (n : Nat) (A : Around), A.units + n < cLine → ∀ x y u v, RelV x u → RelV y v → Like X.K H n x y → SeqAt.EqAt A s u v true := by
  intro n
  have flat : ∀ (A : Around) (x y : V) (u v : Value), RelV x u → RelV y v → flatV x = true ∧ x = y → SeqAt.EqAt A s u v true := by
    rintro A x y u v ru rv ⟨f, rfl⟩
    have := eqAt_V (A := A) (s := s) ru rv f f
    rw [eqV_same f] at this
    exact this
  induction n with
  | zero => intro A hu x y u v ru rv h; exact flat A x y u v ru rv h
  | succ n ih =>
    intro A hu x y u v ru rv h
    rcases h with h | ⟨a, b, xs, ys, rfl, rfl, h, p⟩
    · exact flat A x y u v ru rv h
    · cases ru
      cases rv
      have ih' := ih A.in1 (by show A.units + 1 + n < cLine; omega)
      by_cases hab : a = b
      · subst hab; exact SeqAt.EqAt.same _
      · refine .of_refs hab ?_
        have lp : xs.length = ys.length := Paired.length p
        rcases h with ⟨ha, hb⟩ | ⟨ha, hb⟩
        · obtain ⟨us, r1, p1, _⟩ := I.list ha
          obtain ⟨vs, r2, p2, _⟩ := I.list hb
          have l1 := r1.length
          have l2 := r2.length
          have := SeqAt.RcAt.lists (A := A) (e := fun _ => true) p1.isList p2.isList (by simp only [List.size_toArray]; omega) (by omega) (like_items p r1 r2 ih')
          rw [all_tt] at this
          exact this
        · obtain ⟨us, r1, p1, _⟩ := I.tuple ha
          obtain ⟨vs, r2, p2, _⟩ := I.tuple hb
          have l1 := r1.length
          have l2 := r2.length
          have := SeqAt.RcAt.tuples (A := A) (e := fun _ => true) (show s.heap.IsTuple a us.toArray from p1) (show s.heap.IsTuple b vs.toArray from p2) (by omega) (like_items p r1 r2 ih')
          have e : (us.toArray.size == vs.toArray.size) = true := by simp only [List.size_toArray, beq_iff_eq]; omega
          rw [all_tt, e] at this
          exact this
def rLike (K : PySem.W.Frag) (n : Nat) (k : Bool) : R2 := fun x y H Q => ∃ a b xs ys, x = .ref a ∧ y = .ref b ∧ ((SqL K H a xs ∧ SqL K H b ys) ∨ (SqT K H a xs ∧ SqT K H b ys)) ∧ Paired (Like K H n) xs ys ∧ Q (.bl k) H
theorem op_eqL (n : Nat) (hu : X.A.units + 1 + n < cLine) : OpR X (compareOp .Eq) (rLike X.K n true) := by
  intro pins s σ H x y v u Q I rx ry h
  obtain ⟨a, b, xs, ys, rfl, rfl, h, p, q⟩ := h
  cases rx
  cases ry
  have ih' := like_eq I n X.A.in1 (by show X.A.units + 1 + n < cLine; omega)
  have lp : xs.length = ys.length := Paired.length p
  have fin : EP X pins σ Q (.bool true) s := ⟨.bl true, H, I, rfl, q⟩
  rcases h with ⟨ha, hb⟩ | ⟨ha, hb⟩
  · obtain ⟨us, r1, p1, _⟩ := I.list ha
    obtain ⟨vs, r2, p2, _⟩ := I.list hb
    have l1 := r1.length
    have l2 := r2.length
    exact SeqAt.eq_listAt (e := fun _ => true) p1.isList p2.isList (by simp only [List.size_toArray]; omega) (by omega) (like_items p r1 r2 ih') (by rw [all_tt]; exact fin)
  · obtain ⟨us, r1, p1, _⟩ := I.tuple ha
    obtain ⟨vs, r2, p2, _⟩ := I.tuple hb
    have l1 := r1.length
    have l2 := r2.length
    have e : (us.toArray.size == vs.toArray.size) = true := by simp only [List.size_toArray, beq_iff_eq]; omega
    exact SeqAt.eq_tupleAt (e := fun _ => true) (show s.heap.IsTuple a us.toArray from p1) (show s.heap.IsTuple b vs.toArray from p2) (by omega) (like_items p r1 r2 ih') (by rw [all_tt, e]; exact fin)
theorem op_neL (n : Nat) (hu : X.A.units + 1 + n < cLine) : OpR X (compareOp .NotEq) (rLike X.K n false) := by
  intro pins s σ H x y v u Q I rx ry h
  obtain ⟨a, b, xs, ys, rfl, rfl, h, p, q⟩ := h
  cases rx
  cases ry
  have ih' := like_eq I n X.A.in1 (by show X.A.units + 1 + n < cLine; omega)
  have lp : xs.length = ys.length := Paired.length p
  have fin : EP X pins σ Q (.bool false) s := ⟨.bl false, H, I, rfl, q⟩
  rcases h with ⟨ha, hb⟩ | ⟨ha, hb⟩
  · obtain ⟨us, r1, p1, _⟩ := I.list ha
    obtain ⟨vs, r2, p2, _⟩ := I.list hb
    have l1 := r1.length
    have l2 := r2.length
    exact SeqAt.RcNeAt.lists (A := X.A) (e := fun _ => true) p1.isList p2.isList (by simp only [List.size_toArray]; omega) (by omega) (like_items p r1 r2 ih') _ _ _ _ (by rw [all_tt]; exact fin)
  · obtain ⟨us, r1, p1, _⟩ := I.tuple ha
    obtain ⟨vs, r2, p2, _⟩ := I.tuple hb
    have l1 := r1.length
    have l2 := r2.length
    have e : (us.toArray.size == vs.toArray.size) = true := by simp only [List.size_toArray, beq_iff_eq]; omega
    exact SeqAt.RcNeAt.tuples (A := X.A) (e := fun _ => true) (show s.heap.IsTuple a us.toArray from p1) (show s.heap.IsTuple b vs.toArray from p2) (by omega) (like_items p r1 r2 ih') _ _ _ _ (by rw [all_tt, e]; exact fin)
def rIsi (K : PySem.W.Frag) (c : V) : List V → Hp → VK → Prop := fun vs H Q => ∃ x t u b, vs = [x, c] ∧ TyOf K H x t ∧ RelV c u ∧ PySem.W.kitOne K t u = some b ∧ Q (.bl b) H
theorem RelV.inj2 {c : V} {u u' : Value} (hc : match c with | .ref _ => True | .ty _ => True | _ => False) (r : RelV c u) (r' : RelV c u') : u = u' := by
  cases c with
  | ref a => cases r; cases r'; rfl
  | ty n => cases r; cases r'; rfl
  | _ => exact hc.elim
theorem call_isi {c : V} (hc : match c with | .ref _ => True | .ty _ => True | _ => False) : CallR X (.builtin "isinstance") (rIsi X.K c) := by
  intro pins s σ H xs us Q I r h
  obtain ⟨x, t, u, b, rfl, ty, rc, hb, q⟩ := h
  obtain ⟨w1, w2, rfl, rx, r2⟩ := vals2 r
  rw [RelV.inj2 hc r2 rc]
  exact isinst_ok I rx ty hb fun tk => ⟨.bl b, H, I.tok _, rfl, q⟩
def rCatU (K : PySem.W.Frag) : R2 := fun x y H Q => ∃ a b xs ys, x = .ref a ∧ y = .ref b ∧ SqT K H a xs ∧ SqT K H b ys ∧ xs.length + ys.length ≤ sizeLine ∧
  (xs = [] → Q (.ref b) H) ∧ (xs ≠ [] → ys = [] → Q (.ref a) H) ∧ (xs ≠ [] → ys ≠ [] → ∀ p, H p = none → Q (.ref p) (upd H p (.tup (xs ++ ys))))
theorem op_catU : OpR X (binaryOp .Add) (rCatU X.K) := by
  intro pins s σ H x y v u Q I rx ry h
  obtain ⟨a, b, xs, ys, rfl, rfl, ha, hb, hz, q0, q1, q2⟩ := h
  by_cases hx : xs = []
  · cases rx
    cases ry
    obtain ⟨its, r1, p1, _⟩ := I.tuple ha
    obtain ⟨its2, r2, p2, _⟩ := I.tuple hb
    obtain ⟨⟨cls, dd, data, sl⟩, ho, hc, n, hd⟩ := id p1
    obtain ⟨⟨cls2, dd2, data2, sl2⟩, ho2, hc2, n2, hd2⟩ := id p2
    simp only at hc hd hc2 hd2
    subst hc hd hc2 hd2
    have hi : its = [] := r1.nil_iff.mpr hx
    refine concat_meets ⟨_, ho, rfl⟩ ⟨_, ho2, rfl⟩ noFill_tuple_add seq_tuple_add PySem.F.slot_tuple_add PySem.F.entry_tuple_add (PySem.F.args_tuple_add_2 _ _)
      (tuple_addW0 a b its.toArray its2.toArray n n2 dd dd2 sl sl2 (by simp [hi])) ⟨ho, ho2, ?_⟩
    exact ⟨.ref b, H, I, rfl, q0 hx⟩
  · exact op_catT pins s σ H _ _ v u Q I rx ry ⟨a, b, xs, ys, rfl, rfl, ha, hb, hx, hz, q1 hx, fun hy => q2 hx hy⟩
def rIxN (K : PySem.W.Frag) : R2 := fun x y H Q => ∃ p xs k v, x = .ref p ∧ y = .int (k : Nat) ∧ SqL K H p xs ∧ xs[k]? = some v ∧ Q v H
theorem get_list : PGet X (rIxN X.K) := by
  intro pins s σ H o i ov iv Q I ro ri h
  obtain ⟨p, xs, k, v, rfl, rfl, hq, he, q⟩ := h
  cases ro
  obtain ⟨t, rfl⟩ := ri
  obtain ⟨its, r, pl, hz⟩ := I.list hq
  obtain ⟨w, ew, rw'⟩ := r.get he
  have hk : k < xs.length := (List.getElem?_eq_some_iff.mp he).1
  have hn := line63
  exact wpAny_getItem_list pl.isList (by omega) (by omega) (by simpa using ew) ⟨v, H, I, rw', q⟩
end
end L2
namespace Hw
open PySem L2
theorem new {H : Hp} {p : Addr} {o : HO} (h : H p = none) : Same H (upd H p o) := fun b u e => by rw [upd_ne (ne_of_none e h)]; exact e
def But (d : Addr) (H H' : Hp) : Prop := ∀ b o, H b = some o → b ≠ d → H' b = some o
theorem But.of {d : Addr} {H H' : Hp} (h : Same H H') : But d H H' := fun b o e _ => h b o e
theorem But.trans {d : Addr} {H H1 H2 : Hp} (a : But d H H1) (b : But d H1 H2) : But d H H2 := fun c o e n => b c o (a c o e n) n
theorem But.upd {d : Addr} {H : Hp} {o : HO} : But d H (L2.upd H d o) := fun b u e n => by rw [upd_ne n]; exact e
theorem But.new {d : Addr} {H H1 : Hp} {p : Addr} {o : HO} (a : But d H H1) (h : H1 p = none) : But d H (L2.upd H1 p o) := fun b u e n => Hw.new h b u (a b u e n)
theorem Same.new {H H1 : Hp} {p : Addr} {o : HO} (a : Same H H1) (h : H1 p = none) : Same H (L2.upd H1 p o) := a.trans (Hw.new h)
theorem But.same {d : Addr} {H H1 : Hp} (a : But d H H1) (h : H d = none) : Same H H1 := fun b u e => a b u e (ne_of_none e h)
def Pr (H : Hp) (v : V) (p : Str × Int) : Prop := ∃ a, v = .ref a ∧ H a = some (.tup [.str p.1, .int p.2])
abbrev Prs (H : Hp) : List V → Ps → Prop := Paired (Pr H)
theorem Pr.keep {H H' : Hp} {v : V} {p : Str × Int} (h : ∀ a xs, H a = some (.tup xs) → H' a = some (.tup xs)) (x : Pr H v p) : Pr H' v p := let ⟨a, e, q⟩ := x; ⟨a, e, h _ _ q⟩
theorem Prs.keep {H H' : Hp} {vs : List V} {ps : Ps} (h : ∀ a xs, H a = some (.tup xs) → H' a = some (.tup xs)) (x : Prs H vs ps) : Prs H' vs ps := L2.Paired.mapP x fun _ _ q => q.keep h
def Lp (H : Hp) (a : Addr) (ps : Ps) : Prop := ∃ vs, H a = some (.lst vs) ∧ Prs H vs ps
def Tp (H : Hp) (a : Addr) (ps : Ps) : Prop := ∃ vs, H a = some (.tup vs) ∧ Prs H vs ps
theorem Lp.same {H H' : Hp} {a : Addr} {ps : Ps} (h : Lp H a ps) (s : Same H H') : Lp H' a ps := let ⟨vs, e, q⟩ := h; ⟨vs, s _ _ e, q.keep fun _ _ z => s _ _ z⟩
theorem Tp.same {H H' : Hp} {a : Addr} {ps : Ps} (h : Tp H a ps) (s : Same H H') : Tp H' a ps := let ⟨vs, e, q⟩ := h; ⟨vs, s _ _ e, q.keep fun _ _ z => s _ _ z⟩
theorem But.tups {d : Addr} {H H' : Hp} (b : But d H H') {xs : List V} (hd : H d = some (.lst xs)) : ∀ a ys, H a = some (.tup ys) → H' a = some (.tup ys) := fun a ys e => b a _ e fun z => by rw [z, hd] at e; cases e
theorem prs_at {H : Hp} : ∀ {vs : List V} {ps : Ps}, Prs H vs ps → ∀ {i : Nat} {v : V}, vs[i]? = some v → ∃ p, ps[i]? = some p ∧ Pr H v p
  | _, _, .nil, _, _, e => by simp at e
  | _, _, .cons r t, 0, _, e => by simp at e; subst e; exact ⟨_, rfl, r⟩
  | _, _, .cons r t, i + 1, _, e => prs_at t (i := i) (by simpa using e)
theorem prs_len {H : Hp} {vs : List V} {ps : Ps} (h : Prs H vs ps) : vs.length = ps.length := Paired.length h
theorem prs_app {H : Hp} : ∀ {vs ws : List V} {ps qs : Ps}, Prs H vs ps → Prs H ws qs → Prs H (vs ++ ws) (ps ++ qs)
  | _, _, _, _, .nil, s => s
  | _, _, _, _, .cons r t, s => .cons r (prs_app t s)
theorem prs_one {H : Hp} {v : V} {p : Str × Int} (h : Pr H v p) : Prs H [v] [p] := .cons h .nil
theorem prs_like {K : PySem.W.Frag} {H : Hp} : ∀ {vs ws : List V} {ps : Ps}, Prs H vs ps → Prs H ws ps → Paired (Like K H 1) vs ws
  | _, _, _, .nil, .nil => .nil
  | _, _, _, .cons ⟨a, ea, ha⟩ t, .cons ⟨b, eb, hb⟩ t' => .cons (.inr ⟨a, b, _, _, ea, eb, .inr ⟨SqT.of ha, SqT.of hb⟩, .cons ⟨rfl, rfl⟩ (.cons ⟨rfl, rfl⟩ .nil)⟩) (prs_like t t')
theorem like_flat {K : PySem.W.Frag} {H : Hp} {n : Nat} : ∀ {vs : List V}, vs.all flatV = true → Paired (Like K H n) vs vs
  | [], _ => .nil
  | x :: r, h => by
    rw [List.all_cons, Bool.and_eq_true] at h
    refine .cons ?_ (like_flat h.2)
    cases n with
    | zero => exact ⟨h.1, rfl⟩
    | succ n => exact .inl ⟨h.1, rfl⟩
def enc (d : Ps) : List (Key × V) := d.map fun p => (Sum.inr p.1, V.int p.2)
theorem enc_keys (d : Ps) : (enc d).map (·.1) = List.map (Sum.inr : Str → Key) (keys d) := by
  unfold enc keys
  rw [List.map_map, List.map_map]; rfl
theorem enc_len (d : Ps) : (enc d).length = d.length := List.length_map ..
theorem enc_val (t : Str) : ∀ d : Ps, valV (enc d) (Sum.inr t) = if t ∈ keys d then some (V.int (get d t)) else none
  | [] => by simp [enc, valV, keys]
  | p :: r => by
    have ih := enc_val t r
    show valV ((Sum.inr p.1, V.int p.2) :: enc r) (Sum.inr t) = _
    by_cases e : p.1 = t
    · rw [valV_pos (by simp [e]), get_cons, if_pos e, if_pos (by simp [keys, e])]
    · have e' : ¬ t = p.1 := fun z => e z.symm
      have hk : t ∈ keys (p :: r) ↔ t ∈ keys r := by
        unfold keys
        rw [List.map_cons, List.mem_cons]
        exact ⟨fun h => h.resolve_left e', .inr⟩
      rw [valV_neg (by simpa using e), ih, get_cons, if_neg e]
      simp only [hk]
theorem enc_getD (d : Ps) (t : Str) : (valV (enc d) (Sum.inr t)).getD (V.int 0) = V.int (get d t) := by
  rw [enc_val]
  by_cases h : t ∈ keys d
  · rw [if_pos h]; rfl
  · rw [if_neg h, get_no h]; rfl
theorem enc_any (d : Ps) (t : Str) : ((enc d).any fun kv => decide (kv.1 = (Sum.inr t : Key))) = d.any fun p => decide (p.1 = t) := by
  unfold enc
  rw [List.any_map]
  congr 1
  funext p
  simp
theorem enc_put (d : Ps) (t : Str) (n : Int) : putK (enc d) (Sum.inr t) (V.int n) = enc (put d t n) := by
  unfold putK put
  rw [enc_any]
  split
  · unfold enc
    rw [List.map_map, List.map_map]
    refine List.map_congr_left fun p _ => ?_
    by_cases e : p.1 = t
    · simp [e]
    · simp [e]
  · unfold enc
    rw [List.map_append]; rfl
def sflds (t : Addr) (n : Int) : List (Str × V) := putF "number" (.int n) (putF "terms" (.ref t) [])
theorem nt : ¬ (("number" : Str) = "terms") := by decide +kernel
theorem tn : ¬ (("terms" : Str) = "number") := by decide +kernel
theorem sflds_terms (t : Addr) (n : Int) : (sflds t n).lookup ("terms" : Str) = some (.ref t) := by
  unfold sflds
  rw [lookup_putF, if_neg tn, lookup_putF, if_pos rfl]
theorem sflds_number (t : Addr) (n : Int) : (sflds t n).lookup ("number" : Str) = some (.int n) := by
  unfold sflds
  rw [lookup_putF, if_pos rfl]
theorem sflds_no (t : Addr) (n : Int) {m : Str} (h1 : ¬ m = "terms") (h2 : ¬ m = "number") : (sflds t n).lookup m = none := by
  unfold sflds
  rw [lookup_putF, if_neg h2, lookup_putF, if_neg h1]
  all_goals rfl
def SumAt (C : Addr) (H : Hp) (p : Addr) (ts : Ps) (n : Int) : Prop := ∃ dx t, H p = some (.ins C dx (sflds t n)) ∧ Tp H t ts ∧ ts.length ≤ 1000
theorem SumAt.same {C : Addr} {H H' : Hp} {p : Addr} {ts : Ps} {n : Int} (h : SumAt C H p ts n) (s : Same H H') : SumAt C H' p ts n := let ⟨dx, t, e, q, z⟩ := h; ⟨dx, t, s _ _ e, q.same s, z⟩
end Hw
namespace Hw
open PySem L2
def Dn (P : Program) (w : World) (K : PySem.W.Frag) (mg : Str → Option Value) (base : Heap) (k : Nat) (x : Str) (ps : List Str) (sp : Sp) : Prop :=
  ∃ (f : Addr) (fd : FuncData), FnOk P w K mg base CX0 k f fd ps sp ∧ mg x = some (.ref f) ∧ PySem.W.keepIn K (.ref f) = true ∧ Binds K fd ps []
def Mt (P : Program) (w : World) (K : PySem.W.Frag) (mg : Str → Option Value) (base : Heap) (k : Nat) (C : Addr) (m : Str) (ps : List Str) (sp : Sp) : Prop :=
  ∃ (f : Addr) (fd : FuncData), FnOk P w K mg base CX0 k f fd ps sp ∧ Meth K C m f ∧ Binds K fd ps []
def Mr (P : Program) (w : World) (K : PySem.W.Frag) (mg : Str → Option Value) (base : Heap) (k : Nat) (C : Addr) (ps : List Str) (sp : Sp) : Prop :=
  ∃ (f : Addr) (fd : FuncData), FnOk P w K mg base CX0 k f fd ps sp ∧ Mk K C f ∧ Binds K fd ps []
structure Txt (K : PySem.W.Frag) (mg : Str → Option Value) (C : Addr) : Prop where
  cl : Cls K C
  nT : NoAttr K C "terms"
  nN : NoAttr K C "number"
  mg_Sum : mg "Sum" = some (.ref C)
  len : mg "len" = none
  sum : mg "sum" = none
  sorted : mg "sorted" = none
  list : mg "list" = none
  tuple : mg "tuple" = none
  isinstance : mg "isinstance" = none
  range : mg "range" = none
  abs : mg "abs" = none
  str : mg "str" = none
  int : mg "int" = none
  dict : mg "dict" = none
  ca : PySem.W.findIn K (.ref C) "__class__" = some (some (.builtin "object.__class__"))
  cg : PySem.W.specialIn K (.builtin "object.__class__") "__get__" = some (some (.builtin "getset_descriptor.__get__"))
  ct : PySem.W.takesIn K (.builtin "object.__class__") = some true
  cm : PySem.W.mroIn K C (.type "object") = some true
  kS : PySem.W.kitOne K (.ref C) (.ref C) = some true
  kT : PySem.W.kitOne K (.type "tuple") (.type "tuple") = some true
theorem Txt.ins {K : PySem.W.Frag} {mg : Str → Option Value} {C : Addr} (T : Txt K mg C) {H : Hp} {a dx : Addr} {fs : List (Str × V)} (e : H a = some (.ins C dx fs)) : TyOf K H (.ref a) (.ref C) := .ins e T.cl T.ca T.cg T.ct T.cm
def Sq (H : Hp) (a : Addr) (ps : Ps) : Prop := Lp H a ps ∨ Tp H a ps
theorem Sq.same {H H' : Hp} {a : Addr} {ps : Ps} (h : Sq H a ps) (s : Same H H') : Sq H' a ps := h.elim (fun z => .inl (z.same s)) fun z => .inr (z.same s)
def spInit (C : Addr) : Sp := fun vs H Q _ => ∃ (p dx l : Addr) (n : Int) (ps : Ps), vs = [.ref p, .ref l, .int n] ∧ H p = some (.ins C dx []) ∧ Sq H l ps ∧ ps.length ≤ 1000 ∧
  ∀ H', But p H H' → SumAt C H' p ps n → Q .non H'
def spSumOf (C : Addr) : Sp := fun vs H Q _ => ∃ (a : Addr) (n : Int) (ps : Ps), vs = [.ref a, .int n] ∧ Sq H a ps ∧ ps.length < 64 ∧
  ∀ (r : Addr) (ts : Ps) (H' : Hp), Same H H' → Gat ps ts → ts.length ≤ ps.length → SumAt C H' r ts n → Q (.ref r) H'
structure Nums (H : Hp) (d : Addr) (ns : Ps) : Prop where
  at_ : H d = some (.dK (enc ns))
  fit : ∀ t, -(2 ^ 64) < get ns t ∧ get ns t < 2 ^ 64
theorem Nums.same {H H' : Hp} {d : Addr} {ns : Ps} (h : Nums H d ns) (s : Same H H') : Nums H' d ns := ⟨s _ _ h.at_, h.fit⟩
def spPlus (C : Addr) : Sp := fun vs H Q _ => ∃ (p q : Addr) (a b : Ps) (n m : Int), vs = [.ref p, .ref q] ∧ SumAt C H p a n ∧ SumAt C H q b m ∧ a.length + b.length < 64 ∧
  ∀ (r : Addr) (ts : Ps) (H' : Hp), Same H H' → Gat (a ++ b) ts → ts.length ≤ a.length + b.length → SumAt C H' r ts (n + m) → Q (.ref r) H'
def spTimes (C : Addr) : Sp := fun vs H Q _ => ∃ (p : Addr) (a : Ps) (n k : Int), vs = [.ref p, .int k] ∧ SumAt C H p a n ∧ a.length < 64 ∧ (-(2 ^ 64) < k ∧ k < 2 ^ 64) ∧
  ∀ (r : Addr) (ts : Ps) (H' : Hp), Same H H' → Gat (a.map fun p => (p.1, p.2 * k)) ts → ts.length ≤ a.length → SumAt C H' r ts (n * k) → Q (.ref r) H'
def spLess (C : Addr) : Sp := fun vs H Q _ => ∃ (p q : Addr) (a b : Ps) (n m : Int), vs = [.ref p, .ref q] ∧ SumAt C H p a n ∧ SumAt C H q b m ∧ a.length + b.length < 64 ∧
  ∀ (r : Addr) (ts : Ps) (H' : Hp), Same H H' → Gat (a ++ b.map fun p => (p.1, -p.2)) ts → ts.length ≤ a.length + b.length → SumAt C H' r ts (n - m) → Q (.ref r) H'
end Hw
namespace Hw
open PySem L2
structure Kp (H H' : Hp) : Prop where
  l : ∀ b xs, H b = some (.lst xs) → H' b = some (.lst xs)
  t : ∀ b xs, H b = some (.tup xs) → H' b = some (.tup xs)
theorem Kp.refl {H : Hp} : Kp H H := ⟨fun _ _ h => h, fun _ _ h => h⟩
theorem Kp.of {H H' : Hp} (s : Same H H') : Kp H H' := ⟨fun _ _ h => s _ _ h, fun _ _ h => s _ _ h⟩
theorem Kp.but {d : Addr} {H H' : Hp} (s : But d H H') (hl : ∀ xs, H d ≠ some (.lst xs)) (ht : ∀ xs, H d ≠ some (.tup xs)) : Kp H H' :=
  ⟨fun b xs h => s b _ h fun z => hl xs (z ▸ h), fun b xs h => s b _ h fun z => ht xs (z ▸ h)⟩
theorem take_snoc {α : Type} {l : List α} {i : Nat} {x : α} (h : l[i]? = some x) : l.take (i + 1) = l.take i ++ [x] := by
  rw [List.take_add_one, h]; rfl
theorem get_some {H : Hp} {vs : List V} {ps : Ps} (r : Prs H vs ps) {i : Nat} {v : V} (h : vs[i]? = some v) : ∃ p, ps[i]? = some p ∧ Pr H v p := prs_at r h
theorem comp_tp {K : PySem.W.Frag} {a : Addr} {ps : Ps} {g : TG} {tt : TT} {te : TE} {σ0 : St} {H : Hp} {R : List V → Hp → Prop} (h : Tp H a ps) (Pv : Nat → List V → Hp → Prop) (h0 : Pv 0 [] H) (hS : ∀ i ys H', Pv i ys H' → Kp H H')
    (hs : ∀ i v p ys H', ps[i]? = some p → Pr H' v p → Pv i ys H' → g v σ0 H' fun σ2 H2 => Ext σ0 σ2 ∧ tt σ2 H2 fun b H3 => if b = true then te σ2 H3 fun v H4 => ys.length < sizeLine ∧ Pv (i + 1) (ys ++ [v]) H4 else Pv (i + 1) ys H3)
    (hd : ∀ ys H', Pv ps.length ys H' → R ys H') : (∃ xs, SqT K H a xs) ∧ ∃ W : Nat → Nat → List V → Hp → Prop, (∃ m, W 0 m [] H) ∧ cWalk (Itt K a) g tt te σ0 W R := by
  obtain ⟨vs, e, r⟩ := h
  refine ⟨⟨vs, SqT.of e⟩, comp_tup (xs := vs) Pv h0 (fun i ys H' _ p => SqT.of ((hS i ys H' p).t _ _ e)) (fun i v ys H' hi p => ?_) ?_⟩
  · obtain ⟨q, hq, pr⟩ := get_some r hi
    exact hs i v q ys H' hq (pr.keep (hS i ys H' p).t) p
  · rw [prs_len r]; exact hd
theorem comp_sq {K : PySem.W.Frag} {a : Addr} {ps : Ps} {g : TG} {tt : TT} {te : TE} {σ0 : St} {H : Hp} {R : List V → Hp → Prop} (h : Sq H a ps) (Pv : Nat → List V → Hp → Prop) (h0 : Pv 0 [] H) (hS : ∀ i ys H', Pv i ys H' → Kp H H')
    (hs : ∀ i v p ys H', ps[i]? = some p → Pr H' v p → Pv i ys H' → g v σ0 H' fun σ2 H2 => Ext σ0 σ2 ∧ tt σ2 H2 fun b H3 => if b = true then te σ2 H3 fun v H4 => ys.length < sizeLine ∧ Pv (i + 1) (ys ++ [v]) H4 else Pv (i + 1) ys H3)
    (hd : ∀ ys H', Pv ps.length ys H' → R ys H') : ((∃ xs, SqL K H a xs) ∧ ∃ W : Nat → Nat → List V → Hp → Prop, (∃ m, W 0 m [] H) ∧ cWalk (Itl K a) g tt te σ0 W R) ∨ ((∃ xs, SqT K H a xs) ∧ ∃ W : Nat → Nat → List V → Hp → Prop, (∃ m, W 0 m [] H) ∧ cWalk (Itt K a) g tt te σ0 W R) := by
  rcases h with h | h
  · obtain ⟨vs, e, r⟩ := h
    refine .inl ⟨⟨vs, SqL.of e⟩, comp_list (xs := vs) Pv h0 (fun i ys H' _ p => SqL.of ((hS i ys H' p).l _ _ e)) (fun i v ys H' hi p => ?_) ?_⟩
    · obtain ⟨q, hq, pr⟩ := get_some r hi
      exact hs i v q ys H' hq (pr.keep (hS i ys H' p).t) p
    · rw [prs_len r]; exact hd
  · exact .inr (comp_tp h Pv h0 hS hs hd)
abbrev ForW (J : It) (g : TG) (tb : TS) (D : Ends) (σ : St) (H : Hp) : Prop := ∃ W : Nat → Nat → St → Hp → Prop, (∃ m, W 0 m σ H) ∧ ∀ i m σ H, W i m σ H →
  (J.stop i H ∧ D.nx σ H) ∨ (J.go i H ∧ ∃ N : St → Hp → Prop, (∀ σ' H', N σ' H' → ∃ m', m' < m ∧ W (i + 1) m' σ' H') ∧ ∀ x H', J.yld i H x H' → g x σ H' fun σ2 H2 => tb { D with nx := N, ct := N, bk := D.nx } σ2 H2)
theorem for_sq {K : PySem.W.Frag} {a : Addr} {ps : Ps} {g : TG} {tb : TS} {D : Ends} {σ : St} {H : Hp} (h : Sq H a ps) (Pv : Nat → St → Hp → Prop) (h0 : Pv 0 σ H) (hS : ∀ i σ H', Pv i σ H' → Kp H H')
    (hs : ∀ i v p σ H', ps[i]? = some p → Pr H' v p → Pv i σ H' → g v σ H' fun σ2 H2 => tb { D with nx := Pv (i + 1), ct := Pv (i + 1), bk := D.nx } σ2 H2) (hd : ∀ σ H', Pv ps.length σ H' → D.nx σ H') :
    ((∃ xs, SqL K H a xs) ∧ ForW (Itl K a) g tb D σ H) ∨ ((∃ xs, SqT K H a xs) ∧ ForW (Itt K a) g tb D σ H) := by
  rcases h with ⟨vs, e, r⟩ | ⟨vs, e, r⟩
  · refine .inl ⟨⟨vs, SqL.of e⟩, for_list (xs := vs) Pv h0 (fun i σ H' _ p => SqL.of ((hS i σ H' p).l _ _ e)) (fun i v σ H' hi p => ?_) ?_⟩
    · obtain ⟨q, hq, pr⟩ := get_some r hi
      exact hs i v q σ H' hq (pr.keep (hS i σ H' p).t) p
    · rw [prs_len r]; exact hd
  · refine .inr ⟨⟨vs, SqT.of e⟩, for_tup (xs := vs) Pv h0 (fun i σ H' _ p => SqT.of ((hS i σ H' p).t _ _ e)) (fun i v σ H' hi p => ?_) ?_⟩
    · obtain ⟨q, hq, pr⟩ := get_some r hi
      exact hs i v q σ H' hq (pr.keep (hS i σ H' p).t) p
    · rw [prs_len r]; exact hd
theorem line (n : Nat) (h : n ≤ 100000) : n < sizeLine := by rw [sizeLine_eq]; omega
theorem upd_upd {H : Hp} {d : Addr} {x y : HO} : upd (upd H d x) d y = upd H d y := by
  funext b
  by_cases e : b = d
  · subst e; rw [upd_same, upd_same]
  · rw [upd_ne e, upd_ne e, upd_ne e]
theorem Kp.dict {H : Hp} {d : Addr} {x y : List (Key × V)} : Kp (upd H d (.dK x)) (upd H d (.dK y)) := by
  constructor
  · intro b xs h
    by_cases e : b = d
    · subst e; rw [upd_same] at h; cases h
    · rw [upd_ne e] at h ⊢; exact h
  · intro b xs h
    by_cases e : b = d
    · subst e; rw [upd_same] at h; cases h
    · rw [upd_ne e] at h ⊢; exact h
theorem lin_sum (f : Str → Int) : ∀ ts : Ps, (ts.map fun q => q.2 * f q.1).sum = lin ts f
  | [] => rfl
  | p :: r => by rw [List.map_cons, List.sum_cons, lin_sum f r, lin]
theorem nums_get {H : Hp} {d : Addr} {e : Ps} {t : Str} (h : H d = some (.dK (enc e))) (m : t ∈ keys e) : DGet H d (.str t) (some (.int (get e t))) := by
  have q := DGet.k (k := (Sum.inr t : Key)) h
  rw [enc_val, if_pos m] at q
  exact q
theorem outs_snoc (e : Ps) (ys : List Str) (y : Str) : outs e (ys ++ [y]) = outs e ys ++ if get e y = 0 then [] else [(y, get e y)] := by
  unfold outs
  rw [List.map_append, List.filter_append]
  congr 1
  by_cases h : get e y = 0
  · rw [if_pos h]; simp [h]
  · rw [if_neg h]; simp [h]
theorem outs_len (e : Ps) (ys : List Str) : (outs e ys).length ≤ ys.length := by
  unfold outs
  exact Nat.le_trans (List.length_filter_le _ _) (by rw [List.length_map]; exact Nat.le_refl _)
end Hw
namespace L2
open PySem PySem.Spec PyProof.Rows
section
variable {X : Cx} {K : PySem.W.Frag}
theorem ix_listK (h : X.K = K) : IxR X (rIxL K) := h ▸ ix_list
theorem ix_tupK (h : X.K = K) : IxR X (rIxT K) := h ▸ ix_tup
theorem call_tuple_ofK (h : X.K = K) : CallR X (.type "tuple") (fun xs H Q => ∃ p ys, xs = [.ref p] ∧ ((SqL K H p ys ∧ ∀ l, H l = none → Q (.ref l) (upd H l (.tup ys))) ∨ (SqT K H p ys ∧ Q (.ref p) H))) := h ▸ call_tuple_of
theorem call_list_ofK (h : X.K = K) : CallR X (.type "list") (fun xs H Q => ∃ p ys, xs = [.ref p] ∧ (SqL K H p ys ∨ SqT K H p ys) ∧ ∀ l, H l = none → Q (.ref l) (upd H l (.lst ys))) := h ▸ call_list_of
theorem pg_tupK {es : List Expr} {k : Nat} {t : TGs} {n : Nat} {pos : Pos} (hK : X.K = K) (hc : X.calm = true) (h : PGs X es t) (hn : (assignEach es X.env).length = n := by rfl) (hst : (assignEach es X.env).findIdx? (·.1) = none := by rfl) :
    PG X (.Tuple es k pos) (gTup K n t) := hK ▸ pg_tup hc h hn hst
theorem alwT {σ : St} {H : Hp} {F G : Hp → Prop} (h : F H) : tAlways σ H (fun b H3 => if b = true then F H3 else G H3) := by
  show if true = true then F H else G H
  exact iteT h
def strsOf : List Expr → Option (List Str)
  | [] => some []
  | .Constant (.str x) _ _ :: r => (strsOf r).map (x :: ·)
  | _ => none
def tStrs (xs : List Str) : TA := fun _ H Q => Q (xs.map V.str) H
theorem pa_strs : ∀ {es : List Expr} {xs : List Str}, strsOf es = some xs → PA X es (tStrs xs)
  | [], xs, h => by
    cases h
    exact pa_nil
  | e :: r, xs, h => by
    unfold strsOf at h
    split at h
    · rename_i he; cases he
    · rename_i x j pos r' he
      cases he
      cases q : strsOf r with
      | none => rw [q] at h; cases h
      | some ys =>
        rw [q] at h
        cases h
        have ih := pa_strs q
        exact pa_cons pe_str ih rfl
    · cases h
end
end L2
namespace L2
open PySem PySem.Spec PyProof.Rows
section
variable {X : Cx} {K : PySem.W.Frag}
def rEqNil (K : PySem.W.Frag) : R2 := fun x y H Q => ∃ a b xs, x = .ref a ∧ y = .ref b ∧ SqT K H a xs ∧ SqT K H b [] ∧ Q (.bl (decide (xs = []))) H
theorem op_eqNil (hu : X.A.units < cLine) : OpR X (compareOp .Eq) (rEqNil X.K) := by
  intro pins s σ H x y v u Q I rx ry h
  obtain ⟨a, b, xs, rfl, rfl, ha, hb, q⟩ := h
  cases rx
  cases ry
  obtain ⟨us, r1, p1, _⟩ := I.tuple ha
  obtain ⟨vs, r2, p2, _⟩ := I.tuple hb
  cases r2
  refine SeqAt.eq_tupleAt (e := fun _ => true) (show s.heap.IsTuple a us.toArray from p1) (show s.heap.IsTuple b ([] : List Value).toArray from p2) hu (fun j h1 h2 => absurd h2 (by simp)) ?_
  have e : ((List.range (min us.toArray.size ([] : List Value).toArray.size)).all (fun _ => true) && us.toArray.size == ([] : List Value).toArray.size) = decide (xs = []) := by
    have l := r1.length
    rw [all_tt, Bool.true_and]
    by_cases hx : xs = []
    · subst hx
      cases r1
      simp
    · rw [decide_eq_false hx]
      have : us ≠ [] := fun z => hx (by rw [z] at l; exact List.length_eq_zero_iff.mp l)
      cases us with
      | nil => exact absurd rfl this
      | cons _ _ => simp
  rw [e]
  exact ⟨.bl _, H, I, rfl, q⟩
end
end L2
namespace HT
open PySem PySem.Spec PyProof.Rows
section
variable {prog : Program} {w : World} {A : Around} {E : Value → Shared → Prop} {s : Shared}
end
end HT
namespace L2
open PySem PySem.Spec PyProof.Rows
section
variable {X : Cx} {K : PySem.W.Frag}
end
end L2
namespace L2
open PySem PySem.Spec PyProof.Rows
section
variable {X : Cx} {K : PySem.W.Frag}
variable {o e : Expr} {to : TE} {apos cpos : Pos}
theorem call_dictOf : CallR X (.type "dict") (fun xs H Q => ∃ d kvs, xs = [.ref d] ∧ Rd H d (.dK kvs) ∧ ∀ p, H p = none → Q (.ref p) (upd H p (.dK kvs))) := by
  intro pins s σ H xs us Q I r h
  obtain ⟨d, kvs, rfl, rd, q⟩ := h
  obtain ⟨u, rfl, ru⟩ := vals1 r
  cases ru
  exact d_copyOf I rd fun p s' hp I' => ⟨.ref p, _, I', rfl, q p hp⟩
end
end L2
namespace L2
open PySem PySem.Spec PyProof.Rows
section
variable {X : Cx} {e : Expr} {te : TE}
end
end L2
namespace Hw
open PySem L2
theorem uL {A : Around} {k n : Nat} (hr : Room k A) (h : n ≤ 60 := by decide) : A.units + 1 + n < cLine := by have := hr.units; omega
theorem uN {A : Around} {k : Nat} (hr : Room k A) : A.units < cLine := by have := hr.units; omega
def Dr (H : Hp) (d : Addr) : Prop := ∃ a b : Int, H d = some (.lst [.int a, .int b])
theorem Dr.same {H H' : Hp} {d : Addr} (h : Dr H d) (s : Same H H') : Dr H' d := let ⟨a, b, e⟩ := h; ⟨a, b, s _ _ e⟩
def spMixed : Sp := fun vs H Q _ => ∃ c k : Int, vs = [.int c, .int k] ∧ ∀ r : Int, 0 ≤ r → r < 2147483399 → Q (.int r) H
def spCell (K : PySem.W.Frag) : Sp := fun vs H Q _ => ∃ (a : Addr) (ns : List Int) (k : Nat), vs = [.ref a, .int k] ∧ SqL K H a (ns.map V.int) ∧ ∀ r : Int, Q (.int r) H
def spNext : Sp := fun vs H Q _ => ∃ (d : Addr) (n : Int), vs = [.ref d, .int n] ∧ Dr H d ∧ 0 < n ∧ ∀ (r : Nat) (H' : Hp), (r : Int) < n → But d H H' → Dr H' d → Q (.int r) H'
def DueAt (H : Hp) (r : Addr) (ts : Ps) (n : Int) : Prop := ∃ t, H r = some (.tup [.ref t, .int n]) ∧ Tp H t ts
theorem DueAt.same {H H' : Hp} {r : Addr} {ts : Ps} {n : Int} (h : DueAt H r ts n) (s : Same H H') : DueAt H' r ts n := let ⟨t, e, q⟩ := h; ⟨t, s _ _ e, q.same s⟩
def spLaw (K : PySem.W.Frag) : Sp := fun vs H Q _ => ∃ (a : Addr) (ns : List Int), vs = [.ref a] ∧ SqL K H a (ns.map V.int) ∧ ns.length ≤ 63 ∧ ∀ H', Q (.bl true) H'
end Hw
namespace Hw
open PySem L2
theorem flat_strs (xs : List Str) : (xs.map V.str).all flatV = true := by rw [List.all_map, List.all_eq_true]; intro _ _; rfl
theorem Dr.ne {H : Hp} {d l : Addr} (h : Dr H d) (n : H l = none) : l ≠ d := let ⟨_, _, e⟩ := h; (ne_of_none e n).symm
end Hw
namespace Hw
open PySem L2
end Hw
namespace Hw
open PySem L2
section
variable {C : Addr} {H H' : Hp} {tl pq q0 q1 hq du u0 u1 sl sa sb : Addr} {xs : List Str} {ps0 t0 t1 : Ps} {h0 h1 : Int}
end
theorem paired_snoc {α β : Type} {F : α → β → Prop} : ∀ {xs : List α} {ys : List β} {a : α} {b : β}, Paired F xs ys → F a b → Paired F (xs ++ [a]) (ys ++ [b])
  | _, _, _, _, .nil, h => .cons h .nil
  | _, _, _, _, .cons r t, h => .cons r (paired_snoc t h)
def pk {α : Type} (i : Nat) (a b : α) : α := match i with | 0 => a | _ => b
theorem Gat.keys {ps ts : Ps} (g : Gat ps ts) {t : Str} (h : t ∈ keys ts) : t ∈ keys ps := by
  obtain ⟨p, hp, rfl⟩ := List.mem_map.mp h
  have e : lin ts (ind p.1) = p.2 := by
    have up := g.1.up
    have nz := g.1.nz
    clear g h
    induction ts with
    | nil => cases hp
    | cons q r ih =>
      rcases List.mem_cons.mp hp with z | z
      · subst z
        exact Canon.head ⟨up, nz⟩
      · have l : lt q.1 p.1 = true := (List.pairwise_cons.mp up).1 p z
        rw [lin, ih z (List.pairwise_cons.mp up).2 fun s hs => nz s (List.mem_cons_of_mem _ hs)]
        simp [ind, lt_ne l]
  refine Classical.byContradiction fun n => ?_
  have z : lin ps (ind p.1) = 0 := lin_none fun q hq e' => n (by rw [← e']; exact List.mem_map.mpr ⟨q, hq, rfl⟩)
  rw [g.2] at e
  rw [z] at e
  exact g.1.nz p hp e.symm
end Hw
namespace Hw
open PySem L2
end Hw
namespace Hw
open PySem L2
theorem paired_at {α β : Type} {F : α → β → Prop} : ∀ {vs : List α} {ps : List β}, Paired F vs ps → ∀ {i : Nat} {v : α}, vs[i]? = some v → ∃ p, ps[i]? = some p ∧ F v p
  | _, _, .nil, _, _, e => by simp at e
  | _, _, .cons r t, 0, _, e => by simp at e; subst e; exact ⟨_, rfl, r⟩
  | _, _, .cons r t, i + 1, _, e => paired_at t (i := i) (by simpa using e)
theorem kit_str (K : PySem.W.Frag) : PySem.W.kitOne K (.type "str") (.type "str") = some true := by
  unfold PySem.W.kitOne
  rw [if_pos (by simp)]
end Hw
namespace Hw
open PySem L2
abbrev Sb := List (Str × Ps × Int)
def Rl (P : Addr → Ps × Int → Prop) (kvs : List (Key × V)) (S : Sb) : Prop := Paired (fun (kv : Key × V) (s : Str × Ps × Int) => kv.1 = Sum.inr s.1 ∧ ∃ u, kv.2 = V.ref u ∧ P u s.2) kvs S
end Hw
namespace Hw
open PySem L2
structure Soft (o : HO) : Prop where
  t : ∀ xs, o ≠ .tup xs
  i : ∀ C dx fs, o ≠ .ins C dx fs
theorem soft_l {xs : List V} : Soft (.lst xs) := ⟨fun _ z => (by cases z), fun _ _ _ z => (by cases z)⟩
section
variable {H H' : Hp} {z : Addr} {o : HO}
theorem But.tupS (b : But z H H') (hz : H z = some o) (so : Soft o) : ∀ a xs, H a = some (.tup xs) → H' a = some (.tup xs) := fun a xs e => b a _ e fun q => by rw [q, hz] at e; exact so.t xs (Option.some.inj e)
end
section
variable {H0 H H' : Hp} {d tl ro : Addr} {xs : List Str} {t0 : Ps} {n0 : Int}
end
theorem get_app (t : Str) (n : Int) (t' : Str) : ∀ e : Ps, get (e ++ [(t, n)]) t' = if t' ∈ keys e then get e t' else if t = t' then n else 0
  | [] => by
    rw [if_neg (by simp [keys])]
    show get [(t, n)] t' = _
    rw [get_cons]
    rfl
  | p :: r => by
    have ih := get_app t n t' r
    have mk : t' ∈ keys (p :: r) ↔ t' = p.1 ∨ t' ∈ keys r := by unfold keys; rw [List.map_cons, List.mem_cons]
    rw [List.cons_append, get_cons, get_cons, ih]
    by_cases z : p.1 = t'
    · have : t' ∈ keys (p :: r) := mk.mpr (.inl z.symm)
      simp only [z, if_true, this]
    · by_cases m : t' ∈ keys r
      · have : t' ∈ keys (p :: r) := mk.mpr (.inr m)
        simp only [z, if_false, m, if_true, this]
      · have : ¬ t' ∈ keys (p :: r) := fun w => (mk.mp w).elim (fun y => z y.symm) m
        simp only [z, if_false, m, this]
theorem get_put (e : Ps) (t t' : Str) (n : Int) : get (put e t n) t' = if t = t' then n else get e t' := by
  unfold put
  by_cases h : (e.any fun p => decide (p.1 = t)) = true
  · rw [if_pos h]
    by_cases q : t = t'
    · rw [if_pos q]
      subst q
      have m : t ∈ keys e := (any_iff e t).mp h
      clear h
      induction e with
      | nil => simp [keys] at m
      | cons p r ih =>
        rw [List.map_cons, get_cons]
        by_cases z : p.1 = t
        · simp only [z, if_true]
        · simp only [z, if_false]
          exact ih ((List.mem_cons.mp m).resolve_left fun w => z w.symm)
    · rw [if_neg q]
      clear h
      induction e with
      | nil => rfl
      | cons p r ih =>
        rw [List.map_cons, get_cons, get_cons, ih]
        by_cases z : p.1 = t
        · have z' : ¬ p.1 = t' := fun w => q (z.symm.trans w)
          rw [if_pos z]
          show (if p.1 = t' then n else get r t') = _
          rw [if_neg z', if_neg z']
        · rw [if_neg z]
  · rw [if_neg h, get_app]
    have nm : t ∉ keys e := fun m => h ((any_iff e t).mpr m)
    by_cases q : t = t'
    · subst q
      rw [if_neg nm, if_pos rfl, if_pos rfl]
    · by_cases m : t' ∈ keys e
      · rw [if_pos m, if_neg q]
      · rw [if_neg m, if_neg q, if_neg q, get_no m]
end Hw
namespace Hw
open PySem L2
inductive Cd where
  | cmp (a : Ps) (n : Int) (s : Str) (b : Ps) (m : Int)
  | neg (c : Cd)
  | con (k : Bool) (cs : List Cd)
structure Cz where
  s : Addr
  c : Addr
  t : Addr
  e : Addr
  o : Addr
structure Hard (H H' : Hp) : Prop where
  t : ∀ a xs, H a = some (.tup xs) → H' a = some (.tup xs)
  i : ∀ a C dx fs, H a = some (.ins C dx fs) → H' a = some (.ins C dx fs)
theorem Hard.of {H H' : Hp} (s : Same H H') : Hard H H' := ⟨fun _ _ e => s _ _ e, fun _ _ _ _ e => s _ _ e⟩
theorem Hard.soft {H H' : Hp} {z : Addr} {o : HO} (b : But z H H') (hz : H z = some o) (so : Soft o) : Hard H H' :=
  ⟨b.tupS hz so, fun a C dx fs e => b _ _ e fun q => by rw [q, hz] at e; exact so.i _ _ _ (Option.some.inj e)⟩
theorem SumAt.hard {H H' : Hp} {C p : Addr} {ts : Ps} {n : Int} (h : SumAt C H p ts n) (k : Hard H H') : SumAt C H' p ts n := let ⟨dx, t, e, ⟨vs, et, r⟩, l⟩ := h; ⟨dx, t, k.i _ _ _ _ e, ⟨vs, k.t _ _ et, r.keep k.t⟩, l⟩
end Hw
namespace Hw
open PySem L2
end Hw
namespace L2
open PySem PySem.Spec PyProof.Rows Hw
section
variable {X : Cx} {k : Nat} {m : Str} {pos apos : Pos} {o e : Expr} {es : List Expr} {ta : TE} {t : TA} {Z : Cz} {ps : List Str} {sp : Nat → Sp}
end
end L2
namespace Hw
open PySem L2
theorem fn_absurd {P : Program} {w : World} {K : PySem.W.Frag} {mg : Str → Option Value} {base : Heap} {k : Nat} {f : Addr} {fd : FuncData} {ps : List Str} {sp : Sp} (h : ∀ vs H Q E, ¬ sp vs H Q E) : FnOk P w K mg base CX0 k f fd ps sp :=
  ⟨fun vs H Q E z => (h vs H Q E z).elim, fun A outer s H args us vs Q E _ _ _ _ z => (h vs H Q E z).elim⟩
end Hw
namespace Hw
open PySem L2
theorem paired_len {α β : Type} {R : α → β → Prop} : ∀ {xs : List α} {ys : List β}, Paired R xs ys → xs.length = ys.length
  | _, _, .nil => rfl
  | _, _, .cons _ t => congrArg (· + 1) (paired_len t)
end Hw
namespace L2
open PySem PySem.Spec PyProof.Rows Hw
section
variable {X : Cx} {K : PySem.W.Frag}
theorem call_all (hc : X.calm = true) : CallR X (.builtin "all") (fun xs H Q => ∃ (p : Addr) (bs : List Bool), xs = [.ref p] ∧ SqL X.K H p (bs.map V.bl) ∧ Q (.bl (bs.all id)) H) := by
  intro pins s σ H xs us Q I r h
  obtain ⟨p, bs, rfl, hq, q⟩ := h
  obtain ⟨u, rfl, ru⟩ := vals1 r
  cases ru
  obtain ⟨its, rv, pl, hz⟩ := I.list hq
  have lp : p < s.heap.objs.size := let ⟨o, _, e, _⟩ := pl; Heap.lt_size e
  have hl := rv.length
  rw [List.length_map] at hl
  refine call_all_walk (wpAny_pyIter_list pl.isList ?_)
  have W := Walks.list (prog := X.prog) (w := X.w) (A := X.A.in1) (I.ok.hd hc) s.heap.objs.size p (Nat.ne_of_lt lp) its.toArray
  refine ⟨s.heap.objs.size, _, _, _, _, _, (fun i => (bs[i]?).getD true), rfl, W, ⟨⟨_, Heap.get?_push_size _ rfl, rfl, rfl⟩, pl.isList.at fun o e => Heap.get?_push_of_some _ e⟩, fun i v s' Q' E' hv hQ => ?_, fun h' tk hk => ?_⟩
  · have hv : its.toArray[i]? = some v := hv
    have hv : its[i]? = some v := by simpa using hv
    have hil : i < its.length := (List.getElem?_eq_some_iff.mp hv).1
    obtain ⟨u, hu, ru⟩ := rv.get (i := i) (x := .bl ((bs[i]?).getD true)) (by rw [List.getElem?_map, List.getElem?_eq_getElem (by omega)]; rfl)
    rw [hv] at hu
    cases hu
    cases ru
    exact wpAny_truthy_bool hQ
  · have kp : ∀ b o, s.heap.get? b = some o → h'.get? b = some o := fun b o e =>
      hk b o (fun hI => absurd (Heap.lt_size e) (by rw [List.mem_singleton.mp hI]; exact Nat.lt_irrefl _)) (Heap.get?_push_of_some _ e)
    have e : ((List.range its.toArray.size).all fun i => (bs[i]?).getD true) = bs.all id := by rw [List.size_toArray, ← hl]; exact LSm.range_all bs
    rw [e]
    exact ⟨.bl (bs.all id), H, I.kept (t' := tk) kp, rfl, q⟩
end
end L2
namespace Hw
open PySem L2
theorem iteDT {p : Prop} [Decidable p] {F G : Prop} (h : p) (f : F) : if decide p = true then F else G := by rw [if_pos (decide_eq_true h)]; exact f
theorem iteDF {p : Prop} [Decidable p] {F G : Prop} (h : ¬ p) (f : G) : if decide p = true then F else G := by rw [if_neg (by simpa using h)]; exact f
end Hw
namespace Hw
open PySem L2
theorem made_same {H : Hp} {x dx : Addr} {o o' : HO} (hx : H x = none) (hdx : H dx = none) : Same H (upd (upd H dx o) x o') := fun b u z => by
  rw [upd_ne (ne_of_none z hx), upd_ne (ne_of_none z hdx)]
  exact z
end Hw
namespace Hw
open PySem L2
theorem Dr.soft {H H' : Hp} {d : Addr} (h : Dr H d) (b : But d H H') : Hard H H' := let ⟨x, y, e⟩ := h; Hard.soft b e soft_l
end Hw
namespace Hw
open PySem L2
end Hw
namespace Hw
open PySem L2
theorem ifT {b : Bool} {F G : Prop} (h : b = true) (f : F) : if b = true then F else G := by rw [if_pos h]; exact f
theorem ifF {b : Bool} {F G : Prop} (h : b = false) (g : G) : if b = true then F else G := by rw [h]; exact iteF g
end Hw
namespace L2
open PySem PySem.Spec PyProof.Rows Hw
section
variable {X : Cx} {x : Str} {D : Addr} {kvs : List (Key × V)} {i : Expr} {ty : TE} {p pos : Pos}
end
end L2
namespace Hw
open PySem L2
end Hw
namespace Hw
open PySem L2
end Hw
namespace L2
open PySem PySem.Spec PyProof.Rows Hw
section
variable {X : Cx}
end
end L2
namespace Hw
open PySem L2
abbrev Cs := List (List (Ps × Int))
end Hw
namespace Hw
open PySem L2
end Hw
namespace Hw
open PySem L2
theorem paired_app {α β : Type} {F : α → β → Prop} : ∀ {xs xs' : List α} {ys ys' : List β}, Paired F xs ys → Paired F xs' ys' → Paired F (xs ++ xs') (ys ++ ys')
  | _, _, _, _, .nil, h => h
  | _, _, _, _, .cons r t, h => .cons r (paired_app t h)
end Hw
namespace Hw
open PySem L2
end Hw
namespace Hw
open PySem L2
end Hw
namespace L2
open PySem PySem.Spec PyProof.Rows Hw
section
variable {X : Cx}
def rEqNilL (K : PySem.W.Frag) : R2 := fun x y H Q => ∃ a b xs, x = .ref a ∧ y = .ref b ∧ SqL K H a xs ∧ SqL K H b [] ∧ Q (.bl (decide (xs = []))) H
theorem op_eqNilL (hu : X.A.units < cLine) : OpR X (compareOp .Eq) (rEqNilL X.K) := by
  intro pins s σ H x y v u Q I rx ry h
  obtain ⟨a, b, xs, rfl, rfl, ha, hb, q⟩ := h
  cases rx
  cases ry
  obtain ⟨us, r1, p1, _⟩ := I.list ha
  obtain ⟨vs, r2, p2, _⟩ := I.list hb
  cases r2
  have l1 := r1.length
  by_cases hx : xs = []
  · rw [decide_eq_true hx] at q
    subst hx
    cases r1
    exact SeqAt.RcAt.lists (A := X.A) (e := fun _ => true) p1.isList p2.isList rfl hu (fun j h1 h2 => absurd h2 (by simp)) _ _ _ _ ⟨.bl true, H, I, rfl, q⟩
  · rw [decide_eq_false hx] at q
    have : us ≠ [] := fun z => hx (by rw [z] at l1; exact List.length_eq_zero_iff.mp l1)
    refine SeqAt.RcAt.lists_lengths (A := X.A) p1.isList p2.isList ?_ hu _ _ _ _ ⟨.bl false, H, I, rfl, q⟩
    cases us with
    | nil => exact absurd rfl this
    | cons _ _ => simp
end
end L2
namespace Hw
open PySem L2
end Hw
namespace Hw
open PySem L2
theorem nodup_le {α : Type} [DecidableEq α] : ∀ {l m : List α}, l.Nodup → (∀ x ∈ l, x ∈ m) → l.length ≤ m.length
  | [], m, _, _ => Nat.zero_le _
  | a :: r, m, h, hs => by
    have ha : a ∈ m := hs a (List.mem_cons_self ..)
    have hn := List.nodup_cons.mp h
    have ih := nodup_le (m := m.erase a) hn.2 fun x hx => by
      have hne : x ≠ a := fun e => hn.1 (e ▸ hx)
      exact (List.mem_erase_of_ne hne).mpr (hs x (List.mem_cons_of_mem _ hx))
    rw [List.length_erase_of_mem ha] at ih
    have : 0 < m.length := List.length_pos_of_mem ha
    show r.length + 1 ≤ m.length
    omega
theorem canon_nd {ts : Ps} (c : Canon ts) : (keys ts).Nodup := by
  unfold keys List.Nodup
  rw [List.pairwise_map]
  exact c.up.imp fun {p q} h e => by rw [e, lt_irr] at h; cases h
end Hw
namespace Hw
open PySem L2
theorem dn_rec {P : Program} {w : World} {K : PySem.W.Frag} {mg : Str → Option Value} {base : Heap} {x : Str} {ps : List Str} {sp : Nat → Sp} {lv : Nat → Nat} {f : Addr} {fd : FuncData}
    (hm : mg x = some (.ref f)) (hk : PySem.W.keepIn K (.ref f) = true) (hb : Binds K fd ps []) (h0 : ∀ vs H Q E, ¬ sp 0 vs H Q E)
    (hs : ∀ n, Dn P w K mg base (lv n) x ps (sp n) → FnOk P w K mg base CX0 (lv (n + 1)) f fd ps (sp (n + 1))) : ∀ n, Dn P w K mg base (lv n) x ps (sp n)
  | 0 => ⟨f, fd, fn_absurd h0, hm, hk, hb⟩
  | n + 1 => ⟨f, fd, hs n (dn_rec hm hk hb h0 hs n), hm, hk, hb⟩
end Hw
namespace Hw
open PySem L2
theorem kit_ref (K : PySem.W.Frag) (C : Addr) : PySem.W.kitOne K (.ref C) (.ref C) = some true := by
  unfold PySem.W.kitOne
  rw [if_pos (by simp)]
theorem kit_tup (K : PySem.W.Frag) : PySem.W.kitOne K (.type "tuple") (.type "tuple") = some true := by
  unfold PySem.W.kitOne
  rw [if_pos (by simp)]
end Hw
namespace L2
open PySem PySem.Spec PyProof.Rows
section
variable {X : Cx} {tg : Expr}
end
end L2
namespace Hw
open PySem L2
end Hw
namespace Hw
open PySem L2
section
variable {Z : Cz} {H0 H H' : Hp} {d tl sd hd p pf : Addr} {xs : List Str} {vt : V} {c c' : Cd} {kvs kh : List (Key × V)} {S : Sb}
end
theorem Hard.trans {H H1 H2 : Hp} (a : Hard H H1) (b : Hard H1 H2) : Hard H H2 := ⟨fun c xs e => b.t _ _ (a.t _ _ e), fun c C dx fs e => b.i _ _ _ _ (a.i _ _ _ _ e)⟩
end Hw
namespace PySem
open L2
theorem lay_led (t : SetTable) (es : Array (Int × Value)) (h : Int) (x : Value) : (layNew t es h x).2.1.led = t.led := by
  unfold layNew
  split
  · dsimp only
    rename_i slot wd _
    have e : ((t.put slot).1).led = t.led := rfl
    have o : ∀ (u : SetTable) (n : Nat), (u.orStandIn n).led = u.led := fun u n => by
      unfold SetTable.orStandIn
      split <;> rfl
    exact (o _ _).trans e
  · rfl
theorem relay_led (t : SetTable) (es : Array (Int × Value)) (k : Nat) : (relayAll t es k).2.1.led = t.led ∧ (t.plain = false → (relayAll t es k).2.1.plain = false) := by
  unfold relayAll
  split
  · rename_i t' order hr
    dsimp only
    have e : t'.led = t.led ∧ t'.plain = t.plain := by
      unfold SetTable.relaid SetTable.laid at hr
      simp only [Option.bind_eq_bind, Option.bind_eq_some_iff, Option.pure_def, Option.some.injEq, Prod.mk.injEq] at hr
      obtain ⟨owner, _, rfl, _⟩ := hr
      exact ⟨rfl, rfl⟩
    split
    · exact ⟨e.1, fun z => e.2.trans z⟩
    · exact ⟨rfl, fun _ => rfl⟩
  · exact ⟨rfl, fun _ => rfl⟩
def strOf : Value → Str
  | .str z _ => z
  | _ => Str.empty
def SetW (prog : Program) (w : World) (h : Heap) (a : Addr) (zs : List Str) : Prop :=
  ∃ o es ep t, h.get? a = some o ∧ o.ExactSet ∧ o.data = .set es ep t ∧ ElemsOf (mixKind prog w) es.toList ∧ (∀ e ∈ es.toList, ∃ z k, e.2 = Value.str z k) ∧ es.toList.map (fun e => strOf e.2) = zs ∧ zs.Nodup ∧
    es.size < scanBound ∧ t.fits es.size = true ∧ t.led = !w.params.followText "set-order" ∧ (t.plain = false ∨ es.size = 0)
section
variable {prog : Program} {w : World} {A : Around} {E : Value → Shared → Prop} {s : Shared}
theorem SetW.store {h : Heap} {a : Addr} {o : Obj} {es : Array (Int × Value)} {ep : Nat} {t : SetTable} (ho : h.get? a = some o) (hex : o.ExactSet) (hd : o.data = .set es ep t) {es' : Array (Int × Value)} {t' : SetTable}
    (h1 : ElemsOf (mixKind prog w) es'.toList) (h2 : ∀ e ∈ es'.toList, ∃ z k, e.2 = Value.str z k) (h3 : (es'.toList.map fun e => strOf e.2).Nodup) (h4 : es'.size < scanBound) (h5 : t'.fits es'.size = true) (h6 : t'.led = !w.params.followText "set-order") (h7 : t'.plain = false) :
    (h.update a (Obj.putSet es' t')).get? a = some { o with data := .set es' (ep + 1) t' } ∧ SetW prog w (h.update a (Obj.putSet es' t')) a (es'.toList.map fun e => strOf e.2) := by
  have hg : (h.update a (Obj.putSet es' t')).get? a = some { o with data := .set es' (ep + 1) t' } := by
    have := Heap.get?_update_self (Obj.putSet es' t') ho (by rw [putSet_of es' t' hd]; rfl)
    rw [putSet_of es' t' hd] at this; exact this
  exact ⟨hg, _, es', ep + 1, t', hg, hex, rfl, h1, h2, rfl, h3, h4, h5, h6, .inl h7⟩
theorem is_str {x z : Str} {k : Tok} : (mixKind prog w).is (Sum.inr x) (.str z k) = decide (z = x) := by
  by_cases e : z = x
  · subst e
    rw [mixKind_str, decide_eq_true rfl]
  · rw [decide_eq_false e]
    cases q : (mixKind prog w).is (Sum.inr x) (.str z k) with
    | false => rfl
    | true => exact absurd (Sum.inr.inj ((mixKind prog w).inj _ _ _ q (mixKind_str prog w z k))) fun z => e z.symm
theorem set_add {a : Addr} {zs : List Str} {x : Str} {k : Tok} {Q : Bool → Shared → Prop} (hS : SetW prog w s.heap a zs) (hroom : zs.length + 1 < scanBound)
    (h : ∀ h' zs', Heap.SameBut a s.heap h' → SetW prog w h' a zs' → (x ∈ zs → zs' = zs) → (x ∉ zs → List.Perm zs' (zs ++ [x])) → Q (!decide (x ∈ zs)) { s with heap := h' }) :
    wpAny (model prog w) A (setAddHashed a (.str x k) ((mixKind prog w).hash (Sum.inr x))) Q E s := by
  obtain ⟨o, es, ep, t, ho, hex, hd, hel, hst, hzs, hnd, hb, hf, hled, hpl⟩ := id hS
  have hn : es.size = zs.length := by rw [← hzs, List.length_map, Array.length_toList]
  have hsc : (Value.str x k).scannable = true := rfl
  have hkey := mixKind_str prog w x k
  unfold setAddHashed setAddHashedIn
  refine wpAny_holding (wpAny_bind (wpAny_setState_of ho hd hf ?_))
  dsimp only
  rw [byScan_of hsc hb hel]
  simp only [↓reduceIte]
  unfold setAddByScan
  refine wpAny_bind ?_
  refine wpAny_bind (wpAny_rule ?_)
  refine wpAny_bind (wpAny_setScan_of hkey ho hd hf hel ?_)
  have mem : x ∈ zs ↔ ∃ e ∈ es.toList, (mixKind prog w).is (Sum.inr x) e.2 = true := by
    rw [← hzs, List.mem_map]
    constructor
    · rintro ⟨e, he, q⟩
      obtain ⟨z, k', e2⟩ := hst e he
      refine ⟨e, he, ?_⟩
      rw [e2] at q ⊢
      rw [is_str]
      exact decide_eq_true q
    · rintro ⟨e, he, q⟩
      obtain ⟨z, k', e2⟩ := hst e he
      refine ⟨e, he, ?_⟩
      rw [e2] at q ⊢
      rw [is_str] at q
      exact of_decide_eq_true q
  cases hr : List.findIdx? (fun e => (mixKind prog w).is (Sum.inr x) e.2) es.toList with
  | some j =>
    dsimp only
    obtain ⟨hj, hpj, _⟩ := List.findIdx?_eq_some_iff_getElem.mp hr
    have hm : x ∈ zs := mem.mpr ⟨es.toList[j], List.getElem_mem hj, hpj⟩
    refine wpAny_pure (wpAny_pure ?_)
    have e : s = { s with heap := s.heap } := by cases s; rfl
    have := h s.heap zs (Heap.SameBut.refl a s.heap) hS (fun _ => rfl) (fun z => absurd hm z)
    rw [decide_eq_true hm] at this
    rw [e]; exact this
  | none =>
    dsimp only
    have hm : x ∉ zs := fun z => by
      obtain ⟨e, he, q⟩ := mem.mp z
      have := List.findIdx?_eq_none_iff.mp hr e he
      rw [q] at this; exact Bool.noConfusion this
    have hgw : ∀ (b : Bool) {s₁ : Shared} {Q' : Unit → Shared → Prop}, Q' () s₁ → wpAny (model prog w) A (match b with | true => rule "set.scan.the-table-gave-way" | false => pure ()) Q' E s₁ :=
      fun b s₁ Q' hq => by cases b <;> first | exact wpAny_pure hq | exact wpAny_rule hq
    have hperm := layNew_perm t es ((mixKind prog w).hash (Sum.inr x)) (.str x k)
    have hfits := layNew_fits t es ((mixKind prog w).hash (Sum.inr x)) (.str x k)
    have hl := lay_led t es ((mixKind prog w).hash (Sum.inr x)) (.str x k)
    generalize hL : layNew t es ((mixKind prog w).hash (Sum.inr x)) (.str x k) = L at hperm hfits hl ⊢
    obtain ⟨es1, t1, wasDummy, gave⟩ := L
    dsimp only at hperm hfits hl ⊢
    rw [Array.toList_push] at hperm
    have hel1 : ElemsOf (mixKind prog w) es1.toList := (hel.push hkey hsc).perm hperm
    have hst1 : ∀ e ∈ es1.toList, ∃ z k, e.2 = Value.str z k := fun e he => by
      rcases List.mem_append.mp (hperm.mem_iff.mp he) with q | q
      · exact hst e q
      · rw [List.mem_singleton.mp q]; exact ⟨_, _, rfl⟩
    have hz1 : List.Perm (es1.toList.map fun e => strOf e.2) (zs ++ [x]) := by
      have := hperm.map fun e => strOf e.2
      rw [List.map_append, hzs] at this
      exact this
    have hnd1 : (es1.toList.map fun e => strOf e.2).Nodup := hz1.nodup_iff.mpr (by
      rw [List.nodup_append]
      refine ⟨hnd, by simp, fun u hu v hv e => ?_⟩
      rw [List.mem_singleton.mp hv] at e
      exact hm (e ▸ hu))
    have hb1 : es1.size < scanBound := by
      rw [← Array.length_toList, hperm.length_eq, List.length_append, Array.length_toList]
      simpa [hn] using hroom
    refine wpAny_bind (hgw _ ?_)
    have hend : ∀ h' zs', Heap.SameBut a s.heap h' → SetW prog w h' a zs' → List.Perm zs' (zs ++ [x]) → Q true { s with heap := h' } := by
      intro h' zs' hsb hS' hp
      have := h h' zs' hsb hS' (fun z => absurd z hm) (fun _ => hp)
      rw [decide_eq_false hm] at this
      exact this
    have tail : ∀ t2 : SetTable, t2.fits es1.size = true → t2.led = t.led → t2.plain = false → wpAny (model prog w) A (do
        storeSet a es1 t2
        if (!wasDummy && t2.tooFull) = true then do
            (match (relayAll t2 es1 (SetTable.grown es1.size)).2.2 with | true => rule "set.scan.the-table-gave-way" | false => pure ())
            storeSet a (relayAll t2 es1 (SetTable.grown es1.size)).1 (relayAll t2 es1 (SetTable.grown es1.size)).2.1
            pure (some true)
          else pure (some true)) (fun r s' => wpAny (model prog w) A (match r with | some added => pure added | none => setAddHashedIn a (.str x k) ((mixKind prog w).hash (Sum.inr x)) 99999) Q E s') E s := by
      intro t2 hf2 hl2 hp2
      refine wpAny_bind (wpAny_storeSet_of ho hd ?_ (fits_of_scanBound hb1))
      obtain ⟨ho1, hS1⟩ := SetW.store (prog := prog) (w := w) ho hex hd hel1 hst1 hnd1 hb1 hf2 (hl2.trans hled) hp2
      have hsb1 := Heap.SameBut.update s.heap a (Obj.putSet es1 t2)
      split
      · have hp := relayAll_perm t2 es1 (SetTable.grown es1.size)
        have hfr := relayAll_fits t2 es1 (SetTable.grown es1.size)
        have hlr := relay_led t2 es1 (SetTable.grown es1.size)
        generalize hRl : relayAll t2 es1 (SetTable.grown es1.size) = Rl at hp hfr hlr ⊢
        obtain ⟨es2, t3, gave2⟩ := Rl
        dsimp only at hp hfr hlr ⊢
        have hsz : es2.size = es1.size := by rw [← Array.length_toList, hp.length_eq, Array.length_toList]
        refine wpAny_bind (hgw _ ?_)
        refine wpAny_bind (wpAny_storeSet_of ho1 rfl ?_ (fits_of_scanBound (by rw [hsz]; exact hb1)))
        obtain ⟨_, hS2⟩ := SetW.store (prog := prog) (w := w) ho1 hex rfl (hel1.perm hp) (fun e he => hst1 e (hp.mem_iff.mp he)) ((hp.map _).nodup_iff.mpr hnd1) (by rw [hsz]; exact hb1) hfr (hlr.1.trans (hl2.trans hled)) (hlr.2 hp2)
        exact wpAny_pure (wpAny_pure (hend _ _ (hsb1.trans (Heap.SameBut.update _ a _)) hS2 ((hp.map _).trans hz1)))
      · exact wpAny_pure (wpAny_pure (hend _ _ hsb1 hS1 hz1))
    split
    · refine wpAny_bind ?_
      rw [hashByValue_scannable 8 hsc]
      refine wpAny_pure ?_
      exact tail { t1 with plain := false } (SetTable.fits_plain_off hfits) hl rfl
    · rename_i hpp
      refine wpAny_bind (wpAny_pure ?_)
      simp only [↓reduceIte]
      exact tail t1 hfits hl (by simpa using hpp)
end
end PySem
namespace PySem
open L2 PyProof.Rows
section
variable {prog : Program} {w : World} {A : Around} {R : Result → Shared → Prop} {I : Addr} {fp wr : List Addr} {G : Array GenState → Array GenState → Prop} {n : Nat} {P : Nat → Value → Prop} {St : Nat → Shared → Prop}
theorem SetW.at {h h' : Heap} {a : Addr} {zs : List Str} (x : SetW prog w h a zs) (k : ∀ o, h.get? a = some o → h'.get? a = some o) : SetW prog w h' a zs := by
  obtain ⟨o, es, ep, t, ho, r⟩ := x
  exact ⟨o, es, ep, t, k o ho, r⟩
theorem set_loop (W : WalksS prog w A.in1 I fp wr G n P St) (S : Addr) (hSf : S ∉ fp) (ss : List Str) (hlen : ss.length = n) (hval : ∀ i v, i < n → P i v → ∃ t, v = .str (ss.getD i Str.empty) t) (hb : n + 1 < scanBound) :
    ∀ (k i : Nat) (s : Shared) (zs : List Str), n - i = k → i ≤ n → St i s → SetW prog w s.heap S zs → zs.length ≤ i → (∀ x, x ∈ zs ↔ x ∈ ss.take i) →
      (∀ s' zs', Moved (S :: wr) G s s' → SetW prog w s'.heap S zs' → zs'.length ≤ n → (∀ x, x ∈ zs' ↔ x ∈ ss) → R (.ok (.ret .none)) s') →
      codeAny (model prog w) A (.builtin "set.update.loop" ⟨[.ref S, .ref I], []⟩) R s := by
  have hSw : S ∉ wr := fun h => hSf (W.sub _ h)
  have hsub : ∀ b ∈ wr, b ∈ S :: wr := fun b hb => List.mem_cons_of_mem _ hb
  intro k
  induction k with
  | zero =>
    intro i s zs hk hi hst hS hl hm hR
    have hin : i = n := by omega
    subst hin
    refine codeAny_builtin F.entry_set_update_loop ?_
    rw [Around.under_plainId F.plain_set_update_loop _]
    show wpAny _ A.in1 (pyNext (.ref I) >>= _) _ _ s
    refine wpAny_bind (W.done s _ _ hst fun s' hmv => ?_)
    show wpAny _ A.in1 (ret Value.none) _ _ s'
    refine wpAny_pure (hR s' zs (hmv.mono hsub) (hS.at fun o ho => hmv.heap S _ hSw ho) hl fun x => ?_)
    rw [hm x, ← hlen, List.take_length]
  | succ k ih =>
    intro i s zs hk hi hst hS hl hm hR
    have hlt : i < n := by omega
    refine codeAny_builtin F.entry_set_update_loop ?_
    rw [Around.under_plainId F.plain_set_update_loop _]
    show wpAny _ A.in1 (pyNext (.ref I) >>= _) _ _ s
    refine wpAny_bind (W.item i s _ _ hlt hst fun v s' hP hst' hmv => ?_)
    obtain ⟨t, rfl⟩ := hval i v hlt hP
    have hS' : SetW prog w s'.heap S zs := hS.at fun o ho => hmv.heap S _ hSw ho
    show wpAny _ A.in1 (holding [Value.str (ss.getD i Str.empty) t] (setAdd S (.str (ss.getD i Str.empty) t)) >>= _) _ _ s'
    refine wpAny_bind (wpAny_holding ?_)
    unfold setAdd
    refine wpAny_holding ?_
    refine wpAny_bind ((mixKind prog w).pyHash (k := Sum.inr (ss.getD i Str.empty)) (mixKind_str _ _ _ _) ?_)
    refine set_add (s := { s' with toks := s'.toks + 1 }) hS' (by omega) fun h' zs' hsb hS2 hin hout => ?_
    have hx : ss[i]? = some (ss.getD i Str.empty) := by
      rw [List.getD_eq_getElem?_getD, List.getElem?_eq_getElem (by omega)]
      rfl
    have hmem : ∀ x, x ∈ zs' ↔ x ∈ ss.take (i + 1) := fun x => by
      rw [List.take_add_one, hx, List.mem_append]
      by_cases q : ss.getD i Str.empty ∈ zs
      · rw [hin q, hm x]
        constructor
        · exact .inl
        · rintro (z | z)
          · exact z
          · have : x = ss.getD i Str.empty := by simpa using z
            rw [this]; exact (hm _).mp q
      · rw [(hout q).mem_iff, List.mem_append, hm x]
        simp
    have hl' : zs'.length ≤ i + 1 := by
      by_cases q : ss.getD i Str.empty ∈ zs
      · rw [hin q]; omega
      · rw [(hout q).length_eq, List.length_append, List.length_singleton]; omega
    refine wpAny_pure ⟨plainId_quiet F.plain_set_update_loop _, ih (i + 1) _ zs' (by omega) hlt (W.frame _ s' _ _ hst' (Nat.le_succ _) fun b hb o e => ?_) hS2 hl' hmem fun s'' zs'' hm'' hS'' hl'' hm2 => ?_⟩
    · rw [hsb.2 b (fun h : b = S => hSf (by rw [← h]; exact hb))]; exact e
    · refine hR s'' zs'' (Moved.trans W.gtrans ((hmv.mono hsub).then_heap (Nat.le_succ _) fun b o hb e => ?_) hm'') hS'' hl'' hm2
      rw [hsb.2 b (fun h : b = S => hb (by rw [h]; exact List.mem_cons_self))]; exact e
end
section
variable {prog : Program} {w : World} {A : Around} {E : Value → Shared → Prop} {s : Shared}
theorem code_set_new_w (a : Value) {Q₁ : Value → Shared → Prop}
    (h : Q₁ (.ref s.heap.objs.size) { s with heap := s.heap.push { cls := .type "set", dict := none, data := .set #[] 0 (.fresh 0 0 (!w.params.followText "set-order")) } }) :
    codeAny (model prog w) A (.call (.builtin "set.__new__") ⟨[.type "set", a], []⟩) (wants Q₁ E) s := by
  refine codeAny_of_tree ?_
  show wpAny _ A.in1 (do checkBuiltinCall "set.__new__" ⟨[.type "set", a], []⟩; again (.builtin "set.__new__" ⟨[.type "set", a], []⟩)) _ _ s
  refine wpAny_bind (wpAny_of_eq (F.newCall_set_1 a) (wpAny_pure ⟨plainId_quiet F.plain_set_new _, codeAny_builtin F.entry_set_new ?_⟩))
  rw [Around.under_plainId F.plain_set_new _]
  unfold Builtin.«set.__new__» Builtin.Frozenset.newClass
  have hsub := sub_set_self
  obtain ⟨hp, g, d, tk, os⟩ := s
  dsimp only
  wp_walk
  refine wpAny_askSetting (wpAny_pure ?_)
  dsimp only
  simp only [newObj]
  refine wpAny_bind (wpAny_alloc (wpAny_pure ?_))
  exact wpAny_pure h
theorem StrsAre.str_at : ∀ {vs : List Value} {ss : List Str}, StrsAre vs ss → ∀ (i : Nat) (v : Value), vs[i]? = some v → ∃ t, v = .str (ss.getD i Str.empty) t := by
  intro vs ss h
  induction h with
  | nil => intro i v e; simp at e
  | cons x t hr ih =>
    intro i v e
    cases i with
    | zero => simp at e; exact ⟨t, e.symm⟩
    | succ i =>
      simp only [List.getElem?_cons_succ] at e
      obtain ⟨t', e'⟩ := ih i v e
      exact ⟨t', by rw [e']; rfl⟩
set_option maxHeartbeats 3200000 in
theorem call_set_strs {l : Addr} {items : Array Value} {ss : List Str} {Q : Value → Shared → Prop} (hh : A.handled = none) (hl : s.heap.IsList l items) (hi : StrsAre items.toList ss) (hb : items.size + 1 < scanBound)
    (h : ∀ (h' : Heap) (tk : Nat) (zs : List Str), SetW prog w h' s.heap.objs.size zs → (∀ x, x ∈ zs ↔ x ∈ ss) → zs.length ≤ items.size →
      (∀ b o, b < s.heap.objs.size → s.heap.get? b = some o → h'.get? b = some o) → Q (.ref s.heap.objs.size) { s with heap := h', toks := tk }) :
    wpAny (model prog w) A (call (.type "set") [.ref l]) Q E s := by
  have hlen : ss.length = items.size := by rw [← StrsAre.length hi, Array.length_toList]
  obtain ⟨c, tl, hmro⟩ := F.called_set.mro
  have hmade := F.called_set.made
  have hsub := F.called_set.sub
  refine wpAny_call (codeAny_of_tree ?_)
  show wpAny _ _ (callAny (.type "set") _) _ _ _
  refine wpAny_pure ⟨Code.quiet_builtin _ (by decide +kernel), codeAny_builtin F.entry_type_call ?_⟩
  rw [Around.under_plain (weight_type_call_type "set" [.ref l] []) rfl]
  have h1 := F.called_set.notType
  have h2 := F.called_set.canCreate
  have hct := F.typeCall_set_1 (.ref l)
  repeat (any_goals (first | assumption | wp_step))
  refine codeAny_mono (code_set_new_w (.ref l) (E := E) (Q₁ := fun obj s₁ => obj = .ref s.heap.objs.size ∧ s₁ = { s with heap := s.heap.push { cls := .type "set", dict := none, data := .set #[] 0 (.fresh 0 0 (!w.params.followText "set-order")) } }) ⟨rfl, rfl⟩) fun r s₁ hr => ?_
  cases r with
  | error e => exact hr
  | ok fl =>
    cases fl with
    | ret obj =>
      obtain ⟨rfl, rfl⟩ := hr
      have hS : (s.heap.push { cls := .type "set", dict := none, data := .set #[] 0 (.fresh 0 0 (!w.params.followText "set-order")) }).get? s.heap.objs.size = some { cls := .type "set", dict := none, data := .set #[] 0 (.fresh 0 0 (!w.params.followText "set-order")) } := Heap.get?_push_size _ rfl
      have hT : Shared.TypeIs { s with heap := s.heap.push { cls := .type "set", dict := none, data := .set #[] 0 (.fresh 0 0 (!w.params.followText "set-order")) } } (.ref s.heap.objs.size) "set" := ⟨_, hS, rfl⟩
      have hli := F.called_set.init.lookup
      have hbi := F.called_set.init.bind (.ref s.heap.objs.size)
      repeat (any_goals (first | assumption | wp_step))
      refine codeAny_mono (codeAny_call_builtin (R := wants (fun r s₂ => r = .none ∧ ∃ h' tk zs, s₂ = { s with heap := h', toks := tk } ∧ SetW prog w h' s.heap.objs.size zs ∧ (∀ x, x ∈ zs ↔ x ∈ ss) ∧ zs.length ≤ items.size ∧
          (∀ b o, b < s.heap.objs.size → s.heap.get? b = some o → h'.get? b = some o)) E) F.called_set.init.plain F.entry_set_init (check_set_init_1 hT ?_)) fun r₂ s₂ hr₂ => ?_
      · obtain ⟨ol, hol, hcl, nl, hdl⟩ := hl
        obtain ⟨ocls, odict, odata, oslots⟩ := ol
        simp only at hcl hdl
        subst hcl; subst hdl
        have hol' : (s.heap.push { cls := .type "set", dict := none, data := .set #[] 0 (.fresh 0 0 (!w.params.followText "set-order")) }).get? l = some { cls := .type "list", dict := odict, data := .seq items nl, slots := oslots } := Heap.get?_push_of_some _ hol
        have hsls := F.sub_list_set
        have hslf := F.sub_list_frozenset
        have hne : (Value.type "list" == Value.type "dict") = false := by decide
        have hl1 : (s.heap.push { cls := .type "set", dict := none, data := .set #[] 0 (.fresh 0 0 (!w.params.followText "set-order")) }).IsList l items := ⟨_, hol', rfl, nl, rfl⟩
        unfold Builtin.«set.__init__» noKeywords Builtin.Frozenset.updateFrom
        generalize hPI : pyIter = PI
        wp_walk
        subst hPI
        refine wpAny_pyIter_list hl1 ?_
        refine wpAny_bind (wpAny_runValue ?_)
        have hlS : l < s.heap.objs.size := Heap.lt_size hol
        have hh3 : A.in1.in1.in1.handled = none := by simp [hh]
        have hneI : l ≠ (s.heap.push { cls := .type "set", dict := none, data := .set #[] 0 (.fresh 0 0 (!w.params.followText "set-order")) }).objs.size := by rw [Heap.size_push]; exact Nat.ne_of_lt (Nat.lt_succ_of_lt hlS)
        have hSf : s.heap.objs.size ∉ [(s.heap.push { cls := .type "set", dict := none, data := .set #[] 0 (.fresh 0 0 (!w.params.followText "set-order")) }).objs.size, l] := by
          rw [Heap.size_push]; simp only [List.mem_cons, List.mem_singleton, List.not_mem_nil, or_false, not_or]
          exact ⟨Nat.ne_of_lt (Nat.lt_succ_self _), Nat.ne_of_gt hlS⟩
        refine set_loop ((Walks.list hh3 _ l hneI items).toS) s.heap.objs.size hSf ss hlen (fun i v _ hv => StrsAre.str_at hi i v (by rw [Array.getElem?_toList]; exact hv)) hb (items.size - 0) 0 _ [] (by omega) (Nat.zero_le _)
          ⟨⟨_, Heap.get?_push_size _ rfl, rfl, rfl⟩, (hl1.push _)⟩ ?hS0 (Nat.le_refl _) (fun x => by simp) ?hR
        case hS0 =>
          have hget : ((s.heap.push { cls := .type "set", dict := none, data := .set #[] 0 (.fresh 0 0 (!w.params.followText "set-order")) }).push { cls := .type "list_iterator", data := .fields #[.ref l, .int 0 0] }).get? s.heap.objs.size = some { cls := .type "set", dict := none, data := .set #[] 0 (.fresh 0 0 (!w.params.followText "set-order")) } := Heap.get?_push_of_some _ hS
          exact ⟨_, #[], 0, _, hget, ⟨rfl, rfl, rfl⟩, rfl, (fun e he => by simp at he), (fun e he => by simp at he), rfl, .nil, by decide, by rfl, rfl, .inr rfl⟩
        case hR =>
          intro s' zs hm hS' hzl hmem
          obtain ⟨h', g', d', tk', os'⟩ := s'
          have eg : g' = s.gens := hm.gens
          have ed : d' = s.drawn := hm.drawn
          have eo : os' = s.os := hm.os
          subst eg; subst ed; subst eo
          show wpAny _ _ _ _ _ _
          refine wpAny_pure ?_
          show wpAny _ _ (ret Value.none) _ _ _
          refine wpAny_pure ⟨rfl, h', tk', zs, rfl, hS', hmem, hzl, fun b o hb e => ?_⟩
          have hb1 : b ≠ s.heap.objs.size := Nat.ne_of_lt hb
          have hb2 : b ≠ (s.heap.push { cls := .type "set", dict := none, data := .set #[] 0 (.fresh 0 0 (!w.params.followText "set-order")) }).objs.size := by rw [Heap.size_push]; exact Nat.ne_of_lt (Nat.lt_succ_of_lt hb)
          exact hm.heap b o (by simp only [List.mem_cons, List.mem_singleton, List.not_mem_nil, or_false, not_or]; exact ⟨hb1, hb2⟩) (Heap.get?_push_of_some _ (Heap.get?_push_of_some _ e))
      · cases r₂ with
        | error e => exact hr₂
        | ok fl₂ =>
          cases fl₂ with
          | ret r =>
            obtain ⟨rfl, h', tk, zs, rfl, hS', hmem, hzl, hk'⟩ := hr₂
            repeat (any_goals (first | assumption | wp_step))
            exact h _ _ zs hS' hmem hzl hk'
          | _ => exact hr₂.elim
    | _ => exact hr.elim
end
end PySem
namespace PySem
open L2 PyProof.Rows
namespace F
theorem entry_set_iter' : entryFor table "set.__iter__" = some Builtin.«frozenset.__iter__» := entryFor_alias (id' := "frozenset.__iter__") (by kernel_rfl) rfl (by decide +kernel) (by kernel_rfl)
theorem owner_set_iterator : Manifest.owners.lookup (String.ofList ['r', 'o', 't', 'a', 'r', 'e', 't', 'i', '_', 't', 'e', 's'].reverse) = some Manifest.sig_set_iterator := by kernel_rfl
theorem slot_set_iterator_next : Slot "set_iterator" "__next__" "set_iterator.__next__" :=
  .of (owner := "set_iterator") (n := "__next__") (by rw [typeLookup_type, builtinLookup_eq_fast]; kernel_rfl) (by decide +kernel) (by decide +kernel) (by decide +kernel)
    (by first | exact .inl (by decide +kernel) | exact .inr (by decide +kernel)) (by rw [isSubtype_type]; kernel_rfl)
theorem entry_set_iterator_next : entryFor table "set_iterator.__next__" = some Builtin.«set_iterator.__next__» := entryFor_of_tree (by kernel_rfl)
theorem args_set_iterator_next_1 (a : Value) : argsOk "set_iterator.__next__" ⟨[a], []⟩ := by
  unfold argsOk; rw [signature?_of (id := "set_iterator.__next__") (n := ['_', '_', 't', 'x', 'e', 'n', '_', '_']) (o := ['r', 'o', 't', 'a', 'r', 'e', 't', 'i', '_', 't', 'e', 's']) (by kernel_rfl) owner_set_iterator]; kernel_rfl
theorem slot_set_iterator_iter : Slot "set_iterator" "__iter__" "set_iterator.__iter__" :=
  .of (owner := "set_iterator") (n := "__iter__") (by rw [typeLookup_type, builtinLookup_eq_fast]; kernel_rfl) (by decide +kernel) (by decide +kernel) (by decide +kernel)
    (by first | exact .inl (by decide +kernel) | exact .inr (by decide +kernel)) (by rw [isSubtype_type]; kernel_rfl)
theorem entry_set_iterator_iter : entryFor table "set_iterator.__iter__" = some Builtin.«dict_keyiterator.__iter__» :=
  entryFor_alias (id' := "dict_keyiterator.__iter__") (by kernel_rfl) rfl (by decide +kernel) (by kernel_rfl)
theorem args_set_iterator_iter_1 (a : Value) : argsOk "set_iterator.__iter__" ⟨[a], []⟩ := by unfold argsOk; kernel_rfl
end F
def IsSI (h : Heap) (I : Addr) (first : Value) (i : Nat) (a : Addr) (n ep : Nat) : Prop :=
  ∃ o, h.get? I = some o ∧ o.cls = .type "set_iterator" ∧ o.data = .fields #[first, .int i 0, .ref a, .int n 0, .int ep 0]
def SetTab (h : Heap) (a : Addr) (es : Array (Int × Value)) (ep : Nat) (t : SetTable) : Prop := ∃ o, h.get? a = some o ∧ o.data = .set es ep t ∧ t.fits es.size = true
theorem IsSI.typeIs {s : Shared} {I a : Addr} {first : Value} {i n ep : Nat} (x : IsSI s.heap I first i a n ep) : s.TypeIs (.ref I) "set_iterator" := let ⟨o, ho, hc, _⟩ := x; ⟨o, ho, hc⟩
section
variable {prog : Program} {w : World} {A : Around} {E : Value → Shared → Prop} {s : Shared} {I a tp : Addr} {i n ep : Nat} {es : Array (Int × Value)} {t : SetTable}
theorem pyIter_si {first : Value} {Q : Value → Shared → Prop} (hit : IsSI s.heap I first i a n ep) (h : Q (.ref I) s) : wpAny (model prog w) A (pyIter (.ref I)) Q E s := by
  refine wpAny_pyIter_slot hit.typeIs F.slot_set_iterator_iter (wpAny_call_entry F.slot_set_iterator_iter hit.typeIs F.entry_set_iterator_iter ?_ (F.args_set_iterator_iter_1 _))
  show wpAny _ _ (ret (.ref I)) _ _ s
  exact wpAny_pure ⟨_, rfl, "set_iterator", _, hit.typeIs, F.slot_set_iterator_next.lookup, h⟩
end
end PySem
namespace PySem
open L2 PyProof.Rows
section
variable {prog : Program} {w : World} {A : Around} {E : Value → Shared → Prop} {s : Shared} {I a tp : Addr} {i n ep : Nat} {es : Array (Int × Value)} {t : SetTable}
theorem size_same {es : Array (Int × Value)} {n : Nat} (hn : es.size = n) : (((es.size : Nat) : Int) != ((n : Nat) : Int)) = false := by rw [hn]; simp
theorem next_D {Q : Option Value → Shared → Prop} {ps : List Value} {k p : Nat} {tk : Tok} {ot : Obj} {e : Int × Value} (hit : IsSI s.heap I (.ref tp) i a n ep) (hs : SetTab s.heap a es ep t) (hn : es.size = n) (ht : s.heap.get? tp = some ot) (hd : ot.data = .seq ps.toArray k)
    (hp : ps[i]? = some (.int p tk)) (he : es[p]? = some e) (hQ : ∀ h', IsSI h' I (.ref tp) (i + 1) a n ep → Heap.SameBut I s.heap h' → Q (some e.2) { s with heap := h' }) : wpAny (model prog w) A (pyNext (.ref I)) Q E s := by
  obtain ⟨o, ho, hc, hdo⟩ := id hit
  obtain ⟨os, hos, hds, hf⟩ := hs
  unfold pyNext
  refine wpAny_bind (wpAny_attempt (wpAny_callSpecial?_slot (name := Str.ofString "__next__") hit.typeIs F.slot_set_iterator_next
    (wpAny_call_entry F.slot_set_iterator_next hit.typeIs F.entry_set_iterator_next ?_ (F.args_set_iterator_next_1 _))))
  show wpAny _ _ (fieldsOf (.ref I) >>= _) _ _ s
  refine wpAny_bind (wpAny_fieldsOf ho hdo ?_)
  dsimp only
  refine wpAny_bind (wpAny_setEntries_of hos hds hf ?_)
  rw [size_same hn]
  simp only [Bool.false_eq_true, if_false]
  refine wpAny_bind (wpAny_seqItems ht hd ?_)
  dsimp only
  have hp' : ps.toArray[(i : Int).toNat]? = some (.int p tk) := by rw [Int.toNat_natCast]; simpa using hp
  rw [hp']
  dsimp only
  unfold setNextDrawn
  refine wpAny_bind (wpAny_bind (wpAny_setState_of hos hds hf ?_))
  dsimp only
  simp only [Int.toNat_natCast, bne_self_eq_false, Bool.false_eq_true, if_false, he]
  refine wpAny_pure ?_
  refine wpAny_bind (wpAny_setField ho hdo (by simp) (wpAny_pure ⟨_, rfl, wpAny_pure (hQ _ ?_ (Heap.SameBut.update ..))⟩))
  exact ⟨_, Heap.get?_update_self _ ho (Obj.isFreed_of_fields (Obj.data_mapFields hdo _)), (Obj.cls_mapFields ..).trans hc, by rw [Obj.data_mapFields hdo]; simp [rawInt]⟩
theorem end_D {Q : Option Value → Shared → Prop} {ps : List Value} {k : Nat} {ot : Obj} (hh : A.handled = none) (hit : IsSI s.heap I (.ref tp) i a n ep) (hs : SetTab s.heap a es ep t) (hn : es.size = n) (ht : s.heap.get? tp = some ot) (hd : ot.data = .seq ps.toArray k)
    (hp : ps[i]? = none) (hQ : ∀ h', (∀ b o, b ≠ I → s.heap.get? b = some o → h'.get? b = some o) → Q none { s with heap := h' }) : wpAny (model prog w) A (pyNext (.ref I)) Q E s := by
  obtain ⟨o, ho, hc, hdo⟩ := id hit
  obtain ⟨os, hos, hds, hf⟩ := hs
  unfold pyNext
  refine wpAny_bind (wpAny_attempt (wpAny_callSpecial?_slot (name := Str.ofString "__next__") hit.typeIs F.slot_set_iterator_next
    (wpAny_call_entry F.slot_set_iterator_next hit.typeIs F.entry_set_iterator_next ?_ (F.args_set_iterator_next_1 _))))
  show wpAny _ _ (fieldsOf (.ref I) >>= _) _ _ s
  refine wpAny_bind (wpAny_fieldsOf ho hdo ?_)
  dsimp only
  refine wpAny_bind (wpAny_setEntries_of hos hds hf ?_)
  rw [size_same hn]
  simp only [Bool.false_eq_true, if_false]
  refine wpAny_bind (wpAny_seqItems ht hd ?_)
  dsimp only
  have hp' : ps.toArray[(i : Int).toNat]? = none := by rw [Int.toNat_natCast]; simpa using hp
  rw [hp']
  dsimp only
  refine wpAny_bind (wpAny_setField ho hdo (by simp) ?_)
  have ho1 := Heap.get?_update_self (Obj.mapFields (·.setIfInBounds 0 (rawInt 0))) ho (Obj.isFreed_of_fields (Obj.data_mapFields hdo _))
  refine wpAny_bind (wpAny_setField ho1 (Obj.data_mapFields hdo _) (by simp) ?_)
  show wpAny _ _ (newExc (.type "StopIteration") [] >>= _) _ _ _
  refine wpAny_bind ?_
  simp only [newExc, newTuple]
  refine wpAny_bind (wpAny_newObj_type ?_ (by size_fits))
  refine wpAny_bind (m := firstArgMember _ _) (wpAny_of_eq (a := Value.none) (by first | rfl | (simp only [firstArgMember]; rfl)) ?_)
  refine wpAny_newObj_type ?_ (by size_fits)
  simp only [raiseNew]
  refine wpAny_bind (wpAny_handled ?_)
  rw [show A.in1.handled = none from hh]
  refine wpAny_bind (wpAny_pure (wpAny_throw ?_))
  refine wpAny_bind (wpAny_isInstance (T := "StopIteration") (b := true) ⟨_, Heap.get?_push_size _ rfl, rfl⟩ isSubtype_stop ?_)
  refine wpAny_pure (hQ _ fun b o' hb e => ?_)
  exact Heap.get?_push_of_some _ (Heap.get?_push_of_some _ ((Heap.get?_update_other _ _ (Ne.symm hb)).trans ((Heap.get?_update_other _ _ (Ne.symm hb)).trans e)))
theorem next_S {Q : Option Value → Shared → Prop} {sl : Nat} {r : Option (Value × Nat)} (hh : A.handled = none) (hit : IsSI s.heap I (.int sl 0) i a n ep) (hs : SetTab s.heap a es ep t) (hn : es.size = n)
    (hr : ∀ (A' : Around) (E' : Value → Shared → Prop) (Q' : Option (Value × Nat) → Shared → Prop), Q' r s → wpAny (model prog w) A' (setNext a sl i ep) Q' E' s)
    (hQ : ∀ x nx h', r = some (x, nx) → IsSI h' I (.int nx 0) (i + 1) a n ep → Heap.SameBut I s.heap h' → Q (some x) { s with heap := h' })
    (hE : r = none → ∀ h', (∀ b o, b ≠ I → s.heap.get? b = some o → h'.get? b = some o) → Q none { s with heap := h' }) : wpAny (model prog w) A (pyNext (.ref I)) Q E s := by
  obtain ⟨o, ho, hc, hdo⟩ := id hit
  obtain ⟨os, hos, hds, hf⟩ := hs
  unfold pyNext
  refine wpAny_bind (wpAny_attempt (wpAny_callSpecial?_slot (name := Str.ofString "__next__") hit.typeIs F.slot_set_iterator_next
    (wpAny_call_entry F.slot_set_iterator_next hit.typeIs F.entry_set_iterator_next ?_ (F.args_set_iterator_next_1 _))))
  show wpAny _ _ (fieldsOf (.ref I) >>= _) _ _ s
  refine wpAny_bind (wpAny_fieldsOf ho hdo ?_)
  dsimp only
  refine wpAny_bind (wpAny_setEntries_of hos hds hf ?_)
  rw [size_same hn]
  simp only [Bool.false_eq_true, if_false, Int.toNat_natCast]
  refine wpAny_bind (hr _ _ _ ?_)
  cases r with
  | some q =>
    obtain ⟨x, nx⟩ := q
    dsimp only
    refine wpAny_bind (wpAny_setField ho hdo (by simp) ?_)
    have ho1 := Heap.get?_update_self (Obj.mapFields (·.setIfInBounds 0 (rawInt nx))) ho (Obj.isFreed_of_fields (Obj.data_mapFields hdo _))
    refine wpAny_bind (wpAny_setField ho1 (Obj.data_mapFields hdo _) (by simp) (wpAny_pure ⟨_, rfl, wpAny_pure (hQ x nx _ rfl ?_ ((Heap.SameBut.update ..).trans (Heap.SameBut.update ..)))⟩))
    exact ⟨_, Heap.get?_update_self _ ho1 (Obj.isFreed_of_fields (Obj.data_mapFields (Obj.data_mapFields hdo _) _)), ((Obj.cls_mapFields ..).trans (Obj.cls_mapFields ..)).trans hc, by rw [Obj.data_mapFields (Obj.data_mapFields hdo _)]; simp [rawInt]⟩
  | none =>
    dsimp only
    refine wpAny_bind (wpAny_setField ho hdo (by simp) ?_)
    show wpAny _ _ (newExc (.type "StopIteration") [] >>= _) _ _ _
    refine wpAny_bind ?_
    simp only [newExc, newTuple]
    refine wpAny_bind (wpAny_newObj_type ?_ (by size_fits))
    refine wpAny_bind (m := firstArgMember _ _) (wpAny_of_eq (a := Value.none) (by first | rfl | (simp only [firstArgMember]; rfl)) ?_)
    refine wpAny_newObj_type ?_ (by size_fits)
    simp only [raiseNew]
    refine wpAny_bind (wpAny_handled ?_)
    rw [show A.in1.handled = none from hh]
    refine wpAny_bind (wpAny_pure (wpAny_throw ?_))
    refine wpAny_bind (wpAny_isInstance (T := "StopIteration") (b := true) ⟨_, Heap.get?_push_size _ rfl, rfl⟩ isSubtype_stop ?_)
    refine wpAny_pure (hE rfl _ fun b o' hb e => ?_)
    exact Heap.get?_push_of_some _ (Heap.get?_push_of_some _ ((Heap.get?_update_other _ _ (Ne.symm hb)).trans e))
end
end PySem
namespace PySem
open L2 PyProof.Rows
theorem erase_perm {α : Type} : ∀ {l : List α} {i : Nat} (h : i < l.length), List.Perm (l[i] :: l.eraseIdx i) l
  | x :: r, 0, _ => .refl _
  | x :: r, i + 1, h => by
    have hi : i < r.length := by simpa using h
    show List.Perm (r[i] :: x :: r.eraseIdx i) (x :: r)
    exact (List.Perm.swap ..).trans (.cons _ (erase_perm hi))
theorem pick_perm {α : Type} (next : Nat → Nat) : ∀ (n k : Nat) (l : List α) (out : Array α), l.length = n → List.Perm (pickOrder.go next n k l out).toList (out.toList ++ l)
  | 0, k, l, out, h => by
    have : l = [] := List.length_eq_zero_iff.mp h
    subst this
    unfold pickOrder.go
    simp
  | n + 1, k, l, out, h => by
    unfold pickOrder.go
    have hi : next k % l.length < l.length := Nat.mod_lt _ (by omega)
    rw [List.getElem?_eq_getElem hi]
    dsimp only
    refine (pick_perm next n (k + 1) (l.eraseIdx (next k % l.length)) (out.push l[next k % l.length]) (by rw [List.length_eraseIdx_of_lt hi]; omega)).trans ?_
    rw [Array.toList_push, List.append_assoc]
    refine List.Perm.append_left _ ?_
    show List.Perm (l[next k % l.length] :: l.eraseIdx (next k % l.length)) l
    exact erase_perm hi
theorem pickOrder_perm {α : Type} (next : Nat → Nat) (xs : Array α) : List.Perm (pickOrder next xs).toList xs.toList := by
  unfold pickOrder
  have := pick_perm next xs.size 0 xs.toList #[] (by simp)
  simpa using this
section
variable {M : Model} {A : Around} {E : Value → Shared → Prop} {s : Shared}
theorem wpAny_choose' {src : Source} {n : Nat} {Q : Nat → Shared → Prop} (hn : n ≠ 0) (h : ∀ i d, i < n → Q i { s with drawn := d }) : wpAny M A (choose src n) Q E s := by
  intro Γ p hΓ
  unfold choose
  rw [Sem.wp_choose]
  refine ⟨hn, ?_⟩
  simp only [Sem.wp_pure]
  exact h _ _ (Nat.mod_lt _ (Nat.pos_of_ne_zero hn))
theorem draw_perm {α : Type} : ∀ (n : Nat) (xs : List α) (s : Shared) (Q : List α → Shared → Prop), xs.length = n → (∀ ys d, List.Perm ys xs → Q ys { s with drawn := d }) → wpAny M A (drawOrder n xs) Q E s
  | 0, xs, s, Q, hl, h => by
    have : xs = [] := List.length_eq_zero_iff.mp hl
    subst this
    unfold drawOrder
    have e : s = { s with drawn := s.drawn } := by cases s; rfl
    rw [e]
    exact wpAny_pure (h [] _ .nil)
  | n + 1, xs, s, Q, hl, h => by
    cases xs with
    | nil => cases hl
    | cons x0 r0 =>
      unfold drawOrder
      refine wpAny_bind (wpAny_choose' (by rw [hl]; omega) fun i d hi => ?_)
      rw [List.getElem?_eq_getElem hi]
      dsimp only
      refine wpAny_bind (draw_perm n _ _ _ (by rw [List.length_eraseIdx_of_lt hi, hl]; omega) fun ys d' hp => wpAny_pure ?_)
      exact h _ d' ((List.Perm.cons _ hp).trans (erase_perm hi))
end
section
variable {prog : Program} {w : World} {A : Around} {E : Value → Shared → Prop} {s : Shared} {I a tp : Addr} {i n ep : Nat} {es : Array (Int × Value)} {t : SetTable}
theorem setNext_T {Q : Option (Value × Nat) → Shared → Prop} {sl : Nat} (hT : w.params.followText "set-order" = true) (hs : SetTab s.heap a es ep t)
    (h : Q (((pickOrder (w.params.setOrder a ep) es)[i]?).map fun e => (e.2, sl)) s) : wpAny (model prog w) A (setNext a sl i ep) Q E s := by
  obtain ⟨o, ho, hd, hf⟩ := hs
  unfold setNext
  refine wpAny_bind (wpAny_setState_of ho hd hf ?_)
  dsimp only
  unfold setsByText
  refine wpAny_bind (wpAny_bind (wpAny_askSetting (wpAny_pure ?_)))
  show wpAny _ _ (if (w.params.followText "set-order") = true then _ else _) _ _ _
  rw [hT]
  simp only [if_true, bne_self_eq_false, Bool.false_eq_true, if_false]
  unfold setWalk
  refine wpAny_bind (wpAny_bind (wpAny_setState_of ho hd hf ?_))
  dsimp only
  unfold setsByText
  refine wpAny_bind (wpAny_bind (wpAny_askSetting (wpAny_pure ?_)))
  show wpAny _ _ (if (w.params.followText "set-order") = true then _ else _) _ _ _
  rw [hT]
  simp only [if_true]
  refine wpAny_bind (wpAny_askSetting (wpAny_pure (wpAny_pure ?_)))
  exact h
theorem setNext_1 {Q : Option (Value × Nat) → Shared → Prop} {sl : Nat} (hT : w.params.followText "set-order" = false) (hs : SetTab s.heap a es ep t) (hl : t.led = true) (hn : es.size ≤ 1)
    (h : Q (match es[SetTable.below t.place sl]?, t.place[SetTable.below t.place sl]? with | some (_, x), some j => some (x, j + 1) | _, _ => none) s) : wpAny (model prog w) A (setNext a sl i ep) Q E s := by
  obtain ⟨o, ho, hd, hf⟩ := hs
  unfold setNext
  refine wpAny_bind (wpAny_setState_of ho hd hf ?_)
  dsimp only
  unfold setsByText
  refine wpAny_bind (wpAny_bind (wpAny_askSetting (wpAny_pure ?_)))
  show wpAny _ _ (if (w.params.followText "set-order") = true then _ else _) _ _ _
  rw [hT]
  simp only [Bool.false_eq_true, if_false]
  show wpAny _ _ (if ((!t.plain && decide (es.size > 1)) = true) then _ else _) _ _ _
  rw [show decide (es.size > 1) = false from decide_eq_false (by omega), Bool.and_false]
  simp only [Bool.false_eq_true, if_false]
  refine wpAny_bind ?_
  show wpAny _ _ (if ((!t.led && !es.isEmpty) = true) then _ else _) _ _ _
  rw [hl]
  simp only [Bool.not_true, Bool.false_and, Bool.false_eq_true, if_false]
  exact wpAny_pure (wpAny_pure h)
end
end PySem
namespace PySem
open L2 PyProof.Rows
section
variable {prog : Program} {w : World} {A : Around} {E : Value → Shared → Prop} {s : Shared} {I a tp : Addr} {i n ep : Nat} {es : Array (Int × Value)} {t : SetTable}
theorem SetTab.at {h h' : Heap} (x : SetTab h a es ep t) (k : ∀ o, h.get? a = some o → h'.get? a = some o) : SetTab h' a es ep t := let ⟨o, ho, r⟩ := x; ⟨o, k o ho, r⟩
theorem IsSI.at {h h' : Heap} {first : Value} (x : IsSI h I first i a n ep) (k : ∀ o, h.get? I = some o → h'.get? I = some o) : IsSI h' I first i a n ep := let ⟨o, ho, r⟩ := x; ⟨o, k o ho, r⟩
theorem walks_T (hT : w.params.followText "set-order" = true) (hh : A.handled = none) (hne : a ≠ I) (hn : es.size = n) :
    Walks prog w A I [I, a] [I] n (fun i v => ((pickOrder (w.params.setOrder a ep) es).toList.map (·.2))[i]? = some v) (fun i h => (∃ sl : Nat, IsSI h I (.int sl 0) i a n ep) ∧ SetTab h a es ep t) where
  sub := fun b hb => by simp at hb; simp [hb]
  frame := fun _ _ _ st hk => ⟨let ⟨sl, x⟩ := st.1; ⟨sl, x.at fun o e => hk I (by simp) o e⟩, st.2.at fun o e => hk a (by simp) o e⟩
  item := fun i s Q E hi st hQ => by
    obtain ⟨⟨sl, x⟩, tb⟩ := st
    have hp : (pickOrder (w.params.setOrder a ep) es).size = n := by rw [← Array.length_toList, (pickOrder_perm _ es).length_eq, Array.length_toList, hn]
    have hg : (pickOrder (w.params.setOrder a ep) es)[i]? = some ((pickOrder (w.params.setOrder a ep) es)[i]'(by omega)) := by simp [hp, hi]
    refine next_S hh x tb hn (fun A' E' Q' q => setNext_T hT tb q) (fun v nx h' e x' sb => ?_) (fun e => ?_)
    · rw [hg] at e
      cases e
      refine hQ _ h' s.toks ?_ ⟨⟨_, x'⟩, tb.at fun o e => (sb.2 a hne).trans e⟩ fun b o hb e => (sb.2 b (fun h => hb (by simp [h]))).trans e
      rw [List.getElem?_map, Array.getElem?_toList, hg]
      rfl
    · rw [hg] at e
      cases e
  done := fun s Q E st hQ => by
    obtain ⟨⟨sl, x⟩, tb⟩ := st
    have hp : (pickOrder (w.params.setOrder a ep) es).size = n := by rw [← Array.length_toList, (pickOrder_perm _ es).length_eq, Array.length_toList, hn]
    have hg : (pickOrder (w.params.setOrder a ep) es)[n]? = none := by simp [hp]
    refine next_S hh x tb hn (fun A' E' Q' q => setNext_T hT tb q) (fun v nx h' e x' sb => ?_) (fun e h' kp => ?_)
    · rw [hg] at e
      cases e
    · exact hQ h' s.toks fun b o hb e => kp b o (fun h => hb (by simp [h])) e
  self := fun _ _ _ _ st hQ => let ⟨⟨_, x⟩, _⟩ := st; pyIter_si x hQ
theorem arr1 {α : Type} {l : Array α} (h : l.size = 1) : ∃ j, l = #[j] := by
  obtain ⟨l⟩ := l
  match l, h with
  | [j], _ => exact ⟨j, rfl⟩
theorem below_0 (j : Nat) : SetTable.below #[j] 0 = 0 := by simp [SetTable.below, SetTable.below.go]
theorem below_1 (j : Nat) : SetTable.below #[j] (j + 1) = 1 := by simp [SetTable.below, SetTable.below.go]
def slS (t : SetTable) : Nat → Nat
  | 0 => 0
  | _ + 1 => t.place.getD 0 0 + 1
theorem walks_S (hT : w.params.followText "set-order" = false) (hh : A.handled = none) (hne : a ≠ I) (hn : es.size = n) (h1 : n ≤ 1) (hl : t.led = true) (hf : t.fits es.size = true) :
    Walks prog w A I [I, a] [I] n (fun i v => (es.toList.map (·.2))[i]? = some v) (fun i h => IsSI h I (.int (slS t i) 0) i a n ep ∧ SetTab h a es ep t) where
  sub := fun b hb => by simp at hb; simp [hb]
  frame := fun _ _ _ st hk => ⟨st.1.at fun o e => hk I (by simp) o e, st.2.at fun o e => hk a (by simp) o e⟩
  item := fun i s Q E hi st hQ => by
    obtain ⟨x, tb⟩ := st
    have i0 : i = 0 := by omega
    have n1 : n = 1 := by omega
    subst i0; subst n1
    have hp : t.place.size = 1 := by simp only [SetTable.fits, Bool.and_eq_true, beq_iff_eq] at hf; omega
    obtain ⟨j, hj⟩ := arr1 hp
    refine next_S hh x tb hn (fun A' E' Q' q => setNext_1 hT tb hl (by omega) q) (fun v nx h' e x' sb => ?_) (fun e => ?_)
    · have hz : slS t 0 = 0 := rfl
      rw [hz, hj, below_0] at e
      have h0 : es[0]? = some (es[0]'(by omega)) := by simp [hn]
      rw [h0] at e
      simp at e
      obtain ⟨e1, e2⟩ := e
      refine hQ _ h' s.toks ?_ ⟨?_, tb.at fun o e => (sb.2 a hne).trans e⟩ fun b o hb e => (sb.2 b (fun h => hb (by simp [h]))).trans e
      · rw [List.getElem?_map, Array.getElem?_toList, h0, ← e1]
        rfl
      · have : slS t 1 = nx := by show t.place.getD 0 0 + 1 = nx; rw [hj, ← e2]; rfl
        rw [this]
        exact x'
    · have hz : slS t 0 = 0 := rfl
      rw [hz, hj, below_0] at e
      have h0 : es[0]? = some (es[0]'(by omega)) := by simp [hn]
      rw [h0] at e
      simp at e
  done := fun s Q E st hQ => by
    obtain ⟨x, tb⟩ := st
    have hp : t.place.size = n := by simp only [SetTable.fits, Bool.and_eq_true, beq_iff_eq] at hf; omega
    refine next_S hh x tb hn (fun A' E' Q' q => setNext_1 hT tb hl (by omega) q) (fun v nx h' e x' sb => ?_) (fun e h' kp => ?_)
    · exfalso
      have : n = 0 ∨ n = 1 := by omega
      rcases this with z | z
      · subst z
        have h0 : es = #[] := by simpa using hn
        rw [h0] at e
        simp at e
      · subst z
        obtain ⟨j, hj⟩ := arr1 hp
        have hz : slS t 1 = j + 1 := by show t.place.getD 0 0 + 1 = j + 1; rw [hj]; rfl
        rw [hz, hj, below_1] at e
        have h0 : es[1]? = none := by simp [hn]
        rw [h0] at e
        simp at e
    · exact hQ h' s.toks fun b o hb e => kp b o (fun h => hb (by simp [h])) e
  self := fun _ _ _ _ st hQ => pyIter_si st.1 hQ
theorem walks_D {ps : List Nat} (hh : A.handled = none) (hne : a ≠ I) (htp : tp ≠ I) (hn : es.size = n) (hps : List.Perm ps (List.range n)) :
    Walks prog w A I [I, tp, a] [I] n (fun i v => ((ps.filterMap fun p => es[p]?).map (·.2))[i]? = some v) (fun i h => IsSI h I (.ref tp) i a n ep ∧ (∃ ot k, h.get? tp = some ot ∧ ot.data = .seq (ps.map fun p : Nat => rawInt p).toArray k) ∧ SetTab h a es ep t) where
  sub := fun b hb => by simp at hb; simp [hb]
  frame := fun _ _ _ st hk => ⟨st.1.at fun o e => hk I (by simp) o e, let ⟨ot, k, e, d⟩ := st.2.1; ⟨ot, k, hk tp (by simp) _ e, d⟩, st.2.2.at fun o e => hk a (by simp) o e⟩
  item := fun i s Q E hi st hQ => by
    obtain ⟨x, ⟨ot, k, et, dt⟩, tb⟩ := st
    have hpl : ps.length = n := by rw [hps.length_eq, List.length_range]
    have hpi : ps[i]? = some (ps[i]'(by omega)) := List.getElem?_eq_getElem _
    have hlt : ps[i]'(by omega) < n := List.mem_range.mp (hps.mem_iff.mp (List.getElem_mem _))
    have he : es[ps[i]'(by omega)]? = some (es[ps[i]'(by omega)]'(by omega)) := by simp [hn, hlt]
    have hall : ∀ q : List Nat, (∀ p ∈ q, p < n) → (q.filterMap fun p => es[p]?) = q.map fun p => es.getD p (0, .none) := by
      intro q
      induction q with
      | nil => intro _; rfl
      | cons p r ih =>
        intro hq
        have h1 := hq p (List.mem_cons_self ..)
        rw [List.filterMap_cons_some (b := es.getD p (0, .none)) (by simp [hn, h1]), ih fun p hp => hq p (List.mem_cons_of_mem _ hp)]
        rfl
    refine next_D x tb hn et dt (p := ps[i]'(by omega)) (tk := 0) (by rw [List.getElem?_map, hpi]; rfl) he fun h' x' sb => ?_
    refine hQ _ h' s.toks ?_ ⟨x', ⟨ot, k, (sb.2 tp htp).trans et, dt⟩, tb.at fun o e => (sb.2 a hne).trans e⟩ fun b o hb e => (sb.2 b (fun h => hb (by simp [h]))).trans e
    rw [hall ps (fun p hp => List.mem_range.mp (hps.mem_iff.mp hp)), List.map_map, List.getElem?_map, hpi]
    simp [hn, hlt]
  done := fun s Q E st hQ => by
    obtain ⟨x, ⟨ot, k, et, dt⟩, tb⟩ := st
    have hpl : ps.length = n := by rw [hps.length_eq, List.length_range]
    exact end_D hh x tb hn et dt (by rw [List.getElem?_map, List.getElem?_eq_none (by omega)]; rfl) fun h' kp => hQ h' s.toks fun b o hb e => kp b o (fun h => hb (by simp [h])) e
  self := fun _ _ _ _ st hQ => pyIter_si st.1 hQ
end
end PySem
namespace PySem
open L2 PyProof.Rows
theorem strs_map : ∀ {L : List (Int × Value)}, (∀ e ∈ L, ∃ z k, e.2 = Value.str z k) → StrsAre (L.map (·.2)) (L.map fun e => strOf e.2)
  | [], _ => .nil
  | e :: r, h => by
    obtain ⟨z, k, q⟩ := h e (List.mem_cons_self ..)
    show StrsAre (e.2 :: r.map (·.2)) (strOf e.2 :: r.map fun e => strOf e.2)
    rw [q]
    exact .cons z k (strs_map fun e he => h e (List.mem_cons_of_mem _ he))
section
variable {prog : Program} {w : World} {A : Around} {E : Value → Shared → Prop} {s : Shared} {a : Addr}
theorem iter_set {zs : List Str} {Q : Value → Shared → Prop} (hS : SetW prog w s.heap a zs)
    (hQ : ∀ (I : Addr) (fp : List Addr) (St : Nat → Heap → Prop) (vs : List Value) (zs' : List Str) (h' : Heap) (d : Drawn), (∀ A' : Around, A'.handled = none → Walks prog w A' I fp [I] zs.length (fun i v => vs[i]? = some v) St) → St 0 h' → StrsAre vs zs' → List.Perm zs' zs →
      (∀ b o, s.heap.get? b = some o → h'.get? b = some o) → s.heap.objs.size ≤ I → (∀ b ∈ fp, b = a ∨ s.heap.objs.size ≤ b) → Q (.ref I) { s with heap := h', drawn := d }) : wpAny (model prog w) A (pyIter (.ref a)) Q E s := by
  obtain ⟨o, es, ep, t, ho, hex, hd, hel, hst, hzs, hnd, hb, hf, hled, hpl⟩ := hS
  have hn : es.size = zs.length := by rw [← hzs, List.length_map, Array.length_toList]
  have hTy : s.TypeIs (.ref a) "set" := ⟨o, ho, hex.1⟩
  have hlt : a < s.heap.objs.size := Heap.lt_size ho
  refine wpAny_pyIter_slot hTy F.slot_set_iter (wpAny_call_entry F.slot_set_iter hTy F.entry_set_iter' ?_ (F.args_set_iter_1 _))
  show wpAny _ _ (Builtin.Frozenset.sizeOf a >>= _) _ _ s
  unfold Builtin.Frozenset.sizeOf
  refine wpAny_bind (wpAny_bind (wpAny_setEntries_of ho hd hf (wpAny_pure ?_)))
  unfold setDrawn
  refine wpAny_bind ?_
  refine wpAny_bind (wpAny_setState_of ho hd hf ?_)
  dsimp only
  unfold setsByText
  refine wpAny_bind (wpAny_bind (wpAny_askSetting (wpAny_pure (wpAny_pure ?_))))
  show wpAny _ _ (if (!(w.params.followText "set-order") && (!t.plain && decide (es.size > 1))) = true then _ else _) _ _ _
  cases hT : w.params.followText "set-order" with
  | true =>
    simp only [Bool.not_true, Bool.false_and, Bool.false_eq_true, if_false]
    refine wpAny_bind (wpAny_pure ?_)
    unfold setEpoch
    refine wpAny_bind (wpAny_bind (wpAny_setState_of ho hd hf (wpAny_pure ?_)))
    refine wpAny_bind (wpAny_newObj_type (wpAny_pure ⟨_, rfl, "set_iterator", _, ⟨_, Heap.get?_push_size _ rfl, rfl⟩, F.slot_set_iterator_next.lookup, ?_⟩))
    have e : ∀ h' : Heap, ({ s with heap := h' } : Shared) = { s with heap := h', drawn := s.drawn } := fun _ => by cases s; rfl
    rw [e]
    refine hQ _ [s.heap.objs.size, a] _ _ _ _ _ (fun A' hA => walks_T (ep := ep) (t := t) hT hA (Nat.ne_of_lt hlt) hn) ⟨⟨0, _, Heap.get?_push_size _ rfl, rfl, by simp [rawInt, hn]⟩, o, Heap.get?_push_of_some _ ho, hd, hf⟩ (strs_map fun e he => hst e ((pickOrder_perm _ es).mem_iff.mp he)) ?_ (fun b o e => Heap.get?_push_of_some _ e) (Nat.le_refl _) (fun b hb => ?_)
    · rw [← hzs]
      exact (pickOrder_perm _ es).map _
    · rcases List.mem_cons.mp hb with z | z
      · exact .inr (by rw [z]; exact Nat.le_refl _)
      · exact .inl (List.mem_singleton.mp z)
  | false =>
    simp only [Bool.not_false, Bool.true_and]
    by_cases h1 : es.size ≤ 1
    · rw [show decide (es.size > 1) = false from decide_eq_false (by omega), Bool.and_false]
      simp only [Bool.false_eq_true, if_false]
      refine wpAny_bind (wpAny_pure ?_)
      unfold setEpoch
      refine wpAny_bind (wpAny_bind (wpAny_setState_of ho hd hf (wpAny_pure ?_)))
      refine wpAny_bind (wpAny_newObj_type (wpAny_pure ⟨_, rfl, "set_iterator", _, ⟨_, Heap.get?_push_size _ rfl, rfl⟩, F.slot_set_iterator_next.lookup, ?_⟩))
      have e : ∀ h' : Heap, ({ s with heap := h' } : Shared) = { s with heap := h', drawn := s.drawn } := fun _ => by cases s; rfl
      rw [e]
      rw [hT] at hled
      refine hQ _ [s.heap.objs.size, a] _ _ _ _ _ (fun A' hA => walks_S (ep := ep) (t := t) hT hA (Nat.ne_of_lt hlt) hn (by omega) hled hf) ⟨⟨_, Heap.get?_push_size _ rfl, rfl, by simp [rawInt, hn, slS]⟩, o, Heap.get?_push_of_some _ ho, hd, hf⟩ (strs_map hst) (by rw [hzs]) (fun b o e => Heap.get?_push_of_some _ e) (Nat.le_refl _) (fun b hb => ?_)
      rcases List.mem_cons.mp hb with z | z
      · exact .inr (by rw [z]; exact Nat.le_refl _)
      · exact .inl (List.mem_singleton.mp z)
    · have hp : t.plain = false := hpl.resolve_right (by omega)
      rw [show decide (es.size > 1) = true from decide_eq_true (by omega), hp]
      simp only [Bool.not_false, Bool.and_self, if_true]
      refine wpAny_bind (draw_perm _ _ _ _ (List.length_range ..) fun ps d hps => ?_)
      have hpl' : ps.length = es.size := by rw [hps.length_eq, List.length_range]
      refine wpAny_bind (wpAny_newTuple ?_ (by rw [List.length_map, hpl']; exact fits_of_scanBound hb))
      unfold setEpoch
      refine wpAny_bind (wpAny_bind (wpAny_setState_of (Heap.get?_push_of_some _ ho) hd hf (wpAny_pure ?_)))
      refine wpAny_bind (wpAny_newObj_type (wpAny_pure ⟨_, rfl, "set_iterator", _, ⟨_, Heap.get?_push_size _ rfl, rfl⟩, F.slot_set_iterator_next.lookup, ?_⟩))
      dsimp only
      rw [Heap.size_push]
      have hall : ∀ q : List Nat, (∀ p ∈ q, p < es.size) → ∀ e ∈ (q.filterMap fun p => es[p]?), e ∈ es.toList := fun q _ e he => by
        obtain ⟨p, _, z⟩ := List.mem_filterMap.mp he
        exact Array.mem_toList_iff.mpr (Array.mem_of_getElem? z)
      have hpe : List.Perm (ps.filterMap fun p => es[p]?) es.toList := by
        refine (hps.filterMap _).trans ?_
        have := List.filterMap_getElem?_range_length es.toList
        rw [Array.length_toList] at this
        have e2 : (fun p : Nat => es[p]?) = fun p : Nat => es.toList[p]? := by funext p; rw [Array.getElem?_toList]
        rw [e2, this]
      refine hQ (s.heap.objs.size + 1) [s.heap.objs.size + 1, s.heap.objs.size, a] _ _ _ _ d (fun A' hA => walks_D (ep := ep) (t := t) (tp := s.heap.objs.size) hA (Nat.ne_of_lt (Nat.lt_succ_of_lt hlt)) (Nat.ne_of_lt (Nat.lt_succ_self _)) hn (by rw [← hn]; exact hps)) ⟨⟨_, Heap.get?_push_at (by rw [Heap.size_push]) rfl, rfl, by simp [rawInt, hn]⟩, ⟨_, _, Heap.get?_push_of_some _ (Heap.get?_push_size _ rfl), rfl⟩, o, Heap.get?_push_of_some _ (Heap.get?_push_of_some _ ho), hd, hf⟩ (strs_map fun e he => hst e (hpe.mem_iff.mp he)) ?_ (fun b o e => Heap.get?_push_of_some _ (Heap.get?_push_of_some _ e)) (Nat.le_succ _) (fun b hb => ?_)
      · rw [← hzs]
        exact hpe.map _
      · rcases List.mem_cons.mp hb with z | z
        · exact .inr (by rw [z]; exact Nat.le_succ _)
        · rcases List.mem_cons.mp z with z | z
          · exact .inr (by rw [z]; exact Nat.le_refl _)
          · exact .inl (List.mem_singleton.mp z)
end
end PySem
namespace PySem
open L2 PyProof.Rows
section
variable {prog : Program} {w : World} {A : Around} {E : Value → Shared → Prop} {s : Shared} {a : Addr} {zs : List Str}
theorem hint_set {Q : Bool → Shared → Prop} (hT : s.TypeIs (.ref a) "set") (h : Q false s) : wpAny (model prog w) A (Builtin.List.listLengthHint (.ref a)) Q E s := by
  unfold Builtin.List.listLengthHint
  refine wpAny_bind (wpAny_specialOf hT PySem.F.slot_set_len.lookup ?_)
  generalize hid : ("set.__len__" : String) = id0
  wp_delta
  rw [show splitId id0 = some ("set", "__len__") from by subst hid; decide +kernel]
  subst hid
  refine wpAny_bind (wpAny_isInstance (T := "set") (b := true) hT (by rw [isSubtype_type]; kernel_rfl) ?_)
  refine wpAny_ite_split (fun hab => absurd hab (by decide)) (fun _ => ?_)
  refine wpAny_ite_split (fun _ => ?_) (fun hab => absurd (by decide +kernel) hab)
  refine wpAny_bind (wpAny_typeOf hT ?_)
  exact wpAny_pure h
theorem items_eq {vs : List Value} {acc : Array Value} (h : ItemsOf (fun i v => vs[i]? = some v) acc vs.length) : acc.toList = vs := by
  apply List.ext_getElem?
  intro i
  rw [Array.getElem?_toList]
  by_cases hi : i < acc.size
  · rw [Array.getElem?_eq_getElem hi, h.2 i acc[i] (by simp [hi])]
  · have h1 := h.1
    rw [Array.getElem?_eq_none (by omega), List.getElem?_eq_none (by omega)]
theorem ext_set {R : Result → Shared → Prop} (hh : A.handled = none) (hS : SetW prog w s.heap a zs) (S : Addr) (hSa : S ≠ a) (res : Value) (c₀ : Nat) (hL : s.heap.get? S = some { cls := .type "list", data := .seq #[] c₀ })
    (hR : ∀ h' tk d acc' c' zs', (∀ b o, b ≠ S → s.heap.get? b = some o → h'.get? b = some o) → h'.get? S = some { cls := .type "list", dict := none, data := .seq acc' c', slots := #[] } → StrsAre acc'.toList zs' → List.Perm zs' zs →
      R (.ok (.ret res)) { s with heap := h', toks := tk, drawn := d }) (hn : zs.length ≤ sizeLine) :
    wpAny (model prog w) A.in1 (Builtin.List.listExtendWith (.ref S) (.ref a) res)
      (fun fin s' => match fin with | .done f => R (.ok f) s' | .again c' => c'.quiet = true ∧ codeAny (model prog w) A c' R s') (fun e s' => R (.error e) s') s := by
  have hTy : s.TypeIs (.ref a) "set" := let ⟨o, _, _, _, ho, hex, _⟩ := hS; ⟨o, ho, hex.1⟩
  have hSl : S < s.heap.objs.size := Heap.lt_size hL
  unfold Builtin.List.listExtendWith
  refine wpAny_bind (wpAny_typeOf (T := "set") hTy ?_)
  have h1 : Builtin.List.listSameRef (.ref S) (.ref a) = false := by simp [Builtin.List.listSameRef, hSa]
  have nl : (Value.type "set" == Value.type "list") = false := by decide
  have nt : (Value.type "set" == Value.type "tuple") = false := by decide
  simp only [h1, nl, nt, Bool.or_false, Bool.false_eq_true, if_false]
  refine wpAny_bind (iter_set hS fun I fp St vs zs' hI d W st hvs hp kp hIl hfp => ?_)
  have hvl : vs.length = zs.length := by rw [StrsAre.length hvs, hp.length_eq]
  have hSf : S ∉ fp := fun hm => (hfp S hm).elim hSa fun z => absurd hSl (Nat.not_lt.mpr z)
  have key : ∀ (h : Heap) (c₁ tk : Nat), St 0 h → (∀ b o, b ≠ S → s.heap.get? b = some o → h.get? b = some o) →
      h.get? S = some { cls := .type "list", data := .seq #[] c₁ } → codeAny (model prog w) A (.builtin "list.extend.loop" ⟨[.ref S, .ref I, res], []⟩) R { s with heap := h, toks := tk, drawn := d } := by
    intro h c₁ tk hst hk hS₁
    refine codeAny_extend_loopS (W A.in1 hh).toS hn S hSf res zs.length 0 _ #[] c₁ rfl (Nat.zero_le _) hst hS₁ (ItemsOf.nil _) fun s' acc' c' hm hS' hacc => ?_
    rw [Moved.eq_with hm]
    refine hR s'.heap s'.toks d acc' c' zs' (fun b o hb e => hm.heap b o (fun hmem => ?_) (hk b o hb e)) hS' ?_ hp
    · rcases List.mem_cons.mp hmem with e' | hmem
      · exact hb e'
      · exact absurd (Heap.lt_size e) (by rw [List.mem_singleton.mp hmem]; exact Nat.not_lt.mpr hIl)
    · rw [items_eq (by rw [hvl]; exact hacc)]
      exact hvs
  have hS₁ := kp S _ hL
  refine wpAny_bind (wpAny_holding (hint_set (let ⟨o, ho, hc⟩ := hTy; ⟨o, kp _ _ ho, hc⟩) ?_))
  refine wpAny_ite_split (fun _ => ?_) (fun _ => wpAny_pure ⟨plainId_quiet PySem.F.plain_extend_loop _, key _ c₀ _ st (fun b o _ e => kp b o e) hS₁⟩)
  refine wpAny_bind (wpAny_rule ?_)
  refine wpAny_bind ?_
  show wpAny _ _ (updateSeq S (·.push .none) >>= fun _ => updateSeq S (·.pop)) _ _ _
  refine wpAny_bind (wpAny_updateSeq hS₁ rfl ?_)
  have hS₂ := Heap.get?_update_self (Obj.mapSeq (·.push Value.none)) hS₁ rfl
  refine wpAny_updateSeq (hz := by seq_fits) hS₂ rfl ?_
  have hS₃ := Heap.get?_update_self (Obj.mapSeq (·.pop)) hS₂ rfl
  refine wpAny_pure ⟨plainId_quiet PySem.F.plain_extend_loop _, key _ _ _ ?_ (fun b o hb e => ?_) hS₃⟩
  · refine (W A.in1 hh).frame 0 _ _ st fun b hb o e => ?_
    have hbS : b ≠ S := fun h => hSf (h ▸ hb)
    exact (Heap.get?_update_other _ _ (Ne.symm hbS)).trans ((Heap.get?_update_other _ _ (Ne.symm hbS)).trans e)
  · exact (Heap.get?_update_other _ _ (Ne.symm hb)).trans ((Heap.get?_update_other _ _ (Ne.symm hb)).trans (kp b o e))
theorem coll_set {R : List Value → Shared → Prop} (hh : A.handled = none) (hS : SetW prog w s.heap a zs) (hn : zs.length ≤ sizeLine)
    (h : ∀ (h' : Heap) (tk : Nat) (d : Drawn) (acc : Array Value) (zs' : List Str), (∀ b o, s.heap.get? b = some o → h'.get? b = some o) → StrsAre acc.toList zs' → List.Perm zs' zs → R acc.toList { s with heap := h', toks := tk, drawn := d }) :
    wpAny (model prog w) A (collect (.ref a)) R E s := by
  have hlt : a < s.heap.objs.size := let ⟨o, _, _, _, ho, _⟩ := hS; Heap.lt_size ho
  unfold collect
  refine wpAny_bind (wpAny_runValue (codeAny_builtin entry_proto_collect' ?_))
  rw [Around.under_plainId PySem.F.plain_proto_collect _]
  show wpAny _ A.in1 (newList [] >>= fun l => again (.builtin "list.__iadd__" ⟨[l, .ref a], []⟩)) _ _ s
  refine wpAny_bind (wpAny_newObj_type ?_)
  refine wpAny_pure ⟨plainId_quiet PySem.F.plain_list_iadd _, codeAny_builtin entry_list_iadd' ?_⟩
  rw [Around.under_plainId PySem.F.plain_list_iadd _]
  have hS₁ : (s.heap.push { cls := .type "list", data := .seq ([] : List Value).toArray }).get? s.heap.objs.size = some { cls := .type "list", data := .seq #[] } := Heap.get?_push_size _ rfl
  show wpAny _ A.in1 (Builtin.List.listExtendWith (.ref s.heap.objs.size) (.ref a) (.ref s.heap.objs.size)) _ _ _
  have key := ext_set (A := A) (s := { s with heap := s.heap.push { cls := .type "list", data := .seq ([] : List Value).toArray } })
    (R := fun (q : Result) (s' : Shared) => ∃ (h' : Heap) (tk : Nat) (d : Drawn) (acc' : Array Value) (c' : Nat) (zs' : List Str), q = .ok (.ret (.ref s.heap.objs.size)) ∧ s' = { s with heap := h', toks := tk, drawn := d } ∧
      (∀ b o, s.heap.get? b = some o → h'.get? b = some o) ∧ h'.get? s.heap.objs.size = some { cls := .type "list", dict := none, data := .seq acc' c', slots := #[] } ∧ StrsAre acc'.toList zs' ∧ List.Perm zs' zs)
    hh (hS.at fun o e => Heap.get?_push_of_some _ e) s.heap.objs.size (Nat.ne_of_gt hlt) (.ref s.heap.objs.size) 0 hS₁
    (fun h' tk d acc' c' zs' hk hS' hacc hp => ⟨h', tk, d, acc', c', zs', rfl, rfl, fun b o e => hk b o (Nat.ne_of_lt (Heap.lt_size e)) (Heap.get?_push_of_some _ e), hS', hacc, hp⟩) hn
  refine wpAny_mono key (fun fin s' x => ?_) fun e s' x => ?_
  · cases fin with
    | done f =>
      obtain ⟨h', tk, d, acc', c', zs', e, rfl, hk, hS', hacc, hp⟩ := x
      cases e
      show wpAny _ A (load s.heap.objs.size >>= _) _ _ _
      refine wpAny_bind (wpAny_load hS' ?_)
      exact wpAny_pure (h h' tk d acc' zs' hk hacc hp)
    | again c₁ =>
      refine ⟨x.1, codeAny_mono x.2 fun q s₂ y => ?_⟩
      obtain ⟨h', tk, d, acc', c', zs', rfl, rfl, hk, hS', hacc, hp⟩ := y
      show wpAny _ A (load s.heap.objs.size >>= _) _ _ _
      refine wpAny_bind (wpAny_load hS' ?_)
      exact wpAny_pure (h h' tk d acc' zs' hk hacc hp)
  · obtain ⟨_, _, _, _, _, _, e', _⟩ := x
    cases e'
end
end PySem
namespace L2
open PySem PySem.Spec PyProof.Rows Hw
def setH (P : Program) (w : World) (a : Addr) (ss : List Str) : HO := .ext fun h => ∃ zs, SetW P w h a zs ∧ (∀ x, x ∈ zs ↔ x ∈ ss) ∧ zs.length < 64
section
variable {X : Cx}
theorem Inv.drew {pins : List (Addr × Obj)} {σ : St} {H : Hp} {s : Shared} (I : Inv X pins σ H s) (d : Drawn) : Inv X pins σ H { s with drawn := d } := ⟨I.ok, I.os, I.bare, I.base, I.loc, I.cell, I.free, I.freeC, I.pin, I.hok, I.len⟩
theorem call_setS (hc : X.calm = true) : CallR X (.type "set") (fun xs H Q => ∃ (p : Addr) (ss : List Str), xs = [.ref p] ∧ SqL X.K H p (ss.map V.str) ∧ ss.length < 64 ∧ ∀ q, H q = none → Q (.ref q) (upd H q (setH X.prog X.w q ss))) := by
  intro pins s σ H xs us Q I r h
  obtain ⟨p, ss, rfl, hq, hl, q⟩ := h
  obtain ⟨u, rfl, rx⟩ := vals1 r
  cases rx
  obtain ⟨its, r', pl, hz⟩ := I.list hq
  have hlen := r'.length
  rw [List.length_map] at hlen
  refine call_set_strs (I.ok.hd hc) pl.isList (ss := ss) (by simpa using of_vals_str r') (by simp only [List.size_toArray]; unfold scanBound; omega) fun h' tk zs hS hm hzl kp => ?_
  simp only [List.size_toArray] at hzl
  have L := I.laid2 (h' := h') (a := s.heap.objs.size) (o := setH X.prog X.w s.heap.objs.size ss) (t' := tk) (fun b u e => kp b u (Heap.lt_size e) e) (fun b u e => Nat.ne_of_lt (Heap.lt_size e))
    ⟨⟨zs, hS, hm, by omega⟩, let ⟨o, _, _, _, ho, _⟩ := hS; ⟨o, ho⟩, fun h1 h2 ⟨zs, x, y⟩ k => ⟨zs, x.at k, y⟩⟩
  exact ⟨.ref s.heap.objs.size, _, L.2, rfl, q _ L.1⟩
theorem call_sortedS (hc : X.calm = true) : CallR X (.builtin "sorted") (fun xs H Q => ∃ (p : Addr) (ss : List Str), xs = [.ref p] ∧ H p = some (setH X.prog X.w p ss) ∧
    ∀ (l : Addr) (ys : List Str), H l = none → (∀ x, x ∈ ys ↔ x ∈ ss) → ys.Nodup → ys.length < 64 → ys.Pairwise (fun a b => Hw.lt b a = false) → Q (.ref l) (upd H l (.lst (ys.map V.str)))) := by
  intro pins s σ H xs us Q I r h
  obtain ⟨p, ss, rfl, hp, q⟩ := h
  obtain ⟨u, rfl, ru⟩ := vals1 r
  cases ru
  obtain ⟨⟨zs, hS, hm, h64⟩, _, _⟩ := I.hok p _ hp
  have hnd : zs.Nodup := let ⟨_, _, _, _, _, _, _, _, _, _, n, _⟩ := hS; n
  have s64 : 64 ≤ sizeLine := by rw [sizeLine_eq]; decide
  refine Calls.call_function_entry kind_sorted plain_sorted entry_sorted (args_sorted1 _) ?_
  unfold Builtin.«sorted»
  refine wpAny_bind (m := checkCount "sorted" 1 1 _) (wpAny_pure (wpAny_bind (coll_set (A := X.A.in1) (I.ok.hd hc) hS (by omega) fun h' tk d acc zs' kp hS' hpm => ?_)))
  have hla : acc.toList.length < 64 := by rw [StrsAre.length hS', hpm.length_eq]; exact h64
  refine wpAny_bind (wpAny_newList ?_ (by omega))
  have ho : (h'.push (seqObj "list" acc.toList.toArray 0)).get? h'.objs.size = some (seqObj "list" acc.toList.toArray 0) := Heap.get?_push_size _ rfl
  refine wpAny_bind (wpAny_holding (wpAny_call_entry slot_list_sort ⟨_, ho, rfl⟩ entry_list_sort (list_sort_treeK (s := { s with heap := h'.push (seqObj "list" acc.toList.toArray 0), toks := tk, drawn := d }) strKind_oneLt ho hS'.keysOf (fun v1 v2 rest e => keyKind_strs (by rw [← e]; exact hS')) hla fun st' a1 a2 => ⟨_, rfl, ?_⟩) (args_list_sort _)))
  obtain ⟨ss', b1, b2, b3⟩ := sorted_out_str hS' a1 a2
  obtain ⟨e, he⟩ := sortedHeap_at (out := (arrOf st').map (·.2)) ho
  have hss : (ss'.map V.str).length ≤ sizeLine := by
    have h2 : (ss'.map V.str).length = acc.toList.length := by rw [List.length_map, b2.length_eq, ← StrsAre.length hS']
    omega
  have L := I.laid2 (h' := sortedHeap (h'.push (seqObj "list" acc.toList.toArray 0)) h'.objs.size acc.toList ((arrOf st').map (·.2))) (a := h'.objs.size) (o := .lst (ss'.map V.str)) (t' := tk)
    (fun b u q => by
      have l := Heap.lt_size (kp b u q)
      rw [sortedHeap_old (Nat.ne_of_lt l) (by rw [Heap.size_push]; exact Nat.lt_succ_of_lt l)]
      exact Heap.get?_push_of_some _ (kp b u q))
    (fun b u q => Nat.ne_of_lt (Heap.lt_size (kp b u q)))
    ⟨hss, ((arrOf st').map (·.2)).toList, e, strsAre_of b1, by rw [Array.toArray_toList]; exact he⟩
  have hall := b2.trans hpm
  exact wpAny_pure ⟨_, rfl, .ref h'.objs.size, _, L.2.drew d, rfl, q _ ss' L.1 (fun x => (hall.mem_iff).trans (hm x)) (hall.nodup_iff.mpr hnd) (by rw [hall.length_eq]; exact h64) (sortedS_pair _ b3)⟩
end
end L2
namespace L2
open PySem PySem.Spec PyProof.Rows Hw
section
variable {X : Cx}
def eqB (b : Bool) (u : Value) : Bool := match u with | .bool c => c == b | _ => false
end
end L2
namespace Hw
open PySem L2
theorem rise_strict {ys : List Str} (h : ys.Pairwise (fun a b => lt b a = false)) (n : ys.Nodup) : ys.Pairwise (fun a b => lt a b = true) := by
  unfold List.Nodup at n
  exact (h.and n).imp fun {a b} ⟨h1, h2⟩ => by
    rcases lt_tri a b with z | z | z
    · exact z
    · exact absurd z h2
    · rw [h1] at z; cases z
theorem rise_same : ∀ {xs ys : List Str}, xs.Pairwise (fun a b => lt a b = true) → ys.Pairwise (fun a b => lt a b = true) → (∀ x, x ∈ xs ↔ x ∈ ys) → xs = ys
  | [], [], _, _, _ => rfl
  | [], y :: _, _, _, h => absurd ((h y).mpr (List.mem_cons_self ..)) (fun z => nomatch z)
  | x :: _, [], _, _, h => absurd ((h x).mp (List.mem_cons_self ..)) (fun z => nomatch z)
  | x :: xs, y :: ys, p, q, h => by
    obtain ⟨px, p'⟩ := List.pairwise_cons.mp p
    obtain ⟨qy, q'⟩ := List.pairwise_cons.mp q
    have e : x = y := by
      rcases List.mem_cons.mp ((h x).mp (List.mem_cons_self ..)) with z | z
      · exact z
      · rcases List.mem_cons.mp ((h y).mpr (List.mem_cons_self ..)) with u | u
        · exact u.symm
        · have := lt_trans (px y u) (qy x z)
          rw [lt_irr] at this; cases this
    subst e
    have t : xs = ys := rise_same p' q' fun z => by
      constructor
      · intro hz
        rcases List.mem_cons.mp ((h z).mp (List.mem_cons_of_mem _ hz)) with u | u
        · subst u
          have := px z hz
          rw [lt_irr] at this; cases this
        · exact u
      · intro hz
        rcases List.mem_cons.mp ((h z).mpr (List.mem_cons_of_mem _ hz)) with u | u
        · subst u
          have := qy z hz
          rw [lt_irr] at this; cases this
        · exact u
    rw [t]
end Hw
namespace Hw
open PySem L2
end Hw
namespace Hw
open PySem L2
end Hw
namespace L2
open PySem PySem.Spec PyProof.Rows Hw
section
variable {X : Cx}
end
end L2
namespace Hw
open PySem L2
end Hw
namespace L2
open PySem PySem.Spec PyProof.Rows Hw
section
variable {X : Cx}
end
end L2
namespace Hw
open PySem L2
inductive Rw where
  | any (x : Str)
  | lt (x : Str) (a : Ps) (n : Int)
  | hold (c : Cd)
theorem hard_upd {H : Hp} {l : Addr} {xs ys : List V} (h : H l = some (.lst xs)) : Hard H (upd H l (.lst ys)) :=
  ⟨fun a zs e => by rw [upd_ne (ne_of e h (by intro w; cases w))]; exact e, fun a C dx fs e => by rw [upd_ne (ne_of e h (by intro w; cases w))]; exact e⟩
theorem none_of_new {H : Hp} {a b : Addr} {o : HO} (h : upd H a o b = none) : H b = none := by
  by_cases e : b = a
  · subst e; rw [upd_same] at h; cases h
  · rw [upd_ne e] at h; exact h
end Hw
namespace PySem
open Sem (wp)
section
variable {prog : Program} {w : World} {A : Around} {E : Value → Shared → Prop} {s : Shared}
theorem nxt_tup {j t : Addr} {i : Nat} {its : Array Value} {x : Value} {Q : Value → Shared → Prop} (hj : s.heap.IsTupleIter j t i) (ht : s.heap.IsTuple t its) (hx : its[i]? = some x)
    (hQ : ∀ h', h'.IsTupleIter j t (i + 1) → Heap.SameBut j s.heap h' → Q x { s with heap := h' }) : wpAny (model prog w) A (Builtin.SmallTypes.nextOf (.ref j)) Q E s := by
  obtain ⟨oj, ej, cj, dj⟩ := id hj
  obtain ⟨ot, et, _, nt, dt⟩ := ht
  unfold Builtin.SmallTypes.nextOf
  refine wpAny_bind (wpAny_callSpecial?_slot (name := Str.ofString "__next__") hj.typeIs F.slot_tuple_iterator_next (wpAny_call_entry F.slot_tuple_iterator_next hj.typeIs F.entry_tuple_iterator_next ?_ (F.args_tuple_iterator_next_1 _)))
  show wpAny _ _ (field (Value.ref j) 0 >>= _) _ _ s
  refine wpAny_bind (wpAny_field ej dj (x := .ref t) rfl ?_)
  show wpAny _ _ (if (Value.ref t == Value.none) = true then _ else _) _ _ _
  rw [if_neg (by intro z; cases z)]
  show wpAny _ _ (field (Value.ref j) 1 >>= _) _ _ s
  refine wpAny_bind (wpAny_field ej dj (x := .int i 0) rfl ?_)
  show wpAny _ _ (seqItems? (Value.ref t) >>= _) _ _ s
  refine wpAny_bind (wpAny_seqItems et dt ?_)
  simp only [hx, Int.toNat_natCast]
  refine wpAny_bind (wpAny_setField ej dj (by simp) (wpAny_pure ⟨x, rfl, wpAny_pure (hQ _ ⟨_, Heap.get?_update_self _ ej (Obj.isFreed_of_fields (Obj.data_mapFields dj _)), (Obj.cls_mapFields ..).trans cj, ?_⟩ (Heap.SameBut.update ..))⟩))
  rw [Obj.data_mapFields dj]
  simp [rawInt]
theorem nxt_tupE {j t : Addr} {i : Nat} {its : Array Value} {Q : Value → Shared → Prop} (hh : A.handled = none) (hj : s.heap.IsTupleIter j t i) (ht : s.heap.IsTuple t its) (hx : its[i]? = none)
    (hE : ∀ h' e, Heap.ExtBut j s.heap h' → (∃ o, h'.get? e = some o ∧ o.cls = .type "StopIteration") → E (.ref e) { s with heap := h' }) : wpAny (model prog w) A (Builtin.SmallTypes.nextOf (.ref j)) Q E s := by
  obtain ⟨oj, ej, cj, dj⟩ := id hj
  obtain ⟨ot, et, _, nt, dt⟩ := ht
  unfold Builtin.SmallTypes.nextOf
  refine wpAny_bind (wpAny_callSpecial?_slot (name := Str.ofString "__next__") hj.typeIs F.slot_tuple_iterator_next (wpAny_call_entry F.slot_tuple_iterator_next hj.typeIs F.entry_tuple_iterator_next ?_ (F.args_tuple_iterator_next_1 _)))
  show wpAny _ _ (field (Value.ref j) 0 >>= _) _ _ s
  refine wpAny_bind (wpAny_field ej dj (x := .ref t) rfl ?_)
  show wpAny _ _ (if (Value.ref t == Value.none) = true then _ else _) _ _ _
  rw [if_neg (by intro z; cases z)]
  show wpAny _ _ (field (Value.ref j) 1 >>= _) _ _ s
  refine wpAny_bind (wpAny_field ej dj (x := .int i 0) rfl ?_)
  show wpAny _ _ (seqItems? (Value.ref t) >>= _) _ _ s
  refine wpAny_bind (wpAny_seqItems et dt ?_)
  simp only [hx, Int.toNat_natCast]
  refine wpAny_bind (wpAny_rule (wpAny_bind (wpAny_setField ej dj (by simp) ?_)))
  show wpAny _ _ (newExc (Value.type "StopIteration") [] >>= _) _ _ _
  refine wpAny_bind ?_
  simp only [newExc, newTuple]
  refine wpAny_bind (wpAny_newObj_type ?_ (by size_fits))
  refine wpAny_bind (m := firstArgMember _ _) (wpAny_of_eq (a := Value.none) (by first | rfl | (simp only [firstArgMember] <;> rfl)) ?_)
  refine wpAny_newObj_type ?_ (by size_fits)
  simp only [raiseNew]
  refine wpAny_bind (wpAny_handled ?_)
  first
    | rw [show A.in1.handled = none from hh]
    | rw [hh]
  refine wpAny_bind (wpAny_pure (wpAny_throw (hE _ _ (((Heap.SameBut.update ..).extBut.push _).push _) ⟨_, Heap.get?_push_size _ rfl, rfl⟩)))
theorem drw_tup {B : Around} (hh : B.handled = none) (j t : Addr) (hne : t ≠ j) (its : Array Value) :
    Draws prog w B j [j, t] its.size (fun i v => its[i]? = some v) (fun i h => h.IsTupleIter j t i ∧ h.IsTuple t its) where
  live := fun _ _ st => let ⟨o, ho, _⟩ := st.1; ⟨o, ho⟩
  frame := fun _ _ _ st hk => ⟨let ⟨o, ho, r⟩ := st.1; ⟨o, hk j (by simp) o ho, r⟩, let ⟨o, ho, r⟩ := st.2; ⟨o, hk t (by simp) o ho, r⟩⟩
  item := fun i s Q E hi st hQ => nxt_tup st.1 st.2 (x := its[i]) (by simp [hi]) fun h' a b => hQ _ h' s.toks (by simp [hi]) ⟨a, st.2.extBut b.extBut hne⟩ b
  done := fun s Q E st hE => nxt_tupE hh st.1 st.2 (by simp) hE
set_option maxHeartbeats 4000000 in
theorem enu_newT (t : Addr) (its : Array Value) (n : Nat) (dd : Option Addr) (sl : Array (Option Value)) :
    Meets (Builtin.«enumerate.__new__» ⟨[.type "enumerate", .ref t], []⟩) (fun _ R s => s.heap.get? t = some { cls := .type "tuple", dict := dd, data := .seq its n, slots := sl } ∧
      R (.ok (.ret (.ref (s.heap.push { cls := .type "tuple_iterator", data := .fields #[.ref t, .int 0 0] }).objs.size)))
        { s with heap := (s.heap.push { cls := .type "tuple_iterator", data := .fields #[.ref t, .int 0 0] }).push { cls := .type "enumerate", data := .fields #[.none, .bool false, .ref s.heap.objs.size, rawInt 0, .none, .none] } }) :=
  .of_wp fun prog w A R s h => by
    obtain ⟨hp, g, d, tk, os⟩ := s
    obtain ⟨hl, h⟩ := h
    have hsub := sub_enumerate
    have hT : Heap.IsTuple (Shared.heap ⟨hp, g, d, tk, os⟩) t its := ⟨_, hl, rfl, n, rfl⟩
    wp_walk using AutoSeq1.wpAny_loadPart' hl
    refine wpAny_stack_any fun st => wpAny_pure ?_
    split
    · rename_i c _ _ _ _ _
      cases (c == Value.type "enumerate") <;> (wp_walk using AutoSeq1.wpAny_loadPart' hl, wpAny_pyIter_tuple hT; exact ⟨_, rfl, h⟩)
    · wp_walk using AutoSeq1.wpAny_loadPart' hl, wpAny_pyIter_tuple hT
      exact ⟨_, rfl, h⟩
theorem call_enuT {t : Addr} {its : Array Value} {Q : Value → Shared → Prop} (hT : s.heap.IsTuple t its)
    (h : ∀ h', IsEnum h' (s.heap.objs.size + 1) s.heap.objs.size 0 .none → h'.IsTupleIter s.heap.objs.size t 0 → h'.objs.size = s.heap.objs.size + 2 → (∀ b o, s.heap.get? b = some o → h'.get? b = some o) → Q (.ref (s.heap.objs.size + 1)) { s with heap := h' }) :
    wpAny (model prog w) A (call (.type "enumerate") [.ref t]) Q E s := by
  obtain ⟨⟨c, dd, dt, sl⟩, hl, hc, n, hd⟩ := hT
  replace hc : c = .type "tuple" := hc
  replace hd : dt = .seq its n := hd
  subst hc hd
  refine callType_new F.called_enumerate (by decide) (F.typeCall_enumerate_1 _) (F.newCall_enumerate_1 _) (fun obj => F.args_object_init_2 obj _) F.entry_enumerate_new (enu_newT t its n dd sl) ⟨hl, ?_⟩
  have hz : (s.heap.push { cls := .type "tuple_iterator", data := .fields #[.ref t, .int 0 0] }).objs.size = s.heap.objs.size + 1 := Heap.size_push ..
  show _ ∧ _
  rw [hz]
  have he : IsEnum ((s.heap.push { cls := .type "tuple_iterator", data := .fields #[.ref t, .int 0 0] }).push { cls := .type "enumerate", data := .fields #[.none, .bool false, .ref s.heap.objs.size, rawInt 0, .none, .none] }) (s.heap.objs.size + 1) s.heap.objs.size 0 .none := by
    have q := Heap.get?_push_size (s.heap.push { cls := .type "tuple_iterator", data := .fields #[.ref t, .int 0 0] }) (o := { cls := .type "enumerate", data := .fields #[.none, .bool false, .ref s.heap.objs.size, rawInt 0, .none, .none] }) rfl
    rw [hz] at q
    exact q
  exact ⟨⟨_, he, rfl⟩, h _ he ⟨_, Heap.get?_push_of_some _ (Heap.get?_push_size _ rfl), rfl, rfl⟩ (by rw [Heap.size_push, hz]) fun b o x => Heap.get?_push_of_some _ (Heap.get?_push_of_some _ x)⟩
end
end PySem
namespace L2
open PySem PySem.Spec PyProof.Rows Hw
section
variable {X : Cx}
theorem op_notT : OpR X (compareOp .IsNot) (fun x y H Q => ∃ b, x = .bl b ∧ y = .bl true ∧ Q (.bl (!b)) H) := by
  intro pins s σ H x y v u Q I rx ry h
  obtain ⟨b, rfl, rfl, q⟩ := h
  cases rx
  cases ry
  refine isnot_bool (fin_bl I q ?_)
  cases b <;> rfl
def SqV (H : Hp) (a : Addr) (xs : List V) : Prop := H a = some (.lst xs) ∨ H a = some (.tup xs)
def rIsiS (K : PySem.W.Frag) : List V → Hp → VK → Prop := fun vs H Q => ∃ (a tp : Addr) (xs : List V), vs = [.ref a, .ref tp] ∧ SqV H a xs ∧ SqT K H tp [.ty "list", .ty "tuple"] ∧ PySem.W.kitOne K (.type "tuple") (.type "list") = some false ∧ Q (.bl true) H
theorem call_isiS : CallR X (.builtin "isinstance") (rIsiS X.K) := by
  intro pins s σ H xs us Q I r h
  obtain ⟨a, tp, ys, rfl, ha, ht, e, q⟩ := h
  obtain ⟨w1, w2, rfl, rx, r2⟩ := vals2 r
  cases rx
  cases r2
  obtain ⟨its, r', pl, hz⟩ := I.tuple ht
  obtain ⟨u1, u2, rfl, q1, q2⟩ := vals2 r'
  cases q1
  cases q2
  obtain ⟨⟨cls, dd, data, sl⟩, ho, hc, n, hd⟩ := pl
  simp only at hc hd
  subst hc hd
  have fin : ∀ tk, EP X pins σ Q (.bool true) { s with toks := tk } := fun tk => ⟨.bl true, H, I.tok _, rfl, q⟩
  have k1 : PySem.W.kitOne X.K (.type "list") (.type "list") = some true := by unfold PySem.W.kitOne; rw [if_pos (beq_self_eq_true _)]
  have k2 : PySem.W.kitOne X.K (.type "tuple") (.type "tuple") = some true := by unfold PySem.W.kitOne; rw [if_pos (beq_self_eq_true _)]
  rcases ha with ha | ha
  · obtain ⟨_, _, m, _, h1⟩ := (show ObjOk X.prog X.w H s.heap a (.lst ys) from I.hok a _ ha)
    exact PySem.W.kia_tup PySem.W.kitx_list I.kIn ⟨_, h1, rfl⟩ ho (by unfold PySem.W.kitAny; rw [k1]) (fun z => nomatch z) fin
  · obtain ⟨_, _, _, p⟩ := (show ObjOk X.prog X.w H s.heap a (.tup ys) from I.hok a _ ha)
    obtain ⟨o, h1, h2, _⟩ := p
    exact PySem.W.kia_tup PySem.W.kitx_tuple I.kIn ⟨o, h1, h2⟩ ho (by unfold PySem.W.kitAny; rw [e]; unfold PySem.W.kitAny; rw [k2]) (fun z => nomatch z) fin
def rNeS (K : PySem.W.Frag) : R2 := fun x y H Q => ∃ (a b : Addr) (ps : List Addr), x = .ref a ∧ y = .ref b ∧ SqL K H a (ps.map V.ref) ∧ SqL K H b (ps.map V.ref) ∧ Q (.bl false) H
theorem op_neS (hu : X.A.units + 1 < cLine) : OpR X (compareOp .NotEq) (rNeS X.K) := by
  intro pins s σ H x y v u Q I rx ry h
  obtain ⟨a, b, ps, rfl, rfl, ha, hb, q⟩ := h
  cases rx
  cases ry
  have fin : EP X pins σ Q (.bool false) s := ⟨.bl false, H, I, rfl, q⟩
  obtain ⟨us, r1, p1, _⟩ := I.list ha
  obtain ⟨vs, r2, p2, _⟩ := I.list hb
  have l1 := r1.length
  have l2 := r2.length
  refine SeqAt.RcNeAt.lists (A := X.A) (e := fun _ => true) p1.isList p2.isList (by simp only [List.size_toArray]; omega) (by omega) (fun j h1 h2 => ?_) _ _ _ _ (by rw [all_tt]; exact fin)
  simp only [List.size_toArray] at h1 h2
  have hj : j < ps.length := by rw [List.length_map] at l1; omega
  have e0 : (ps.map V.ref)[j]? = some (V.ref ps[j]) := by rw [List.getElem?_map, List.getElem?_eq_getElem hj]; rfl
  obtain ⟨u, hu1, ru⟩ := r1.get e0
  obtain ⟨v, hv1, rv⟩ := r2.get e0
  cases ru
  cases rv
  have hu' : us.toArray[j] = Value.ref ps[j] := by
    rw [List.getElem?_eq_getElem h1] at hu1; simpa using hu1
  have hv' : vs.toArray[j] = Value.ref ps[j] := by
    rw [List.getElem?_eq_getElem h2] at hv1; simpa using hv1
  rw [hu', hv']
  exact SeqAt.EqAt.same _
theorem Inv.turned2 {pins : List (Addr × Obj)} {σ : St} {H : Hp} {s : Shared} {h' : Heap} {t' : Nat} {a b : Addr} (I : Inv X pins σ H s) (k : ∀ c o, c ≠ a → c ≠ b → s.heap.get? c = some o → h'.get? c = some o) (fa : FpOk X pins H a) (fb : FpOk X pins H b) : Inv X pins σ H { s with heap := h', toks := t' } := by
  have na : ∀ c u, H c = some u → c ≠ a := fun c u e z => by rw [z, fa.1] at e; cases e
  have nb : ∀ c u, H c = some u → c ≠ b := fun c u e z => by rw [z, fb.1] at e; cases e
  have k2 : ∀ c o, c ∉ [a, b] → s.heap.get? c = some o → h'.get? c = some o := fun c o hc e => k c o (fun z => hc (by simp [z])) (fun z => hc (by simp [z])) e
  refine I.step (g' := s.gens) (d' := s.drawn) (ch := [a, b]) (fun c hc => ?_) (fun c o _ _ hc e _ => k2 c o hc e) (fun c o _ _ hc e _ => ⟨o.slots, k2 c o hc e⟩) (fun _ _ _ _ n => n)
    (fun c o hc e => ⟨o, k2 c o hc e⟩) (fun _ _ e => e) (fun _ _ _ e => e) (fun c ps e => ⟨#[], by rw [e]; simp⟩) (fun m hm => ?_) (fun c u e => ?_) I.bare
  · obtain ⟨_, a1, _, a3, a4, a5⟩ := fa
    obtain ⟨_, b1, _, b3, b4, b5⟩ := fb
    have e : c = a ∨ c = b := by simpa using hc
    rcases e with e | e <;> subst e
    · exact ⟨a3, a1, a4, a5⟩
    · exact ⟨b3, b1, b4, b5⟩
  · obtain ⟨o, es, ep, ho, r⟩ := hm
    exact ⟨o, es, ep, k _ o (Ne.symm fa.2.1) (Ne.symm fb.2.1) ho, r⟩
  · refine (I.hok c u e).stay (fun d v hd q => k d v ?_ ?_ q) (fun _ q => q) fun _ _ q => q
    · rcases hd with z | z
      · rw [z]; exact na c u e
      · exact na d _ z
    · rcases hd with z | z
      · rw [z]; exact nb c u e
      · exact nb d _ z
end
def SqK (K : PySem.W.Frag) (k : Bool) (H : Hp) (a : Addr) (xs : List V) : Prop := if k then SqL K H a xs else SqT K H a xs
def Ien (K : PySem.W.Frag) (k : Bool) (a : Addr) : It :=
  ⟨fun i H => ∃ xs x, SqK K k H a xs ∧ xs[i]? = some x, fun i H x H' => ∃ t y, H t = none ∧ x = .ref t ∧ (∀ xs, SqK K k H a xs → xs[i]? = some y) ∧ H' = upd H t (.tup [.int i, y]), fun i H => ∃ xs, SqK K k H a xs ∧ xs.length ≤ i⟩
theorem sqk_inj {X : Cx} {pins : List (Addr × Obj)} {σ : St} {H : Hp} {s : Shared} {k : Bool} {a : Addr} {xs ys : List V} (I : Inv X pins σ H s) (h : SqK X.K k H a xs) (g : SqK X.K k H a ys) : xs = ys := by
  cases k
  · exact I.tuple_inj h g
  · exact I.list_inj h g
def Inn (k : Bool) (j a : Addr) (i : Nat) (h : Heap) : Prop := if k then h.IsListIter j a i else h.IsTupleIter j a i
theorem inn_obj {k : Bool} {j a : Addr} {i : Nat} {h : Heap} (st : Inn k j a i h) : ∃ o, h.get? j = some o ∧ ∀ v, o.data ≠ .cell v := by
  cases k
  · obtain ⟨o, e, c, d⟩ := (show h.IsTupleIter j a i from st)
    exact ⟨o, e, fun v z => by rw [d] at z; cases z⟩
  · obtain ⟨o, e, c, d⟩ := (show h.IsListIter j a i from st)
    exact ⟨o, e, fun v z => by rw [d] at z; cases z⟩
theorem inn_keep {k : Bool} {j a : Addr} {i : Nat} {h h' : Heap} (st : Inn k j a i h) (e : ∀ o, h.get? j = some o → h'.get? j = some o) : Inn k j a i h' := by
  cases k
  · obtain ⟨o, q, r⟩ := (show h.IsTupleIter j a i from st)
    exact ⟨o, e o q, r⟩
  · obtain ⟨o, q, r⟩ := (show h.IsListIter j a i from st)
    exact ⟨o, e o q, r⟩
theorem inn_draw {X : Cx} {pins : List (Addr × Obj)} {σ : St} {H : Hp} {s : Shared} {k : Bool} {j a : Addr} {xs : List V} (hc : X.calm = true) (I : Inv X pins σ H s) (hq : SqK X.K k H a xs) (nja : a ≠ j) :
    ∃ its : List Value, Vals xs its ∧ ∃ St : Nat → Heap → Prop, Draws X.prog X.w X.A.in1 j [j, a] its.length (fun i v => its[i]? = some v) St ∧ (∀ i, Inn k j a i s.heap → St i s.heap) ∧ ∀ i h, St i h → Inn k j a i h := by
  have hh : X.A.in1.handled = none := I.ok.hd hc
  cases k
  · obtain ⟨its, rv, p, _⟩ := I.tuple (show SqT X.K H a xs from hq)
    have D := drw_tup (prog := X.prog) (w := X.w) (B := X.A.in1) hh j a nja its.toArray
    refine ⟨its, rv, fun i h => h.IsTupleIter j a i ∧ h.IsTuple a its.toArray, ?_, fun i st => ⟨st, p⟩, fun i h st => st.1⟩
    simpa using D
  · obtain ⟨its, rv, p, _⟩ := I.list (show SqL X.K H a xs from hq)
    have D := Draws.list (prog := X.prog) (w := X.w) (A := X.A.in1) hh j a nja its.toArray
    refine ⟨its, rv, fun i h => h.IsListIter j a i ∧ h.IsList a its.toArray, ?_, fun i st => ⟨st, p.isList⟩, fun i h st => st.1⟩
    simpa using D
theorem turn_enum {P : Program} {w : World} {K : PySem.W.Frag} {elts : List Expr} {x1 : Nat} {pos : Pos} (k : Bool) (a e j : Addr) (nej : e ≠ j) (nae : a ≠ e) (naj : a ≠ j) :
    Turn P w K (.Tuple elts x1 pos) (Ien K k a) [e, j] e (fun i h => (∃ old, IsEnum h e j i old) ∧ Inn k j a i h) where
  mem := by simp
  obj := fun i h st b hb => by
    obtain ⟨⟨old, he⟩, hi⟩ := st
    have q : b = e ∨ b = j := by simpa using hb
    rcases q with q | q <;> subst q
    · exact ⟨_, he, fun v z => by
        have z' : Data.fields _ = Data.cell v := z
        cases z'⟩
    · exact inn_obj hi
  keep := fun i h h' st q => ⟨let ⟨old, he⟩ := st.1; ⟨old, q e (by simp) _ he⟩, inn_keep st.2 fun o z => q j (by simp) o z⟩
  item := by
    intro X hP hw hK hc i pins s σ H E I hf st hg
    subst hP hw hK
    obtain ⟨⟨old, he⟩, hi⟩ := st
    obtain ⟨xs, x, hq, hx⟩ := hg
    obtain ⟨its, rv, St, D, d1, d2⟩ := inn_draw hc I hq naj
    obtain ⟨u, hu, ru⟩ := rv.get hx
    have fe := hf e (by simp)
    have fj := hf j (by simp)
    have hlt : i < its.length := (List.getElem?_eq_some_iff.mp hu).1
    have hel : e < s.heap.objs.size := Heap.lt_size he
    have hjl : j < s.heap.objs.size := by obtain ⟨o, z, _⟩ := inn_obj hi; exact Heap.lt_size z
    refine wpAny_pyNext_enum_itemD D he (d1 i hi) hlt nej (by simp [nej, Ne.symm nae]) fun y h1 tk hP out st1 ht hsz hk => ?_
    have hyu : y = u := Option.some.inj (hP.symm.trans hu)
    subst hyu
    refine ⟨_, rfl, ?_⟩
    refine wpAny_letOwnedTupleGo_enum out fun h2 he2 sb => ?_
    have hn : H s.heap.objs.size = none := I.hok.fresh (Nat.le_refl _)
    have I1 : Inv X pins σ (upd H s.heap.objs.size (.tup [.int i, x])) { s with heap := s.heap.push { cls := .type "tuple", data := .seq #[.int i tk, y] }, toks := tk + 1 } :=
      I.laid (t' := tk + 1) (o := .tup [.int i, x]) (fun b o q => Heap.get?_push_of_some _ q) (Nat.le_refl _)
        ⟨by show 2 ≤ sizeLine; rw [sizeLine_eq]; omega, [.int i tk, y], .cons ⟨_, rfl⟩ (.cons ru .nil), _, Heap.get?_push_size _ rfl, rfl, _, rfl⟩
    have ne1 : s.heap.objs.size ≠ e := Nat.ne_of_gt hel
    have ne2 : s.heap.objs.size ≠ j := Nat.ne_of_gt hjl
    have up : ∀ {b : Addr}, b ≠ s.heap.objs.size → FpOk X pins H b → FpOk X pins (upd H s.heap.objs.size (.tup [.int i, x])) b := fun nb f => ⟨by rw [upd_ne nb]; exact f.1, f.2⟩
    have I2 : Inv X pins σ (upd H s.heap.objs.size (.tup [.int i, x])) { s with heap := h2, toks := tk + 1 } :=
      Inv.turned2 (s := { s with heap := s.heap.push { cls := .type "tuple", data := .seq #[.int i tk, y] }, toks := tk + 1 }) (t' := tk + 1) (h' := h2) (a := e) (b := j) I1 (fun c o hce hcj q => by
        refine sb.extBut c o hce ?_
        rcases Heap.get?_push_cases (show (s.heap.push { cls := .type "tuple", data := .seq #[.int i tk, y] }).get? c = some o from q) with ⟨e1, e2⟩ | e1
        · rw [e1, e2]; exact ht
        · exact hk c o hce hcj e1) (up ne1.symm fe) (up ne2.symm fj)
    refine ⟨.ref s.heap.objs.size, _, I2, rfl, ⟨_, x, hn, rfl, fun ys hy => by rw [sqk_inj I hy hq]; exact hx, rfl⟩, ⟨⟨y, by simpa using he2⟩, inn_keep (d2 _ _ st1) fun o z => sb.extBut j o (Ne.symm nej) z⟩, fun b hb => ?_⟩
    have q : b = e ∨ b = j := by simpa using hb
    rcases q with q | q <;> subst q
    · exact (up ne1.symm fe).1
    · exact (up ne2.symm fj).1
  done := by
    intro X hP hw hK hc i pins s σ H E I hf st hg
    subst hP hw hK
    obtain ⟨⟨old, he⟩, hi⟩ := st
    obtain ⟨xs, hq, hx⟩ := hg
    obtain ⟨f0, f1, f2, f3, f4, f5⟩ := hf j (by simp)
    have key : ∀ (its : List Value), Vals xs its → (its.toArray)[i]? = none := fun its rv => by
      have := rv.length
      rw [List.getElem?_toArray]
      exact List.getElem?_eq_none_iff.mpr (by omega)
    have fin : ∀ h', Heap.ExtBut j s.heap h' → (none : Option Value) = none ∧ Inv X pins σ H { s with heap := h' } := fun h' eb => ⟨rfl, I.turned (t' := s.toks) (fun b o hb z => eb b o hb z) f0 f1 f3 f4 f5⟩
    have hT : s.TypeIs (.ref e) "enumerate" := ⟨_, he, rfl⟩
    unfold pyNext
    refine wpAny_bind (wpAny_attempt (wpAny_callSpecial?_slot (name := Str.ofString "__next__") hT F.slot_enumerate_next (wpAny_call_entry F.slot_enumerate_next hT F.entry_enumerate_next ?_ (F.args_enumerate_next_1 _))))
    show wpAny _ _ (field (Value.ref e) 2 >>= _) _ _ _
    refine wpAny_bind (wpAny_field he rfl (x := .ref j) rfl ?_)
    have nx : ∀ {Q : Value → Shared → Prop} {E' : Value → Shared → Prop}, (∀ h' z, Heap.ExtBut j s.heap h' → (∃ o, h'.get? z = some o ∧ o.cls = .type "StopIteration") → E' (.ref z) { s with heap := h' }) → wpAny (model X.prog X.w) X.A.in1 (Builtin.SmallTypes.nextOf (.ref j)) Q E' s := fun hE => by
      cases k
      · obtain ⟨its, rv, p, _⟩ := I.tuple (show SqT X.K H a xs from hq)
        exact nxt_tupE (I.ok.hd hc) hi p (key its rv) hE
      · obtain ⟨its, rv, p, _⟩ := I.list (show SqL X.K H a xs from hq)
        exact wpAny_nextOf_list_end (I.ok.hd hc) hi p.isList (key its rv) hE
    refine wpAny_bind (nx fun h' x he' hx' => ?_)
    obtain ⟨o, ho, hcl⟩ := hx'
    refine wpAny_bind (wpAny_isInstance (T := "StopIteration") (b := true) ⟨o, ho, hcl⟩ isSubtype_stop ?_)
    exact wpAny_pure (fin _ he')
  self := fun _ _ _ _ _ st h => let ⟨_, e⟩ := st.1; wpAny_pyIter_enum e h
section
variable {X : Cx} {l : Expr} {tl : TE} {p pos : Pos}
def iEnum (K : PySem.W.Frag) (tl : TA) : TI := fun σ H R => tl σ H fun vs H1 => ∃ a, vs = [.ref a] ∧ (((∃ xs, SqL K H1 a xs) ∧ R (Ien K true a) H1) ∨ ((∃ xs, SqT K H1 a xs) ∧ R (Ien K false a) H1))
theorem pi_enum {elts : List Expr} {x1 : Nat} {tpos : Pos} {ta : TA} (hg : Gl X "enumerate") (hm : X.mg "enumerate" = none) (hv : bootBuiltins "enumerate" = some (.type "enumerate")) (ha : PA X [l] ta) (hs : starEach [l] X.env = [(false, eval l X.env)] := by rfl) : PI X (.Tuple elts x1 tpos) (.Call (.Name "enumerate" p) [l] [] pos) (iEnum X.K ta) := by
  intro pins s σ H R I h
  refine Call_ (ld_blt I hg hm hv (PyProof.Rows.callWith_type1 (thn (ha pos pins s σ H _ I h) fun us s1 ⟨vs, H1, I1, r1, q1⟩ => ?_) hs rfl))
  obtain ⟨a, rfl, q⟩ := q1
  obtain ⟨u, rfl, ru⟩ := vals1 r1
  cases ru
  have fp : ∀ b, s1.heap.objs.size ≤ b → FpOk X pins H1 b := fun b hb => I1.fpOk hb (I1.hok.fresh hb)
  have fps : ∀ b ∈ [s1.heap.objs.size + 1, s1.heap.objs.size], FpOk X pins H1 b := fun b hb => by
    have z : b = s1.heap.objs.size + 1 ∨ b = s1.heap.objs.size := by simpa using hb
    rcases z with z | z <;> subst z
    · exact fp _ (Nat.le_succ _)
    · exact fp _ (Nat.le_refl _)
  rcases q with ⟨⟨xs, hq⟩, q⟩ | ⟨⟨xs, hq⟩, q⟩
  · obtain ⟨its, rv, pl, hz⟩ := I1.list hq
    have hlt : a < s1.heap.objs.size := by obtain ⟨o, e, _⟩ := pl.isList; exact Heap.lt_size e
    refine call_enumerate_list pl.isList fun h' e1 e2 e3 kp => wpAny_pyIter_enum e1 ?_
    exact ⟨_, _, _, _, H1, rfl, I1.kept (t' := s1.toks) kp, turn_enum true a _ _ (Nat.succ_ne_self _) (Nat.ne_of_lt (Nat.lt_succ_of_lt hlt)) (Nat.ne_of_lt hlt), ⟨⟨_, e1⟩, e2⟩, fps, q⟩
  · obtain ⟨its, rv, pl, hz⟩ := I1.tuple hq
    have hlt : a < s1.heap.objs.size := by obtain ⟨o, e, _⟩ := (show s1.heap.IsTuple a its.toArray from pl); exact Heap.lt_size e
    refine call_enuT (show s1.heap.IsTuple a its.toArray from pl) fun h' e1 e2 e3 kp => wpAny_pyIter_enum e1 ?_
    exact ⟨_, _, _, _, H1, rfl, I1.kept (t' := s1.toks) kp, turn_enum false a _ _ (Nat.succ_ne_self _) (Nat.ne_of_lt (Nat.lt_succ_of_lt hlt)) (Nat.ne_of_lt hlt), ⟨⟨_, e1⟩, e2⟩, fps, q⟩
end
abbrev ForX (J : It) (g : TG) (tb : TS) (D : Ends) (σ : St) (H : Hp) : Prop := ∃ W : Nat → Nat → St → Hp → Prop, (∃ m, W 0 m σ H) ∧ ∀ i m σ H, W i m σ H →
  (J.stop i H ∧ D.nx σ H) ∨ (J.go i H ∧ ∃ N : St → Hp → Prop, (∀ σ' H', N σ' H' → ∃ m', m' < m ∧ W (i + 1) m' σ' H') ∧ ∀ x H', J.yld i H x H' → g x σ H' fun σ2 H2 => tb { D with nx := N, ct := N, bk := D.nx } σ2 H2)
theorem for_enumK {K : PySem.W.Frag} {k : Bool} {a : Addr} {xs : List V} {g : TG} {tb : TS} {D : Ends} {σ : St} {H : Hp} (Pv : Nat → St → Hp → Prop) (h0 : Pv 0 σ H) (hl : ∀ i σ H, Pv i σ H → SqK K k H a xs)
    (hs : ∀ i x t σ H, xs[i]? = some x → H t = none → Pv i σ H → g (.ref t) σ (upd H t (.tup [.int i, x])) fun σ2 H2 => tb { D with nx := Pv (i + 1), ct := Pv (i + 1), bk := D.nx } σ2 H2) (hd : ∀ σ H, Pv xs.length σ H → D.nx σ H) : ForX (Ien K k a) g tb D σ H := by
  refine ⟨fun i m σ H => m = xs.length - i ∧ i ≤ xs.length ∧ Pv i σ H, ⟨xs.length, by simp, Nat.zero_le _, h0⟩, ?_⟩
  rintro i m σ H ⟨rfl, hi, p⟩
  have q := hl i σ H p
  by_cases hlt : i < xs.length
  · refine .inr ⟨⟨xs, xs[i], q, by simp [hlt]⟩, Pv (i + 1), fun σ' H' p' => ⟨xs.length - (i + 1), by omega, rfl, hlt, p'⟩, fun x H' y => ?_⟩
    obtain ⟨t, z, ht, ex, hz, eH⟩ := y
    subst ex eH
    exact hs i z t σ H (hz xs q) ht p
  · have e : i = xs.length := by omega
    subst e
    exact .inl ⟨⟨xs, q, Nat.le_refl _⟩, hd σ H p⟩
theorem for_enum {K : PySem.W.Frag} {a : Addr} {xs : List V} {g : TG} {tb : TS} {D : Ends} {σ : St} {H : Hp} (h : SqV H a xs) (Pv : Nat → St → Hp → Prop) (h0 : Pv 0 σ H) (hl : ∀ i σ H', Pv i σ H' → ∀ o, H a = some o → H' a = some o)
    (hs : ∀ i x t σ H, xs[i]? = some x → H t = none → Pv i σ H → g (.ref t) σ (upd H t (.tup [.int i, x])) fun σ2 H2 => tb { D with nx := Pv (i + 1), ct := Pv (i + 1), bk := D.nx } σ2 H2) (hd : ∀ σ H, Pv xs.length σ H → D.nx σ H) :
    (((∃ xs, SqL K H a xs) ∧ ForX (Ien K true a) g tb D σ H) ∨ ((∃ xs, SqT K H a xs) ∧ ForX (Ien K false a) g tb D σ H)) := by
  rcases h with h | h
  · exact .inl ⟨⟨xs, SqL.of h⟩, for_enumK (k := true) Pv h0 (fun i σ H' p => SqL.of (hl i σ H' p _ h)) hs hd⟩
  · exact .inr ⟨⟨xs, SqT.of h⟩, for_enumK (k := false) Pv h0 (fun i σ H' p => SqT.of (hl i σ H' p _ h)) hs hd⟩
end L2
namespace Hw
open PySem L2
abbrev Sm := Ps × Int
def ev (s : Sm) (f : Str → Int) : Int := s.2 + lin s.1 f
def SmV (C : Addr) (H : Hp) (v : V) (s : Sm) : Prop := ∃ p, v = .ref p ∧ SumAt C H p s.1 s.2
theorem SmV.hard {C : Addr} {H H' : Hp} {v : V} {s : Sm} (h : SmV C H v s) (k : Hard H H') : SmV C H' v s := let ⟨p, e, q⟩ := h; ⟨p, e, q.hard k⟩
abbrev Sms (C : Addr) (H : Hp) : List V → List Sm → Prop := Paired (SmV C H)
theorem Sms.hard {C : Addr} {H H' : Hp} {vs : List V} {ss : List Sm} (h : Sms C H vs ss) (k : Hard H H') : Sms C H' vs ss := Paired.mapP h fun _ _ q => q.hard k
def Gm (xs : List Str) (s : Sm) : Prop := Canon s.1 ∧ ∀ t ∈ keys s.1, t ∈ xs
theorem Gm.len {xs : List Str} {s : Sm} (h : Gm xs s) (hx : xs.length ≤ 3) : s.1.length ≤ 3 := by
  have := nodup_le (canon_nd h.1) h.2
  unfold keys at this
  rw [List.length_map] at this
  omega
theorem gat_gm {xs : List Str} {ps ts : Ps} {n : Int} (g : Gat ps ts) (h : ∀ t ∈ keys ps, t ∈ xs) : Gm xs (ts, n) := ⟨g.1, fun t ht => h t (g.keys ht)⟩
theorem keys_ap2 (a b : Ps) : keys (a ++ b) = keys a ++ keys b := List.map_append ..
theorem keys_map (a : Ps) (f : Str × Int → Int) : keys (a.map fun p => (p.1, f p)) = keys a := by unfold keys; rw [List.map_map]; rfl
theorem gm_plus {xs : List Str} {a b ts : Ps} {n m : Int} (h : Gm xs (a, n)) (h' : Gm xs (b, m)) (g : Gat (a ++ b) ts) : Gm xs (ts, n + m) ∧ ∀ f, ev (ts, n + m) f = ev (a, n) f + ev (b, m) f := by
  refine ⟨gat_gm g fun t ht => ?_, fun f => ?_⟩
  · rw [keys_ap2] at ht
    exact (List.mem_append.mp ht).elim (h.2 t) (h'.2 t)
  · show n + m + lin ts f = n + lin a f + (m + lin b f)
    rw [g.2, lin_append]; omega
theorem gm_less {xs : List Str} {a b ts : Ps} {n m : Int} (h : Gm xs (a, n)) (h' : Gm xs (b, m)) (g : Gat (a ++ b.map fun p => (p.1, -p.2)) ts) : Gm xs (ts, n - m) ∧ ∀ f, ev (ts, n - m) f = ev (a, n) f - ev (b, m) f := by
  refine ⟨gat_gm g fun t ht => ?_, fun f => ?_⟩
  · rw [keys_ap2, keys_map b fun p => -p.2] at ht
    exact (List.mem_append.mp ht).elim (h.2 t) (h'.2 t)
  · show n - m + lin ts f = n + lin a f - (m + lin b f)
    rw [g.2, lin_append, lin_neg]; omega
theorem gm_times {xs : List Str} {a ts : Ps} {n k : Int} (h : Gm xs (a, n)) (g : Gat (a.map fun p => (p.1, p.2 * k)) ts) : Gm xs (ts, n * k) ∧ ∀ f, ev (ts, n * k) f = ev (a, n) f * k := by
  refine ⟨gat_gm g fun t ht => ?_, fun f => ?_⟩
  · rw [keys_map a fun p => p.2 * k] at ht
    exact h.2 t ht
  · show n * k + lin ts f = (n + lin a f) * k
    rw [g.2, lin_smul, Int.add_mul]
theorem gm_num {xs : List Str} {ts : Ps} {n : Int} (g : Gat [] ts) : ts = [] ∧ Gm xs (ts, n) ∧ ∀ f, ev (ts, n) f = n := by
  have e : ts = [] := Canon.same g.1 Canon.nil g.2
  subst e
  exact ⟨rfl, ⟨Canon.nil, fun _ h => nomatch h⟩, fun f => by show n + 0 = n; omega⟩
theorem canon_map {a : Ps} {f : Str × Int → Int} (c : Canon a) (h : ∀ p ∈ a, f p ≠ 0) : Canon (a.map fun p => (p.1, f p)) := by
  refine ⟨?_, fun q hq => ?_⟩
  · rw [List.pairwise_map]
    exact c.up
  · obtain ⟨p, hp, rfl⟩ := List.mem_map.mp hq
    exact h p hp
theorem case_is {a c1 c : Ps} {k : Int} (ca : Canon a) (hk : 0 < k) (g1 : Gat (a.map fun p => (p.1, p.2 * k)) c1) (g2 : Gat (c1 ++ []) c) : c = a.map fun p => (p.1, p.2 * k) := by
  refine Canon.same g2.1 (canon_map (f := fun p => p.2 * k) ca fun p hp z => ?_) fun f => by rw [g2.2, List.append_nil, g1.2]
  rcases Int.mul_eq_zero.mp z with z | z
  · exact ca.nz p hp z
  · omega
def opp (s : Sm) : Sm := (s.1.map fun p => (p.1, -p.2), -s.2 - 1)
theorem ev_opp (s : Sm) (f : Str → Int) : ev (opp s) f = -ev s f - 1 := by
  show -s.2 - 1 + lin (s.1.map fun p => (p.1, -p.2)) f = -(s.2 + lin s.1 f) - 1
  rw [lin_neg]; omega
theorem gm_opp {xs : List Str} {s : Sm} (h : Gm xs s) : Gm xs (opp s) := by
  refine ⟨canon_map (f := fun p => -p.2) h.1 fun p hp z => h.1.nz p hp (by omega), fun t ht => h.2 t ?_⟩
  rw [← keys_map s.1 fun p => -p.2]
  exact ht
inductive Ln where
  | cut (k : Nat) (d : Int)
  | add (ws : List (Int × Nat))
def WkAt (H : Hp) (v : V) (p : Int × Nat) : Prop := ∃ q, v = .ref q ∧ H q = some (.tup [.int p.1, .int p.2])
def LnAt (H : Hp) (v : V) : Ln → Prop
  | .cut k d => ∃ a, v = .ref a ∧ SqV H a [.str "cut", .int k, .int d]
  | .add ws => ∃ a t us, v = .ref a ∧ SqV H a [.str "add", .ref t] ∧ H t = some (.tup us) ∧ Paired (WkAt H) us ws
theorem _root_.L2.SqV.same {H H' : Hp} {a : Addr} {xs : List V} (h : SqV H a xs) (s : Same H H') : SqV H' a xs := h.elim (fun z => .inl (s _ _ z)) fun z => .inr (s _ _ z)
theorem WkAt.same {H H' : Hp} {v : V} {p : Int × Nat} (h : WkAt H v p) (s : Same H H') : WkAt H' v p := let ⟨q, e, z⟩ := h; ⟨q, e, s _ _ z⟩
theorem LnAt.same {H H' : Hp} {v : V} (s : Same H H') : ∀ {l : Ln}, LnAt H v l → LnAt H' v l
  | .cut k d, ⟨a, e, q⟩ => ⟨a, e, q.same s⟩
  | .add ws, ⟨a, t, us, e, q, et, r⟩ => ⟨a, t, us, e, q.same s, s _ _ et, Paired.mapP r fun _ _ z => z.same s⟩
abbrev Lns (H : Hp) : List V → List Ln → Prop := Paired (LnAt H)
theorem Lns.same {H H' : Hp} {vs : List V} {ls : List Ln} (h : Lns H vs ls) (s : Same H H') : Lns H' vs ls := Paired.mapP h fun _ _ z => z.same s
def s0 : Sm := ([], 0)
def catP (ss : List Sm) : List (Int × Nat) → Ps
  | [] => []
  | p :: r => ((ss.getD p.2 s0).1.map fun q => (q.1, p.1 * q.2)) ++ catP ss r
def catN (ss : List Sm) : List (Int × Nat) → Int
  | [] => 0
  | p :: r => p.1 * (ss.getD p.2 s0).2 + catN ss r
theorem catP_snoc (ss : List Sm) (p : Int × Nat) : ∀ ws, catP ss (ws ++ [p]) = catP ss ws ++ ((ss.getD p.2 s0).1.map fun q => (q.1, p.1 * q.2))
  | [] => by simp [catP]
  | x :: r => by rw [List.cons_append, catP, catP, catP_snoc ss p r, List.append_assoc]
theorem catN_snoc (ss : List Sm) (p : Int × Nat) : ∀ ws, catN ss (ws ++ [p]) = catN ss ws + p.1 * (ss.getD p.2 s0).2
  | [] => by simp [catN]
  | x :: r => by rw [List.cons_append, catN, catN, catN_snoc ss p r]; omega
def evW (ss : List Sm) (f : Str → Int) : List (Int × Nat) → Int
  | [] => 0
  | p :: r => p.1 * ev (ss.getD p.2 s0) f + evW ss f r
theorem lin_smulL (k : Int) (a : Ps) (f : Str → Int) : lin (a.map fun q => (q.1, k * q.2)) f = k * lin a f := by
  have e : (a.map fun q => (q.1, k * q.2)) = a.map fun q => (q.1, q.2 * k) := List.map_congr_left fun q _ => by rw [Int.mul_comm]
  rw [e, lin_smul, Int.mul_comm]
theorem cat_ev (ss : List Sm) (f : Str → Int) : ∀ ws, catN ss ws + lin (catP ss ws) f = evW ss f ws
  | [] => rfl
  | p :: r => by
    have ih := cat_ev ss f r
    rw [catN, catP, evW, lin_append, lin_smulL, ← ih]
    unfold ev
    rw [Int.mul_add]; omega
theorem evW_app (ss : List Sm) (f : Str → Int) : ∀ a b, evW ss f (a ++ b) = evW ss f a + evW ss f b
  | [], b => by simp [evW]
  | p :: r, b => by rw [List.cons_append, evW, evW, evW_app ss f r b]; omega
def Rt (ss : List Sm) : Ln → Prop
  | .cut k d => 1 ≤ d ∧ d ≤ 5 ∧ ∃ s, ss[k]? = some s ∧ ∀ p ∈ s.1, p.2 % d = 0
  | .add ws => ws ≠ [] ∧ ws.length ≤ 5 ∧ ∀ p ∈ ws, 1 ≤ p.1 ∧ p.1 ≤ 3 ∧ p.2 < ss.length
def Is (ss : List Sm) : Ln → Sm → Prop
  | .cut k d, s => ∃ t, ss[k]? = some t ∧ s = (t.1.map fun q => (q.1, q.2 / d), t.2 / d)
  | .add ws, s => Gat (catP ss ws) s.1 ∧ s.2 = catN ss ws
theorem is_one {ss : List Sm} : ∀ {l : Ln} {s t : Sm}, Is ss l s → Is ss l t → s = t
  | .cut k d, s, t, ⟨a, e, h⟩, ⟨b, e', h'⟩ => by rw [e] at e'; cases e'; rw [h, h']
  | .add ws, s, t, ⟨g, h⟩, ⟨g', h'⟩ => Prod.ext (g.same g' fun _ => rfl) (h.trans h'.symm)
theorem getD_of {ss : List Sm} {k : Nat} {s : Sm} (h : ss[k]? = some s) : ss.getD k s0 = s := by rw [List.getD_eq_getElem?_getD, h]; rfl
theorem catP_in {xs : List Str} {ss : List Sm} (hg : ∀ s ∈ ss, Gm xs s) : ∀ {ws : List (Int × Nat)}, (∀ p ∈ ws, p.2 < ss.length) → ∀ t ∈ keys (catP ss ws), t ∈ xs
  | [], _, t, h => nomatch h
  | p :: r, hw, t, h => by
    rw [catP, keys_ap2, keys_map _ fun q => p.1 * q.2] at h
    rcases List.mem_append.mp h with h | h
    · have hp := hw p (List.mem_cons_self ..)
      rw [getD_of (List.getElem?_eq_getElem hp)] at h
      exact (hg _ (List.getElem_mem hp)).2 t h
    · exact catP_in hg (fun q hq => hw q (List.mem_cons_of_mem _ hq)) t h
theorem catP_len {xs : List Str} {ss : List Sm} (hx : xs.length ≤ 3) (hg : ∀ s ∈ ss, Gm xs s) : ∀ {ws : List (Int × Nat)}, (∀ p ∈ ws, p.2 < ss.length) → (catP ss ws).length ≤ 3 * ws.length
  | [], _ => Nat.le_refl _
  | p :: r, hw => by
    have hp := hw p (List.mem_cons_self ..)
    have ih := catP_len hx hg (ws := r) fun q hq => hw q (List.mem_cons_of_mem _ hq)
    have h3 := (hg _ (List.getElem_mem hp)).len hx
    rw [catP, List.length_append, List.length_map, getD_of (List.getElem?_eq_getElem hp), List.length_cons]
    omega
theorem div_nz {w d : Int} (hd : 1 ≤ d) (hw : w ≠ 0) (hm : w % d = 0) : w / d ≠ 0 := fun z => by
  have := Int.mul_ediv_add_emod w d
  rw [z, hm] at this
  omega
theorem is_gm {xs : List Str} {ss : List Sm} (hg : ∀ s ∈ ss, Gm xs s) : ∀ {l : Ln} {s : Sm}, Rt ss l → Is ss l s → Gm xs s
  | .cut k d, s, ⟨h1, _, a, ea, hm⟩, ⟨t, et, h⟩ => by
    rw [ea] at et
    cases et
    have G := hg a (List.mem_of_getElem? ea)
    rw [h]
    refine ⟨canon_map (f := fun q => q.2 / d) G.1 fun p hp => div_nz h1 (G.1.nz p hp) (hm p hp), fun t ht => G.2 t ?_⟩
    rw [← keys_map a.1 fun q => q.2 / d]
    exact ht
  | .add ws, s, ⟨_, _, hw⟩, ⟨g, h⟩ => gat_gm (n := s.2) g (catP_in hg fun p hp => (hw p hp).2.2)
def Ok : List Ln → List Sm → (List Sm → Prop) → Prop
  | [], ss, F => F ss
  | l :: r, ss, F => Rt ss l ∧ ∀ s, Is ss l s → Ok r (ss ++ [s]) F
theorem Ok.mono {F G : List Sm → Prop} (h : ∀ ss, F ss → G ss) : ∀ {ls : List Ln} {ss : List Sm}, Ok ls ss F → Ok ls ss G
  | [], _, k => h _ k
  | l :: r, _, ⟨a, b⟩ => ⟨a, fun s q => Ok.mono h (b s q)⟩
theorem Ok.snoc {F : List Sm → Prop} {l : Ln} : ∀ {ls : List Ln} {ss : List Sm}, Ok ls ss (fun ss' => Rt ss' l ∧ ∀ s, Is ss' l s → F (ss' ++ [s])) → Ok (ls ++ [l]) ss F
  | [], _, h => h
  | x :: r, _, ⟨a, b⟩ => ⟨a, fun s q => Ok.snoc (b s q)⟩
def Neg (ss : List Sm) : Prop := ∃ n, ss.getLast? = some ([], n) ∧ n < 0
def PapAt (C : Addr) (xs : List Str) : Nat → Hp → Addr → List Sm → Prop
  | 0, _, _, _ => False
  | n + 1, H, pp, ss => ∃ us ls vs, SqV H pp vs ∧ Lns H us ls ∧ ls.length ≤ 8 ∧
      ((vs = us ∧ Ok ls ss Neg) ∨ ∃ a p q1 q2 s, vs = us ++ [V.ref a] ∧ SqV H a [.str "split", .ref p, .ref q1, .ref q2] ∧ SumAt C H p s.1 s.2 ∧ Gm xs s ∧ Ok ls ss fun ss' => PapAt C xs n H q1 (ss' ++ [s]) ∧ PapAt C xs n H q2 (ss' ++ [opp s]))
theorem PapAt.same {C : Addr} {xs : List Str} {H H' : Hp} (s : Same H H') : ∀ {n : Nat} {pp : Addr} {ss : List Sm}, PapAt C xs n H pp ss → PapAt C xs n H' pp ss
  | 0, _, _, h => h
  | n + 1, pp, ss, ⟨us, ls, vs, h1, h2, h3, h4⟩ => by
    refine ⟨us, ls, vs, h1.same s, h2.same s, h3, ?_⟩
    rcases h4 with h4 | ⟨a, p, q1, q2, t, e, h5, h6, h7, h8⟩
    · exact .inl h4
    · exact .inr ⟨a, p, q1, q2, t, e, h5.same s, h6.same s, h7, h8.mono fun ss' q => ⟨PapAt.same s q.1, PapAt.same s q.2⟩⟩
structure TxP (K : PySem.W.Frag) (mg : Str → Option Value) : Prop where
  all : mg "all" = none
  set : mg "set" = none
  enumerate : mg "enumerate" = none
  bool : mg "bool" = none
  kIB : PySem.W.kitOne K (.type "int") (.type "bool") = some false
  kTL : PySem.W.kitOne K (.type "tuple") (.type "list") = some false
  most : ∃ t, mg "MOST_SPLITS" = some (.int 20 t)
theorem kit_int (K : PySem.W.Frag) : PySem.W.kitOne K (.type "int") (.type "int") = some true := by unfold PySem.W.kitOne; rw [if_pos (beq_self_eq_true _)]
def spSev : Sp := fun vs H Q _ => ∃ (a : Addr) (xs : List V), vs = [.ref a] ∧ SqV H a xs ∧ ∀ H', Same H H' → Q (.bl true) H'
def spIsNum : Sp := fun vs H Q _ => ∃ i : Int, vs = [.int i] ∧ Q (.bl true) H
def spFrom1 : Sp := fun vs H Q _ => ∃ i : Int, vs = [.int i] ∧ 1 ≤ i ∧ Q (.bl true) H
def spAhd : Sp := fun vs H Q _ => ∃ (L : Addr) (us : List V) (k : Nat), vs = [.ref L, .int k] ∧ H L = some (.lst us) ∧ k < us.length ∧ Q (.bl true) H
def spWeighed : Sp := fun vs H Q _ => ∃ (L q : Addr) (us : List V) (w : Int) (k : Nat), vs = [.ref L, .ref q] ∧ H L = some (.lst us) ∧ H q = some (.tup [.int w, .int k]) ∧ 1 ≤ w ∧ k < us.length ∧ ∀ H', Same H H' → Q (.bl true) H'
def spCanDiv (C : Addr) : Sp := fun vs H Q _ => ∃ (p : Addr) (ts : Ps) (n d : Int), vs = [.ref p, .int d] ∧ SumAt C H p ts n ∧ 1 ≤ d ∧ (∀ q ∈ ts, q.2 % d = 0) ∧ ∀ H', Same H H' → Q (.bl true) H'
def spIsTerm : Sp := fun vs H Q _ => ∃ (q : Addr) (t : Str) (w : Int), vs = [.ref q] ∧ H q = some (.tup [.str t, .int w]) ∧ w ≠ 0 ∧ Q (.bl true) H
def spIsSum (C : Addr) : Sp := fun vs H Q _ => ∃ (p : Addr) (ts : Ps) (n : Int), vs = [.ref p] ∧ SumAt C H p ts n ∧ Canon ts ∧ ts.length ≤ 3 ∧ ∀ H', Same H H' → Q (.bl true) H'
def spNever (C : Addr) : Sp := fun vs H Q _ => ∃ (p : Addr) (n : Int), vs = [.ref p] ∧ SumAt C H p [] n ∧ n < 0 ∧ Q (.bl true) H
def spIsSplit (C : Addr) : Sp := fun vs H Q _ => ∃ (a : Addr) (xs : List V), vs = [.ref a] ∧ SqV H a xs ∧
  ((xs.length ≠ 4 ∧ ∀ H', Same H H' → Q (.bl false) H') ∨ ∃ (p : Addr) (x y : V) (ts : Ps) (n : Int), xs = [.str "split", .ref p, x, y] ∧ SumAt C H p ts n ∧ Canon ts ∧ ts.length ≤ 3 ∧ ∀ H', Same H H' → Q (.bl true) H')
def spIsRight (C : Addr) : Sp := fun vs H Q _ => ∃ (L : Addr) (v : V) (us : List V) (ss : List Sm) (l : Ln), vs = [.ref L, v] ∧ H L = some (.lst us) ∧ Sms C H us ss ∧ LnAt H v l ∧ Rt ss l ∧ ∀ H', Same H H' → Q (.bl true) H'
def spLineOf (C : Addr) : Sp := fun vs H Q _ => ∃ (xs : List Str) (L : Addr) (v : V) (us : List V) (ss : List Sm) (l : Ln), vs = [.ref L, v] ∧ H L = some (.lst us) ∧ Sms C H us ss ∧ xs.length ≤ 3 ∧ (∀ s ∈ ss, Gm xs s) ∧ LnAt H v l ∧ Rt ss l ∧
  ∀ (r : Addr) (s : Sm) (H' : Hp), Same H H' → Is ss l s → SumAt C H' r s.1 s.2 → Q (.ref r) H'
def spDivided (C : Addr) : Sp := fun vs H Q _ => ∃ (p : Addr) (ts : Ps) (n d : Int), vs = [.ref p, .int d] ∧ SumAt C H p ts n ∧ 1 ≤ d ∧ d ≤ 5 ∧ ∀ (r : Addr) (H' : Hp), Same H H' → SumAt C H' r (ts.map fun q => (q.1, q.2 / d)) (n / d) → Q (.ref r) H'
def spTurnT : Sp := fun vs H Q _ => ∃ (t : Addr) (ts : Ps), vs = [.ref t] ∧ Tp H t ts ∧ ts.length ≤ 1000 ∧ ∀ (r : Addr) (H' : Hp), Same H H' → Tp H' r (ts.map fun q => (q.1, -q.2)) → Q (.ref r) H'
def spOther (C : Addr) : Sp := fun vs H Q _ => ∃ (p : Addr) (s : Sm), vs = [.ref p] ∧ SumAt C H p s.1 s.2 ∧ ∀ (r : Addr) (H' : Hp), Same H H' → SumAt C H' r (opp s).1 (opp s).2 → Q (.ref r) H'
def spEW (C : Addr) (n : Nat) : Sp := fun vs H Q _ => ∃ (xs : List Str) (L pp : Addr) (m : Int) (H0 : Hp) (us : List V) (ss : List Sm), vs = [.ref L, .ref pp, .int m] ∧ (n : Int) ≤ m + 1 ∧ H L = some (.lst us) ∧ Sms C H us ss ∧ xs.length ≤ 3 ∧ (∀ s ∈ ss, Gm xs s) ∧ us.length + 10 * n ≤ 60 ∧
  H0 L = none ∧ Same H0 H ∧ PapAt C xs n H0 pp ss ∧ ∀ H', But L H H' → Q (.bl true) H'
def spBoth2 (C : Addr) (n : Nat) : Sp := fun vs H Q _ => ∃ (xs : List Str) (L a p q1 q2 : Addr) (m : Int) (us : List V) (ss : List Sm) (s : Sm), vs = [.ref L, .ref a, .int m] ∧ (n : Int) ≤ m + 1 ∧ H L = some (.lst us) ∧ Sms C H us ss ∧ xs.length ≤ 3 ∧ (∀ s ∈ ss, Gm xs s) ∧ us.length + 1 + 10 * n ≤ 60 ∧
  SqV H a [.str "split", .ref p, .ref q1, .ref q2] ∧ SumAt C H p s.1 s.2 ∧ Gm xs s ∧ PapAt C xs n H q1 (ss ++ [s]) ∧ PapAt C xs n H q2 (ss ++ [opp s]) ∧ ∀ H', Same H H' → Q (.bl true) H'
def spRefutes (C : Addr) : Sp := fun vs H Q _ => ∃ (xs : List Str) (c pp : Addr) (us : List V) (ss : List Sm), vs = [.ref c, .ref pp] ∧ SqV H c us ∧ Sms C H us ss ∧ xs.length ≤ 3 ∧ (∀ s ∈ ss, Gm xs s) ∧ us.length ≤ 12 ∧ PapAt C xs 2 H pp ss ∧ ∀ H', Same H H' → Q (.bl true) H'
abbrev Dw := Sm × Int × Int
def DwOk (xs : List Str) (x : Dw) : Prop := Gm xs x.1 ∧ 1 ≤ x.2.1 ∧ x.2.1 ≤ 5 ∧ 0 ≤ x.2.2 ∧ x.2.2 < x.2.1
def DwAt (C : Addr) (H : Hp) (v : V) (x : Dw) : Prop := ∃ q p, v = .ref q ∧ H q = some (.tup [.ref p, .int x.2.1, .int x.2.2]) ∧ SumAt C H p x.1.1 x.1.2
theorem DwAt.hard {C : Addr} {H H' : Hp} {v : V} {x : Dw} (h : DwAt C H v x) (k : Hard H H') : DwAt C H' v x := let ⟨q, p, e, eq, s⟩ := h; ⟨q, p, e, k.t _ _ eq, s.hard k⟩
abbrev Dws (C : Addr) (H : Hp) : List V → List Dw → Prop := Paired (DwAt C H)
theorem Dws.hard {C : Addr} {H H' : Hp} {vs : List V} {xs : List Dw} (h : Dws C H vs xs) (k : Hard H H') : Dws C H' vs xs := Paired.mapP h fun _ _ q => q.hard k
def spLSums (C : Addr) : Sp := fun vs H Q _ => ∃ (d l : Addr) (xs : List Str) (m : Nat), vs = [.ref d, .ref l, .int m] ∧ Dr H d ∧ H l = some (.lst (xs.map V.str)) ∧ xs.length ≤ 3 ∧ m ≤ 3 ∧
  ∀ (r : Addr) (us : List V) (ds : List Dw) (H' : Hp), But d H H' → Dr H' d → H r = none → H' r = some (.lst us) → Dws C H' us ds → ds.length = m → (∀ x ∈ ds, DwOk xs x) → Q (.ref r) H'
def wsum (f : Str → Int) : List Int → List Dw → Int
  | w :: ws, x :: r => w * ev x.1 f + wsum f ws r
  | _, _ => 0
def Wts (ws : List Int) (n : Nat) : Prop := ws.length = n ∧ ∀ w ∈ ws, 1 ≤ w ∧ w ≤ 3
def spLLast (C : Addr) : Sp := fun vs H Q _ => ∃ (d l p : Addr) (xs : List Str) (us : List V) (ds : List Dw) (s : Sm), vs = [.ref d, .ref l, .ref p] ∧ Dr H d ∧ H l = some (.lst us) ∧ Dws C H us ds ∧ ds.length ≤ 3 ∧ (∀ x ∈ ds, DwOk xs x) ∧ xs.length ≤ 3 ∧ SumAt C H p s.1 s.2 ∧ Gm xs s ∧
  ∀ (q r wl : Addr) (t : Sm) (ws : List Int) (c : Int) (H' : Hp), But d H H' → Dr H' d → H q = none → H' q = some (.tup [.ref r, .ref wl]) → H wl = none → H' wl = some (.lst (ws.map V.int)) → SumAt C H' r t.1 t.2 → Gm xs t → Wts ws ds.length → c < 0 → (∀ f, ev t f = c - ev s f - wsum f ws ds) → Q (.ref q) H'
def spLBuilt (C : Addr) : Sp := fun vs H Q _ => ∃ (d l : Addr) (xs : List Str), vs = [.ref d, .ref l] ∧ Dr H d ∧ H l = some (.lst (xs.map V.str)) ∧ xs.length ≤ 3 ∧
  ∀ (r c pp : Addr) (us : List V) (ss : List Sm) (H' : Hp), But d H H' → Dr H' d → H' r = some (.tup [.ref c, .ref pp]) → H' c = some (.tup us) → Sms C H' us ss → us.length ≤ 5 → (∀ s ∈ ss, Gm xs s) → PapAt C xs 2 H' pp ss → (∀ f, ∃ s ∈ ss, ev s f < 0) → Q (.ref r) H'
def spLValue (C : Addr) : Sp := fun vs H Q _ => ∃ (p d : Addr) (ts ns : Ps) (n : Int), vs = [.ref p, .ref d] ∧ SumAt C H p ts n ∧ Nums H d ns ∧ (∀ t ∈ keys ts, t ∈ keys ns) ∧ ∀ H', Same H H' → Q (.int (n + lin ts (get ns))) H'
def BxAt (H : Hp) (xs : List Str) (v : V) : Prop := ∃ d ns, v = .ref d ∧ Nums H d ns ∧ keys ns = xs
theorem BxAt.same {H H' : Hp} {xs : List Str} {v : V} (h : BxAt H xs v) (s : Same H H') : BxAt H' xs v := let ⟨d, ns, e, n, k⟩ := h; ⟨d, ns, e, n.same s, k⟩
def spLBoxes : Sp := fun vs H Q _ => ∃ (l : Addr) (xs : List Str), vs = [.ref l, .int (-3), .int 3] ∧ H l = some (.lst (xs.map V.str)) ∧ xs.Nodup ∧ xs.length ≤ 3 ∧
  ∀ (r : Addr) (us : List V) (H' : Hp), Same H H' → H' r = some (.lst us) → us.length ≤ 343 → (∀ v ∈ us, BxAt H' xs v) → Q (.ref r) H'
def spLMet (C : Addr) : Sp := fun vs H Q _ => ∃ (c l : Addr) (xs : List Str) (us : List V) (ss : List Sm), vs = [.ref c, .ref l, .int 3] ∧ H c = some (.tup us) ∧ Sms C H us ss ∧ us.length ≤ 5 ∧ (∀ s ∈ ss, Gm xs s) ∧ H l = some (.lst (xs.map V.str)) ∧ xs.Nodup ∧ xs.length ≤ 3 ∧ (∀ f, ∃ s ∈ ss, ev s f < 0) ∧ ∀ H', Same H H' → Q (.bl false) H'
def spLTold (C : Addr) : Sp := fun vs H Q _ => ∃ (p : Addr) (ts : Ps) (n : Int), vs = [.ref p] ∧ SumAt C H p ts n ∧ ∀ (r : Addr) (H' : Hp), Same H H' → DueAt H' r ts n → Q (.ref r) H'
def spLAdded (C : Addr) : Sp := fun vs H Q _ => ∃ (xs : List Str) (L : Addr) (v : V) (us : List V) (ss : List Sm) (l : Ln), vs = [.ref L, v] ∧ H L = some (.lst us) ∧ Sms C H us ss ∧ xs.length ≤ 3 ∧ (∀ s ∈ ss, Gm xs s) ∧ LnAt H v l ∧ Rt ss l ∧
  ∀ (r q : Addr) (ps : Ps) (n : Int) (H' : Hp), Same H H' → H' r = some (.tup [.ref q, .int n]) → Lp H' q ps → ps.length < 64 → (∀ s, Is ss l s → s.2 = n ∧ ∀ ts, Gat ps ts → ts = s.1) → Q (.ref r) H'
def spLLines (C : Addr) : Sp := fun vs H Q _ => ∃ (xs : List Str) (c pp : Addr) (us : List V) (ss : List Sm), vs = [.ref c, .ref pp] ∧ H c = some (.tup us) ∧ Sms C H us ss ∧ xs.length ≤ 3 ∧ (∀ s ∈ ss, Gm xs s) ∧ us.length ≤ 12 ∧ PapAt C xs 2 H pp ss ∧ ∀ H', Same H H' → Q (.bl true) H'
def spLListed (C : Addr) : Sp := fun vs H Q _ => ∃ (xs : List Str) (pp : Addr) (ss : List Sm), vs = [.ref pp] ∧ PapAt C xs 2 H pp ss ∧ ∀ (r : Addr) (H' : Hp), Same H H' → PapAt C xs 2 H' r ss → Q (.ref r) H'
end Hw
namespace Hw
open PySem L2
theorem ixV {K : PySem.W.Frag} {H : Hp} {a : Addr} {xs : List V} {i : Int} {v : V} {Q : VK} (h : SqV H a xs) (e : atI xs i = some v) (q : Q v H) : rIx K (.ref a) (.int i) H Q := by
  rcases h with h | h
  · exact .inl ⟨a, xs, i, v, rfl, rfl, SqL.of h, e, q⟩
  · exact .inr (.inl ⟨a, xs, i, v, rfl, rfl, SqT.of h, e, q⟩)
theorem lenV {K : PySem.W.Frag} {H : Hp} {a : Addr} {xs : List V} (h : SqV H a xs) : SqL K H a xs ∨ SqT K H a xs := h.elim (fun z => .inl (SqL.of z)) fun z => .inr (SqT.of z)
theorem rep_snoc (i : Nat) : (List.replicate i true).map V.bl ++ [V.bl true] = (List.replicate (i + 1) true).map V.bl := by rw [List.replicate_succ', List.map_append]; rfl
theorem rep_all (n : Nat) : (List.replicate n true).all id = true := by rw [List.all_eq_true]; intro x hx; rw [(List.mem_replicate.mp hx).2]; rfl
theorem rep_len (i : Nat) : ((List.replicate i true).map V.bl).length = i := by rw [List.length_map, List.length_replicate]
theorem comp_sqV {K : PySem.W.Frag} {a : Addr} {xs : List V} {g : TG} {tt : TT} {te : TE} {σ0 : St} {H : Hp} {R : List V → Hp → Prop} (h : SqV H a xs) (Pv : Nat → List V → Hp → Prop) (h0 : Pv 0 [] H) (hS : ∀ i ys H', Pv i ys H' → ∀ o, H a = some o → H' a = some o)
    (hs : ∀ i v ys H', xs[i]? = some v → Pv i ys H' → g v σ0 H' fun σ2 H2 => Ext σ0 σ2 ∧ tt σ2 H2 fun b H3 => if b = true then te σ2 H3 fun v H4 => ys.length < sizeLine ∧ Pv (i + 1) (ys ++ [v]) H4 else Pv (i + 1) ys H3)
    (hd : ∀ ys H', Pv xs.length ys H' → R ys H') : ((∃ xs, SqL K H a xs) ∧ ∃ W : Nat → Nat → List V → Hp → Prop, (∃ m, W 0 m [] H) ∧ cWalk (Itl K a) g tt te σ0 W R) ∨ ((∃ xs, SqT K H a xs) ∧ ∃ W : Nat → Nat → List V → Hp → Prop, (∃ m, W 0 m [] H) ∧ cWalk (Itt K a) g tt te σ0 W R) := by
  rcases h with h | h
  · exact .inl ⟨⟨xs, SqL.of h⟩, comp_list (xs := xs) Pv h0 (fun i ys H' _ p => SqL.of (hS i ys H' p _ h)) hs hd⟩
  · exact .inr ⟨⟨xs, SqT.of h⟩, comp_tup (xs := xs) Pv h0 (fun i ys H' _ p => SqT.of (hS i ys H' p _ h)) hs hd⟩
theorem for_sqV {K : PySem.W.Frag} {a : Addr} {xs : List V} {g : TG} {tb : TS} {D : Ends} {σ : St} {H : Hp} (h : SqV H a xs) (Pv : Nat → St → Hp → Prop) (h0 : Pv 0 σ H) (hS : ∀ i σ H', Pv i σ H' → ∀ o, H a = some o → H' a = some o)
    (hs : ∀ i v σ H', xs[i]? = some v → Pv i σ H' → g v σ H' fun σ2 H2 => tb { D with nx := Pv (i + 1), ct := Pv (i + 1), bk := D.nx } σ2 H2) (hd : ∀ σ H', Pv xs.length σ H' → D.nx σ H') :
    ((∃ xs, SqL K H a xs) ∧ ForW (Itl K a) g tb D σ H) ∨ ((∃ xs, SqT K H a xs) ∧ ForW (Itt K a) g tb D σ H) := by
  rcases h with h | h
  · exact .inl ⟨⟨xs, SqL.of h⟩, for_list (xs := xs) Pv h0 (fun i σ H' _ p => SqL.of (hS i σ H' p _ h)) hs hd⟩
  · exact .inr ⟨⟨xs, SqT.of h⟩, for_tup (xs := xs) Pv h0 (fun i σ H' _ p => SqT.of (hS i σ H' p _ h)) hs hd⟩
theorem sm_at {C : Addr} {H : Hp} {us : List V} {ss : List Sm} (h : Sms C H us ss) {k : Nat} (hk : k < us.length) : ∃ p s, us[k]? = some (.ref p) ∧ ss[k]? = some s ∧ SumAt C H p s.1 s.2 := by
  have e := List.getElem?_eq_getElem hk
  obtain ⟨s, es, p, ep, S⟩ := paired_at h e
  rw [ep] at e
  exact ⟨p, s, e, es, S⟩
theorem keys_up {ts : Ps} (c : Canon ts) : (keys ts).Pairwise fun a b => lt a b = true := by
  unfold keys
  rw [List.pairwise_map]
  exact c.up
end Hw
namespace Hw
open PySem L2
theorem atI_m1 {α : Type} {xs : List α} {v : α} (h : 0 < xs.length) (e : xs[xs.length - 1]? = some v) : atI xs (-1) = some v := by
  have : xs = xs.dropLast ++ [v] := by
    have hn : xs ≠ [] := fun z => by rw [z] at h; cases h
    rw [List.getElem?_eq_getElem (by omega)] at e
    have e' : xs.getLast hn = v := by rw [List.getLast_eq_getElem]; exact Option.some.inj e
    rw [← e']
    exact (List.dropLast_concat_getLast hn).symm
  rw [this]
  exact atI_last _ _
end Hw
namespace Hw
open PySem L2
theorem none_but {d t : Addr} {H H' : Hp} (b : But d H H') (hd : Dr H' d) (h : H' t = none) : H t = none := by
  cases e : H t with
  | none => rfl
  | some o =>
    by_cases z : t = d
    · obtain ⟨_, _, q⟩ := hd
      rw [z, q] at h
      cases h
    · rw [b _ _ e z] at h
      cases h
theorem none_same {t : Addr} {H H' : Hp} (b : Same H H') (h : H' t = none) : H t = none := by
  cases e : H t with
  | none => rfl
  | some o => rw [b _ _ e] at h; cases h
theorem atI_0 {α : Type} (x : α) (ys : List α) : atI (x :: ys) 0 = some x := atI_nat (j := 0) rfl
theorem atI_z {α : Type} {xs : List α} {j : Nat} {v : α} (h : xs[j]? = some v) : atI xs (0 + (j : Int)) = some v := by rw [Int.zero_add]; exact atI_nat h
theorem wsum_snoc (f : Str → Int) (w : Int) (x : Dw) : ∀ {a : List Int} {b : List Dw}, a.length = b.length → wsum f (a ++ [w]) (b ++ [x]) = wsum f a b + w * ev x.1 f
  | [], [], _ => by show w * ev x.1 f + 0 = 0 + w * ev x.1 f; omega
  | [], _ :: _, h => nomatch h
  | _ :: _, [], h => nomatch h
  | p :: a, q :: b, h => by
    show p * ev q.1 f + wsum f (a ++ [w]) (b ++ [x]) = p * ev q.1 f + wsum f a b + w * ev x.1 f
    rw [wsum_snoc f w x (Nat.succ.inj h)]
    omega
theorem nums_put {H : Hp} {d : Addr} {e : Ps} {x : Str} {n : Int} (hn : x ∉ keys e) (f : ∀ t, -(2 ^ 64) < get e t ∧ get e t < 2 ^ 64) (hb : -3 ≤ n ∧ n ≤ 3) (h : H d = some (.dK (enc (put e x n)))) : Nums H d (put e x n) := by
  refine ⟨h, fun t => ?_⟩
  rw [get_put]
  by_cases q : x = t
  · rw [if_pos q]; constructor <;> omega
  · rw [if_neg q]; exact f t
theorem BxAt.but {H H' : Hp} {m : Addr} {xs : List Str} {v : V} {ys : List V} (h : BxAt H xs v) (b : But m H H') (e : H m = some (.lst ys)) : BxAt H' xs v := by
  obtain ⟨d, ns, rfl, N, k⟩ := h
  exact ⟨d, ns, rfl, ⟨b _ _ N.at_ (fun z => by rw [← z, N.at_] at e; cases e), N.fit⟩, k⟩
end Hw
namespace L2
open PySem PySem.Spec PyProof.Rows Hw
theorem ix_seqK {X : Cx} {K : PySem.W.Frag} (h : X.K = K) : IxR X (rIx K) := h ▸ ix_seq
end L2
namespace Hw
open PySem L2
theorem sqv_one {H : Hp} {a : Addr} {xs ys : List V} (h : SqV H a xs) (g : SqV H a ys) : xs = ys := by
  rcases h with h | h <;> rcases g with g | g <;> rw [h] at g <;> cases g <;> rfl
theorem ln_list {H H' : Hp} {a b : Addr} {zs : List V} (sq : SqV H a zs) (e : H' b = some (.lst zs)) (s : Same H H') : ∀ {l : Ln}, LnAt H (.ref a) l → LnAt H' (.ref b) l
  | .cut k d, ⟨a', ea, q⟩ => by
    cases ea
    rw [sqv_one sq q] at e
    exact ⟨b, rfl, .inl e⟩
  | .add ws, ⟨a', t, us, ea, q, et, r⟩ => by
    cases ea
    rw [sqv_one sq q] at e
    exact ⟨b, t, us, rfl, .inl e, s _ _ et, Paired.mapP r fun _ _ z => z.same s⟩
theorem ln_parts {H : Hp} {v : V} : ∀ {l : Ln}, LnAt H v l → ∃ a z ys, v = .ref a ∧ SqV H a (.str z :: ys) ∧ z ≠ "split"
  | .cut k d, ⟨a, e, q⟩ => ⟨a, "cut", _, e, q, by decide +kernel⟩
  | .add ws, ⟨a, t, us, e, q, _⟩ => ⟨a, "add", _, e, q, by decide +kernel⟩
theorem due_likeP {K : PySem.W.Frag} {H : Hp} {q r : Addr} {ts : Ps} {n : Int} (h : DueAt H q ts n) (g : DueAt H r ts n) : ∃ t u, H q = some (.tup [.ref t, .int n]) ∧ H r = some (.tup [.ref u, .int n]) ∧ Paired (Like K H 2) [.ref t, .int n] [.ref u, .int n] := by
  obtain ⟨t, et, vs, ev, rv⟩ := h
  obtain ⟨u, eu, ws, ew, rw'⟩ := g
  exact ⟨t, u, et, eu, .cons (.inr ⟨t, u, vs, ws, rfl, rfl, .inr ⟨SqT.of ev, SqT.of ew⟩, prs_like rv rw'⟩) (.cons (.inl ⟨rfl, rfl⟩) .nil)⟩
theorem paired_c {α : Type} {F R : V → V → Prop} {G : V → α → Prop} {D : V → α → Prop} (f : ∀ v y l, R v y → G v l → D y l) : ∀ {vs ys : List V} {ls : List α}, Paired R vs ys → Paired G vs ls → Paired D ys ls
  | _, _, _, .nil, .nil => .nil
  | _, _, _, .cons r t, .cons g t' => .cons (f _ _ _ r g) (paired_c (F := F) f t t')
theorem take_nin {xs : List Str} {i : Nat} {x : Str} (nd : xs.Nodup) (h : xs[i]? = some x) : x ∉ xs.take i := fun hm => by
  have := nd.sublist (List.take_sublist (i + 1) xs)
  rw [take_snoc h] at this
  exact (List.nodup_append.mp this).2.2 x hm x (List.mem_singleton.mpr rfl) rfl
theorem gat_canon {ps ts : Ps} (c : Canon ps) (g : Gat ps ts) : ts = ps := Canon.same g.1 c g.2
theorem str_at {xs : List Str} {i : Nat} {v : V} (h : (xs.map V.str)[i]? = some v) : ∃ x, xs[i]? = some x ∧ v = V.str x := by
  rw [List.getElem?_map] at h
  cases q : xs[i]? with
  | none => rw [q] at h; cases h
  | some y => rw [q] at h; cases h; exact ⟨y, rfl, rfl⟩
end Hw
namespace Hw
open PySem L2
theorem paired_split {α β : Type} {R : α → β → Prop} : ∀ {a b : List α} {ys : List β}, Paired R (a ++ b) ys → ∃ y1 y2, ys = y1 ++ y2 ∧ Paired R a y1 ∧ Paired R b y2
  | [], b, ys, h => ⟨[], ys, rfl, .nil, h⟩
  | x :: a, b, _, .cons r t => by
    obtain ⟨y1, y2, e, p, q⟩ := paired_split (a := a) (b := b) t
    exact ⟨_ :: y1, y2, by rw [e]; rfl, .cons r p, q⟩
end Hw
namespace Hw
open PySem L2
theorem _root_.L2.Ext.three {x y z : V} {r : L2.St} : Ext (none :: none :: none :: r) (some x :: some y :: some z :: r) := ⟨rfl, fun i v h => by
  match i with
  | 0 => cases h
  | 1 => cases h
  | 2 => cases h
  | i + 3 => exact h⟩
def mulS (x : Dw) : Sm := (x.1.1.map fun p => (p.1, p.2 * x.2.1), x.1.2 * x.2.1 + x.2.2)
theorem ev_mul (x : Dw) (f : Str → Int) : ev (mulS x) f = ev x.1 f * x.2.1 + x.2.2 := by
  show x.1.2 * x.2.1 + x.2.2 + lin (x.1.1.map fun p => (p.1, p.2 * x.2.1)) f = (x.1.2 + lin x.1.1 f) * x.2.1 + x.2.2
  rw [lin_smul, Int.add_mul]; omega
theorem gm_mul {xs : List Str} {x : Dw} (h : DwOk xs x) : Gm xs (mulS x) := by
  obtain ⟨g, h1, _⟩ := h
  refine ⟨canon_map (f := fun p => p.2 * x.2.1) g.1 fun p hp z => ?_, fun t ht => g.2 t ?_⟩
  · rcases Int.mul_eq_zero.mp z with z | z
    · exact g.1.nz p hp z
    · omega
  · rw [← keys_map x.1.1 fun p => p.2 * x.2.1]
    exact ht
theorem mul_one {x : Dw} (h : x.2.1 = 1) (h0 : 0 ≤ x.2.2) (h1 : x.2.2 < x.2.1) : mulS x = x.1 := by
  obtain ⟨⟨a, n⟩, d, r⟩ := x
  have h : d = 1 := h
  have h1 : r < d := h1
  have h0 : 0 ≤ r := h0
  subst h
  have hr : r = 0 := by omega
  subst hr
  show ((a.map fun p => (p.1, p.2 * 1)), n * 1 + 0) = (a, n)
  have e : (a.map fun p => (p.1, p.2 * 1)) = a := by
    have : (fun p : Str × Int => (p.1, p.2 * 1)) = id := by funext p; simp
    rw [this, List.map_id]
  rw [e]; simp
theorem cut_mul {ss : List Sm} {k : Nat} {x : Dw} {s : Sm} (h1 : 1 ≤ x.2.1) (h0 : 0 ≤ x.2.2) (hl : x.2.2 < x.2.1) (e : ss[k]? = some (mulS x)) (h : Is ss (.cut k x.2.1) s) : s = x.1 := by
  obtain ⟨t, et, rfl⟩ := h
  rw [e] at et
  cases et
  obtain ⟨⟨a, n⟩, d, r⟩ := x
  have h1 : 1 ≤ d := h1
  have hl : r < d := hl
  have h0 : 0 ≤ r := h0
  show (((a.map fun p => (p.1, p.2 * d)).map fun q => (q.1, q.2 / d)), (n * d + r) / d) = (a, n)
  have hd : d ≠ 0 := by omega
  have e1 : ((a.map fun p => (p.1, p.2 * d)).map fun q => (q.1, q.2 / d)) = a := by
    rw [List.map_map]
    have : ((fun q : Str × Int => (q.1, q.2 / d)) ∘ fun p : Str × Int => (p.1, p.2 * d)) = id := by
      funext p
      show (p.1, p.2 * d / d) = p
      rw [Int.mul_ediv_cancel _ hd]
    rw [this, List.map_id]
  have e2 : (n * d + r) / d = n := by
    rw [Int.add_comm, Int.add_mul_ediv_right _ _ hd, Int.ediv_eq_zero_of_lt h0 hl]; omega
  rw [e1, e2]
theorem rt_mul {ss : List Sm} {k : Nat} {x : Dw} {xs : List Str} (h : DwOk xs x) (e : ss[k]? = some (mulS x)) : Rt ss (.cut k x.2.1) :=
  ⟨h.2.1, h.2.2.1, mulS x, e, fun p hp => by
    obtain ⟨q, _, rfl⟩ := List.mem_map.mp hp
    exact Int.mul_emod_left _ _⟩
abbrev Ed := Sm × List Int
def EdAt (C d en : Addr) (H : Hp) (v : V) (e : Ed) : Prop := ∃ q r wl, v = .ref q ∧ H q = some (.tup [.ref r, .ref wl]) ∧ SumAt C H r e.1.1 e.1.2 ∧ H wl = some (.lst (e.2.map V.int)) ∧ wl ≠ d ∧ wl ≠ en
theorem EdAt.keep {C d en : Addr} {H H' : Hp} {v : V} {e : Ed} (h : EdAt C d en H v e) (k : Hard H H') (b : ∀ b o, H b = some o → b ≠ d → b ≠ en → H' b = some o) : EdAt C d en H' v e :=
  let ⟨q, r, wl, e1, e2, e3, e4, e5, e6⟩ := h
  ⟨q, r, wl, e1, k.t _ _ e2, e3.hard k, b _ _ e4 e5 e6, e5, e6⟩
theorem EdAt.same {C d en : Addr} {H H' : Hp} {v : V} {e : Ed} (h : EdAt C d en H v e) (s : Same H H') : EdAt C d en H' v e := h.keep (Hard.of s) fun b o z _ _ => s _ _ z
def EdOk (xs : List Str) (ds : List Dw) (more : Sm) (e : Ed) : Prop := Gm xs e.1 ∧ Wts e.2 ds.length ∧ ∃ c, c < 0 ∧ ∀ f, ev e.1 f = c - ev more f - wsum f e.2 ds
def CutT (H : Hp) (v : V) (p : Nat × Int) : Prop := ∃ a, v = .ref a ∧ H a = some (.tup [.str "cut", .int p.1, .int p.2])
theorem CutT.hard {H H' : Hp} {v : V} {p : Nat × Int} (h : CutT H v p) (k : Hard H H') : CutT H' v p := let ⟨a, e, q⟩ := h; ⟨a, e, k.t _ _ q⟩
def cutL (l : List (Nat × Int)) : List Ln := l.map fun p => .cut p.1 p.2
theorem cut_lns {H : Hp} : ∀ {us : List V} {cs : List (Nat × Int)}, Paired (CutT H) us cs → Lns H us (cutL cs)
  | _, _, .nil => .nil
  | _, _, .cons h t => .cons (let ⟨a, e, q⟩ := h; ⟨a, e, .inr q⟩) (cut_lns t)
def InAt (H : Hp) (v : V) (ws : List (Int × Nat)) : Prop := ∃ a b t us, v = .ref a ∧ H a = some (.tup [.ref b]) ∧ H b = some (.tup [.str "add", .ref t]) ∧ H t = some (.tup us) ∧ Paired (WkAt H) us ws
theorem WkAt.hard {H H' : Hp} {v : V} {p : Int × Nat} (h : WkAt H v p) (s : Hard H H') : WkAt H' v p := let ⟨q, e, z⟩ := h; ⟨q, e, s.t _ _ z⟩
theorem InAt.hard {H H' : Hp} {v : V} {ws : List (Int × Nat)} (h : InAt H v ws) (k : Hard H H') : InAt H' v ws := let ⟨a, b, t, us, e, e1, e2, e3, p⟩ := h; ⟨a, b, t, us, e, k.t _ _ e1, k.t _ _ e2, k.t _ _ e3, Paired.mapP p fun _ _ z => z.hard k⟩
def Plc (xs : List Str) (ds : List Dw) (SS : List Sm) (i m : Nat) (pls : List Nat) (ss' : List Sm) : Prop :=
  ∃ ad, ss' = SS ++ ad ∧ ad.length = m ∧ (∀ s ∈ ad, Gm xs s) ∧ ∀ j x, j < i → ds[j]? = some x → ∃ k, pls[j]? = some k ∧ ss'[k]? = some x.1
def zipW : List Int → List Nat → List (Int × Nat)
  | w :: ws, k :: r => (w, k) :: zipW ws r
  | _, _ => []
theorem zipW_len : ∀ {a : List Int} {b : List Nat}, a.length = b.length → (zipW a b).length = a.length
  | [], [], _ => rfl
  | [], _ :: _, h => nomatch h
  | _ :: _, [], h => nomatch h
  | x :: a, y :: b, h => by show (zipW a b).length + 1 = a.length + 1; rw [zipW_len (Nat.succ.inj h)]
theorem zipW_mem : ∀ {a : List Int} {b : List Nat} {p : Int × Nat}, p ∈ zipW a b → p.1 ∈ a ∧ p.2 ∈ b
  | x :: a, y :: b, p, h => by
    rcases List.mem_cons.mp (show p ∈ (x, y) :: zipW a b from h) with e | e
    · rw [e]; exact ⟨List.mem_cons_self .., List.mem_cons_self ..⟩
    · have := zipW_mem e
      exact ⟨List.mem_cons_of_mem _ this.1, List.mem_cons_of_mem _ this.2⟩
  | [], _, _, h => nomatch h
  | _ :: _, [], _, h => nomatch h
theorem zipW_ev (f : Str → Int) (ss : List Sm) : ∀ {ws : List Int} {pls : List Nat} {ds : List Dw}, ws.length = ds.length → (∀ (j : Nat) (x : Dw), ds[j]? = some x → ∃ k, pls[j]? = some k ∧ ss[k]? = some x.1) → evW ss f (zipW ws pls) = wsum f ws ds
  | [], _, [], _, _ => by unfold zipW; rfl
  | [], _, _ :: _, h, _ => nomatch h
  | _ :: _, _, [], h, _ => nomatch h
  | w :: ws, pls, x :: ds, h, hp => by
    obtain ⟨k, e1, e2⟩ := hp 0 x rfl
    cases pls with
    | nil => cases e1
    | cons k' pls =>
      cases e1
      show w * ev (ss.getD k s0) f + evW ss f (zipW ws pls) = w * ev x.1 f + wsum f ws ds
      rw [getD_of e2, zipW_ev f ss (Nat.succ.inj h) fun j y hy => hp (j + 1) y hy]
theorem const_neg {s : Sm} {c : Int} (h : Canon s.1) (e : ∀ f, ev s f = c) : s = ([], c) := by
  have e0 := e fun _ => 0
  have z : ∀ a : Ps, lin a (fun _ => 0) = 0 := fun a => by
    induction a with
    | nil => rfl
    | cons p r ih => rw [lin, ih]; simp
  have e1 : s.2 = c := by
    have : s.2 + lin s.1 (fun _ => 0) = c := e0
    rw [z] at this
    omega
  have e2 : s.1 = [] := Canon.same h Canon.nil fun f => by
    have : s.2 + lin s.1 f = c := e f
    show lin s.1 f = 0
    omega
  exact Prod.ext e2 e1
theorem end_neg {xs : List Str} {ss : List Sm} {ws : List (Int × Nat)} {c : Int} (hc : c < 0) (hg : ∀ s ∈ ss, Gm xs s) (h : ∀ f, evW ss f ws = c) (hr : Rt ss (.add ws)) : Ok [.add ws] ss Neg := by
  refine ⟨hr, fun s hs => ?_⟩
  have e : s = ([], c) := const_neg hs.1.1 fun f => by
    show s.2 + lin s.1 f = c
    rw [hs.1.2, hs.2, cat_ev]
    exact h f
  subst e
  exact ⟨c, by simp, hc⟩
theorem wsum_pos (f : Str → Int) : ∀ {ws : List Int} {ds : List Dw}, (∀ w ∈ ws, 1 ≤ w) → (∀ x ∈ ds, 0 ≤ ev x.1 f) → 0 ≤ wsum f ws ds
  | [], _, _, _ => by unfold wsum; exact Int.le_refl _
  | _ :: _, [], _, _ => by unfold wsum; exact Int.le_refl _
  | w :: ws, x :: ds, hw, hd => by
    show 0 ≤ w * ev x.1 f + wsum f ws ds
    have h1 := wsum_pos f (ws := ws) (ds := ds) (fun w h => hw w (List.mem_cons_of_mem _ h)) fun x h => hd x (List.mem_cons_of_mem _ h)
    have h2 : 0 ≤ w * ev x.1 f := Int.mul_nonneg (by have := hw w (List.mem_cons_self ..); omega) (hd x (List.mem_cons_self ..))
    omega
theorem mul_pos {xs : List Str} {x : Dw} (h : DwOk xs x) {f : Str → Int} (e : 0 ≤ ev (mulS x) f) : 0 ≤ ev x.1 f := by
  rw [ev_mul] at e
  obtain ⟨_, h1, _, h0, hl⟩ := h
  refine Int.not_lt.mp fun z => ?_
  have : ev x.1 f * x.2.1 ≤ -1 * x.2.1 := Int.mul_le_mul_of_nonneg_right (by omega) (by omega)
  omega
theorem no_meet {xs : List Str} {ds : List Dw} {Es : List Ed} {more : Nat → Sm} (hd : ∀ x ∈ ds, DwOk xs x) (he : ∀ j e, Es[j]? = some e → EdOk xs ds (more j) e) (f : Str → Int)
    (hm : (∃ e, Es[0]? = some e ∧ ev (more 0) f = 0) ∨ ∃ e e', Es[0]? = some e ∧ Es[1]? = some e' ∧ ev (more 1) f = -ev (more 0) f - 1) : ∃ s ∈ ds.map mulS ++ Es.map (·.1), ev s f < 0 := by
  refine Classical.byContradiction fun hn => ?_
  have all : ∀ s ∈ ds.map mulS ++ Es.map (·.1), 0 ≤ ev s f := fun s hs => Int.not_lt.mp fun z => hn ⟨s, hs, z⟩
  have hpos : ∀ x ∈ ds, 0 ≤ ev x.1 f := fun x hx => mul_pos (hd x hx) (all _ (List.mem_append_left _ (List.mem_map.mpr ⟨x, hx, rfl⟩)))
  have ge : ∀ j e, Es[j]? = some e → ev (more j) f < 0 := fun j e h => by
    obtain ⟨_, ⟨_, hw⟩, c, hc, hev⟩ := he j e h
    have h1 := all e.1 (List.mem_append_right _ (List.mem_map.mpr ⟨e, List.mem_of_getElem? h, rfl⟩))
    have h2 := wsum_pos f (ws := e.2) (ds := ds) (fun w h => (hw w h).1) hpos
    rw [hev] at h1
    omega
  rcases hm with ⟨e, h, z⟩ | ⟨e, e', h, h', z⟩
  · have := ge 0 e h; omega
  · have a := ge 0 e h
    have b := ge 1 e' h'
    omega
end Hw
namespace Hw
open PySem L2
theorem get_left {α : Type} {a b : List α} {k : Nat} {x : α} (h : a[k]? = some x) : (a ++ b)[k]? = some x := by
  rw [List.getElem?_append_left (List.getElem?_eq_some_iff.mp h).1]; exact h
theorem end_ok {xs : List Str} {ds : List Dw} {Es : List Ed} {SS ss' ex : List Sm} {M j : Nat} {pls : List Nat} {e : Ed} {more : Sm} {exw : List (Int × Nat)} (d3 : ds.length ≤ 3) (hp : Plc xs ds SS ds.length M pls ss') (hS : SS = ds.map mulS ++ Es.map (·.1)) (hg : ∀ s ∈ SS, Gm xs s)
    (ee : Es[j]? = some e) (ok : EdOk xs ds more e) (hpl : pls.length = ds.length) (hex : (ex = [] ∧ exw = [] ∧ ∀ f, ev more f = 0) ∨ ∃ m, ex = [m] ∧ exw = [(1, SS.length + M)] ∧ Gm xs m ∧ ∀ f, ev more f = ev m f) :
    Ok [.add (zipW e.2 pls ++ [(1, ds.length + j)] ++ exw)] (ss' ++ ex) Neg := by
  obtain ⟨ad, e1, al, ag, pj⟩ := hp
  obtain ⟨ge, ⟨wl, wb⟩, c, hc, hev⟩ := ok
  have hlen : ss'.length = SS.length + M := by rw [e1, List.length_append, al]
  have eEnd : ss'[ds.length + j]? = some e.1 := by
    rw [e1, hS, List.append_assoc, List.getElem?_append_right (by rw [List.length_map]; omega), List.length_map, show ds.length + j - ds.length = j by omega]
    refine get_left ?_
    rw [List.getElem?_map, ee]; rfl
  have exl : exw.length ≤ 1 ∧ ∀ p ∈ exw, p = (1, ss'.length) ∧ ex.length = 1 := by
    rcases hex with ⟨_, b, _⟩ | ⟨m, a, b, _⟩
    · rw [b]; exact ⟨Nat.zero_le _, fun _ h => nomatch h⟩
    · rw [a, b]; exact ⟨Nat.le_refl _, fun p hp => by rw [List.mem_singleton.mp hp, hlen]; exact ⟨rfl, rfl⟩⟩
  refine end_neg (xs := xs) hc (fun s hs => ?_) (fun f => ?_) ⟨fun z => ?_, ?_, fun p hp => ?_⟩
  · rw [e1] at hs
    rcases List.mem_append.mp hs with h | h
    · rcases List.mem_append.mp h with h | h
      · exact hg s h
      · exact ag s h
    · rcases hex with ⟨a, _, _⟩ | ⟨m, a, _, gm, _⟩
      · rw [a] at h; cases h
      · rw [a] at h; rw [List.mem_singleton.mp h]; exact gm
  · rw [evW_app, evW_app, zipW_ev f (ss' ++ ex) wl fun j x hx => ?_]
    · have e2 : evW (ss' ++ ex) f [(1, ds.length + j)] = ev e.1 f := by
        show 1 * ev ((ss' ++ ex).getD (ds.length + j) s0) f + 0 = _
        rw [getD_of (get_left eEnd)]; omega
      have e3 : evW (ss' ++ ex) f exw = ev more f := by
        rcases hex with ⟨a, b, z⟩ | ⟨m, a, b, _, z⟩
        · rw [b, z]; rfl
        · rw [a, b, z]
          show 1 * ev ((ss' ++ [m]).getD (SS.length + M) s0) f + 0 = _
          rw [getD_of (s := m) (by rw [List.getElem?_append_right (by omega), ← hlen]; simp)]; omega
      rw [e2, e3, hev]; omega
    · obtain ⟨k, a, b⟩ := pj j x (List.getElem?_eq_some_iff.mp hx).1 hx
      exact ⟨k, a, get_left b⟩
  · have := congrArg List.length z
    rw [List.length_append, List.length_append] at this
    simp at this
  · rw [List.length_append, List.length_append, zipW_len (by omega)]
    show e.2.length + 1 + exw.length ≤ 5
    omega
  · rcases List.mem_append.mp hp with h | h
    · rcases List.mem_append.mp h with h | h
      · obtain ⟨h1, h2⟩ := zipW_mem h
        obtain ⟨w1, w3⟩ := wb _ h1
        refine ⟨w1, w3, ?_⟩
        obtain ⟨i, hi⟩ := List.getElem?_of_mem h2
        have il : i < ds.length := by rw [← hpl]; exact (List.getElem?_eq_some_iff.mp hi).1
        obtain ⟨k, a, b⟩ := pj i _ il (List.getElem?_eq_getElem il)
        rw [hi] at a
        cases a
        have := (List.getElem?_eq_some_iff.mp b).1
        rw [List.length_append]; omega
      · rw [List.mem_singleton.mp h]
        refine ⟨by show (1 : Int) ≤ 1; decide, by show (1 : Int) ≤ 3; decide, ?_⟩
        have := (List.getElem?_eq_some_iff.mp eEnd).1
        rw [List.length_append]; show ds.length + j < _; omega
    · obtain ⟨a, b⟩ := exl.2 p h
      rw [a]
      refine ⟨by show (1 : Int) ≤ 1; decide, by show (1 : Int) ≤ 3; decide, ?_⟩
      rw [List.length_append]; show ss'.length < _; omega
theorem pap_plain {C : Addr} {xs : List Str} {ds : List Dw} {Es : List Ed} {SS : List Sm} {H : Hp} {pp a : Addr} {pas : List V} {cs : List (Nat × Int)} {pls : List Nat} {e : Ed} {b : Addr} {ws : List (Int × Nat)} (d3 : ds.length ≤ 3) (hs : SqV H pp (pas ++ [V.ref b])) (hc : Paired (CutT H) pas cs) (cl : cs.length ≤ 3)
    (hb : LnAt H (.ref b) (.add ws)) (hok : Ok (cutL cs) SS (Plc xs ds SS ds.length cs.length pls)) (hS : SS = ds.map mulS ++ Es.map (·.1)) (hg : ∀ s ∈ SS, Gm xs s) (ee : Es[0]? = some e) (ok : EdOk xs ds s0 e) (hpl : pls.length = ds.length) (hw : ws = zipW e.2 pls ++ [(1, ds.length + 0)] ++ []) : PapAt C xs 2 H pp SS := by
  refine ⟨pas ++ [V.ref b], cutL cs ++ [.add ws], _, hs, paired_snoc (cut_lns hc) hb, (by rw [List.length_append]; unfold cutL; rw [List.length_map]; show cs.length + 1 ≤ 8; omega), .inl ⟨rfl, Ok.snoc (hok.mono fun ss' h => ?_)⟩⟩
  have := end_ok (ex := []) (exw := []) d3 h hS hg ee ok hpl (.inl ⟨rfl, rfl, fun f => by show (0 : Int) + 0 = 0; rfl⟩)
  rw [← hw, List.append_nil] at this
  exact this
theorem pap_split {C : Addr} {xs : List Str} {ds : List Dw} {Es : List Ed} {SS : List Sm} {H : Hp} {pp a : Addr} {pas : List V} {cs : List (Nat × Int)} {pls : List Nat} {e e' : Ed} {p q1 q2 : Addr} {m m1 : Sm} {w1 w2 : List (Int × Nat)} (d3 : ds.length ≤ 3) (hs : SqV H pp (pas ++ [V.ref a])) (hc : Paired (CutT H) pas cs) (cl : cs.length ≤ 3)
    (ha : H a = some (.tup [.str "split", .ref p, .ref q1, .ref q2])) (Sp : SumAt C H p m.1 m.2) (gm : Gm xs m) (i1 : InAt H (.ref q1) w1) (i2 : InAt H (.ref q2) w2) (hok : Ok (cutL cs) SS (Plc xs ds SS ds.length cs.length pls)) (hS : SS = ds.map mulS ++ Es.map (·.1)) (hg : ∀ s ∈ SS, Gm xs s)
    (ee : Es[0]? = some e) (ok : EdOk xs ds m e) (ee' : Es[1]? = some e') (ok' : EdOk xs ds m1 e') (hm1 : ∀ f, ev m1 f = -ev m f - 1) (hpl : pls.length = ds.length) (hw1 : w1 = zipW e.2 pls ++ [(1, ds.length + 0)] ++ [(1, SS.length + cs.length)]) (hw2 : w2 = zipW e'.2 pls ++ [(1, ds.length + 1)] ++ [(1, SS.length + cs.length)]) : PapAt C xs 2 H pp SS := by
  have inn : ∀ {q : Addr} {w : List (Int × Nat)} {ss : List Sm}, InAt H (.ref q) w → Ok [.add w] ss Neg → PapAt C xs 1 H q ss := fun i o => by
    obtain ⟨a, b, t, us, ea, e1, e2, e3, pr⟩ := i
    cases ea
    exact ⟨[V.ref b], [.add _], [V.ref b], .inr e1, .cons ⟨b, t, us, rfl, .inr e2, e3, pr⟩ .nil, by show 1 ≤ 8; decide, .inl ⟨rfl, o⟩⟩
  refine ⟨pas, cutL cs, _, hs, cut_lns hc, (by unfold cutL; rw [List.length_map]; omega), .inr ⟨a, p, q1, q2, m, rfl, .inr ha, Sp, gm, hok.mono fun ss' h => ⟨inn i1 ?_, inn i2 ?_⟩⟩⟩
  · have := end_ok (ex := [m]) (exw := [(1, SS.length + cs.length)]) d3 h hS hg ee ok hpl (.inr ⟨m, rfl, rfl, gm, fun f => rfl⟩)
    rw [← hw1] at this
    exact this
  · have := end_ok (ex := [opp m]) (exw := [(1, SS.length + cs.length)]) d3 h hS hg ee' ok' hpl (.inr ⟨opp m, rfl, rfl, gm_opp gm, fun f => by rw [hm1, ev_opp]⟩)
    rw [← hw2] at this
    exact this
end Hw
namespace Hw
open PySem L2
theorem ixN_z {n j : Nat} (h : j < n) : ixN n (0 + (j : Int)) = some j := by
  rw [Int.zero_add]
  unfold ixN
  rw [if_pos (by omega), if_pos (by omega)]; simp
def zi (k : Nat) : V := V.int (k : Int)
theorem zi_at {pls : List Nat} {j k : Nat} (h : pls[j]? = some k) : (pls.map zi)[j]? = some (V.int (k : Int)) := by rw [List.getElem?_map, h]; rfl
theorem zipW_at : ∀ {a : List Int} {b : List Nat} {j : Nat} {w : Int} {k : Nat}, a[j]? = some w → b[j]? = some k → (zipW a b)[j]? = some (w, k)
  | _ :: _, _ :: _, 0, _, _, h, g => by cases h; cases g; rfl
  | _ :: a, _ :: b, j + 1, _, _, h, g => zipW_at (a := a) (b := b) (j := j) h g
  | [], _, _, _, _, h, _ => by simp at h
  | _ :: _, [], _, _, _, _, g => by simp at g
theorem set_last (l : List V) (x y : V) : (l ++ [x]).set l.length y = l ++ [y] := by
  rw [List.set_append_right _ _ (Nat.le_refl _)]
  simp
theorem sms_refs {C : Addr} {H : Hp} : ∀ {us : List V} {ss : List Sm}, Sms C H us ss → ∃ ps : List Addr, us = ps.map V.ref
  | _, _, .nil => ⟨[], rfl⟩
  | _, _, .cons ⟨p, e, _⟩ t => let ⟨ps, q⟩ := sms_refs t; ⟨p :: ps, by rw [e, q]; rfl⟩
def BtAt (C : Addr) (xs : List Str) (H : Hp) (v : V) : Prop := ∃ r c pp us ss, v = .ref r ∧ H r = some (.tup [.ref c, .ref pp]) ∧ H c = some (.tup us) ∧ Sms C H us ss ∧ us.length ≤ 5 ∧ (∀ s ∈ ss, Gm xs s) ∧ PapAt C xs 2 H pp ss ∧ ∀ f, ∃ s ∈ ss, ev s f < 0
theorem BtAt.same {C : Addr} {xs : List Str} {H H' : Hp} {v : V} (h : BtAt C xs H v) (s : Same H H') : BtAt C xs H' v :=
  let ⟨r, c, pp, us, ss, e, e1, e2, e3, e4, e5, e6, e7⟩ := h
  ⟨r, c, pp, us, ss, e, s _ _ e1, s _ _ e2, e3.hard (Hard.of s), e4, e5, e6.same s, e7⟩
end Hw
namespace Hw
open PySem L2
theorem sqL_same {K : PySem.W.Frag} {H H' : Hp} {a : Addr} {xs : List V} (h : SqL K H a xs) (s : Same H H') : SqL K H' a xs := by
  rcases h with (h | ⟨o, h⟩) | h
  · exact .inl (.inl (s _ _ h))
  · exact .inl (.inr ⟨o, s _ _ h⟩)
  · exact .inr h
end Hw
set_option maxHeartbeats 8000000
namespace Hw
open PySem L2 PyProof.Rows
def top (i : Nat) : Stmt := PySem.Challenge.pw_holdwright_k37_papers_refute.main.body.getD i (.Pass ⟨0, 0, 0, 0⟩)
end Hw
namespace Hw
open PySem L2 PyProof.Rows
section
variable {P : Program} {w : World} {K : PySem.W.Frag} {mg : Str → Option Value} {base : Heap}
abbrev sInit : Stmt := inClass (top 2) 0
theorem sc_Sum___init : FnScope ["self", "terms", "number"] ["self", "terms", "number"] (defScope sInit) := ⟨rfl, rfl, rfl, by decide +kernel, rfl, by decide +kernel, by decide +kernel⟩
theorem ok_init {f C : Addr} {fd : FuncData} (F : Fun K "__init__" "Sum.__init__" sInit f fd) (T : Txt K mg C)  : FnOk P w K mg base CX0 1 f fd ["self", "terms", "number"] (spInit C) := by
  refine F.ok sc_Sum___init (fun vs H Q E h => ?_) (fun cdv A outer s H vs Q E hr h => ?_)
  · obtain ⟨p, dx, l, n, ps, rfl, hp, hs, hz, k⟩ := h
    rfl
  · obtain ⟨p, dx, l, n, ps, rfl, hp, hs, hz, k⟩ := h
    have hu := hu_of hr
    rw [show defBody sInit = [_, _] from rfl]
    refine ⟨_, (pss_cons (ps_fld (pv 0) (pe_callTy call_tuple_of (by rfl) T.tuple boot_tuple (pa_cons (pe_comp (compSc_mk ["pair"] [] [] rfl (by decide +kernel) (by decide +kernel) (by with_unfolding_all rfl) (by exact trivial) (by rfl) rfl (by rfl)) rfl (pi_seq (pv 1)) (fun _ _ _ _ => (pg_name (i := 0) (show List.Nodup (["pair"] : List Str) by decide +kernel) rfl (Or.inl rfl) (Or.inr rfl))) (fun _ _ _ _ => pts_nil) (fun _ _ _ _ => (pe_callTy (call_tuple_ofK (K := K) rfl) (by rfl) T.tuple boot_tuple (pa_cons (pv 0) pa_nil)))) pa_nil)) rfl)
      (pss_one (ps_fld (pv 0) (pv 2) rfl))), ?_⟩
    refine ⟨_, rfl, l, rfl, comp_sq hs (fun i ys H' => H' = H ∧ Prs H ys (ps.take i)) ⟨rfl, .nil⟩ (fun i ys H' q => q.1 ▸ Kp.refl) ?_ ?_⟩
    · rintro i v pr ys H' hi ⟨a, rfl, ha⟩ ⟨rfl, hy⟩
      refine ⟨Ext.one, alwT ⟨_, rfl, a, _, rfl, .inr ⟨SqT.of ha, ?_, rfl, ?_⟩⟩⟩
      · rw [prs_len hy, List.length_take]
        exact line _ (by omega)
      · rw [take_snoc hi]
        exact prs_app hy (prs_one ⟨a, rfl, ha⟩)
    · rintro ys H' ⟨rfl, hy⟩ q hq
      rw [List.take_length] at hy
      refine ⟨q, _, rfl, .inl ⟨SqL.of upd_same, fun t ht => ?_⟩⟩
      have npq : p ≠ q := ne_of_none hp hq
      have h1 : upd H' q (.lst ys) p = some (.ins C dx []) := by rw [upd_ne npq]; exact hp
      have npt : p ≠ t := ne_of_none h1 ht
      refine ⟨_, rfl, p, C, dx, [], rfl, (by rw [upd_ne npt]; exact h1), T.cl, T.nT, (by show 0 < 1000; decide), ?_⟩
      refine ⟨_, rfl, _, rfl, p, C, dx, _, rfl, upd_same, T.cl, T.nN, (by show 1 < 1000; decide), ?_⟩
      have b : But p H' (upd (upd (upd (upd H' q (.lst ys)) t (.tup ys)) p (.ins C dx (putF "terms" (.ref t) []))) p (.ins C dx (sflds t n))) :=
        (((But.of (new hq)).new ht).trans But.upd).trans But.upd
      refine k _ b ⟨dx, t, upd_same, ⟨ys, ?_, hy.keep ?_⟩, hz⟩
      · rw [upd_ne npt.symm, upd_ne npt.symm, upd_same]
      · exact (Kp.but b (by intro xs; rw [hp]; intro z; cases z) (by intro xs; rw [hp]; intro z; cases z)).t
end
end Hw
namespace Hw
open PySem L2 PyProof.Rows
section
variable {P : Program} {w : World} {K : PySem.W.Frag} {mg : Str → Option Value} {base : Heap}
abbrev sPlus : Stmt := inClass (top 2) 2
theorem sc_Sum_plus : FnScope ["self", "other"] ["self", "other"] (defScope sPlus) := ⟨rfl, rfl, rfl, by decide +kernel, rfl, by decide +kernel, by decide +kernel⟩
theorem ok_plus {f C : Addr} {fd : FuncData} (F : Fun K "plus" "Sum.plus" sPlus f fd) (T : Txt K mg C) (d_sum : Dn P w K mg base 3 "sum_of" ["pairs", "number"] (spSumOf C)) : FnOk P w K mg base CX0 4 f fd ["self", "other"] (spPlus C) := by
  obtain ⟨f_sum, fd_sum, G_sum_of, mg_sum_of, kp_sum_of, b_sum_of⟩ := d_sum
  refine F.ok sc_Sum_plus (fun vs H Q E h => ?_) (fun cdv A outer s H vs Q E hr h => ?_)
  · obtain ⟨p, q, a, b, n, m, rfl, S1, S2, hz, k⟩ := h
    rfl
  · obtain ⟨p, q, a, b, n, m, rfl, S1, S2, hz, k⟩ := h
    have hu := hu_of hr
    rw [show defBody sPlus = [_] from rfl]
    refine ⟨_, (pss_one (ps_ret (pe_call G_sum_of (hr.mono (by decide)) rfl mg_sum_of kp_sum_of b_sum_of .nil pass0 (pa_cons (pe_op op_catU (pe_fld (pv 0) rfl) (pe_fld (pv 1) rfl)) (pa_cons (pe_op op_add (pe_fld (pv 0) rfl) (pe_fld (pv 1) rfl)) pa_nil))))), ?_⟩
    obtain ⟨dx, t1, hp, ⟨vs1, e1, r1⟩, z1⟩ := id S1
    obtain ⟨dx2, t2, hq, ⟨vs2, e2, r2⟩, z2⟩ := id S2
    have lz : vs1.length + vs2.length ≤ sizeLine := by
      rw [prs_len r1, prs_len r2]
      exact Nat.le_of_lt (line _ (by omega))
    have go : ∀ (r : Addr) (H' : Hp), Same H H' → Tp H' r (a ++ b) → ∃ (x : Addr) (nn : Int) (ps : Ps), [V.ref r, V.int (n + m)] = [.ref x, .int nn] ∧ Sq H' x ps ∧ ps.length < 64 ∧
        ∀ (r : Addr) (ts : Ps) (H2 : Hp), Same H' H2 → Gat ps ts → ts.length ≤ ps.length → SumAt C H2 r ts nn → Q (.ref r) H2 := fun r H' sm tp =>
      ⟨r, n + m, a ++ b, rfl, .inr tp, by rw [List.length_append]; exact hz, fun r2 ts H2 sm2 g l S => k r2 ts H2 (sm.trans sm2) g (by rw [List.length_append] at l; exact l) S⟩
    refine ⟨_, rfl, p, C, dx, _, _, rfl, hp, T.cl, T.nT, sflds_terms _ _, _, rfl, q, C, dx2, _, _, rfl, hq, T.cl, T.nT, sflds_terms _ _, t1, t2, vs1, vs2, rfl, rfl, SqT.of e1, SqT.of e2, lz, fun h0 => ?_, fun _ h0 => ?_, fun _ _ r hr' => ?_⟩
    · subst h0
      cases r1
      refine ⟨_, rfl, p, C, dx, _, _, rfl, hp, T.cl, T.nN, sflds_number _ _, _, rfl, q, C, dx2, _, _, rfl, hq, T.cl, T.nN, sflds_number _ _, _, _, rfl, rfl, ?_⟩
      exact go t2 H (Same.refl _) ⟨vs2, e2, r2⟩
    · subst h0
      cases r2
      refine ⟨_, rfl, p, C, dx, _, _, rfl, hp, T.cl, T.nN, sflds_number _ _, _, rfl, q, C, dx2, _, _, rfl, hq, T.cl, T.nN, sflds_number _ _, _, _, rfl, rfl, ?_⟩
      exact go t1 H (Same.refl _) ⟨vs1, e1, by rw [List.append_nil]; exact r1⟩
    · have sm : Same H (upd H r (.tup (vs1 ++ vs2))) := new hr'
      refine ⟨_, rfl, p, C, dx, _, _, rfl, sm _ _ hp, T.cl, T.nN, sflds_number _ _, _, rfl, q, C, dx2, _, _, rfl, sm _ _ hq, T.cl, T.nN, sflds_number _ _, _, _, rfl, rfl, ?_⟩
      exact go r _ sm ⟨_, upd_same, prs_app (r1.keep fun _ _ z => sm _ _ z) (r2.keep fun _ _ z => sm _ _ z)⟩
end
end Hw
namespace Hw
open PySem L2 PyProof.Rows
section
variable {P : Program} {w : World} {K : PySem.W.Frag} {mg : Str → Option Value} {base : Heap}
abbrev sTimes : Stmt := inClass (top 2) 4
theorem sc_Sum_times : FnScope ["self", "number"] ["self", "number"] (defScope sTimes) := ⟨rfl, rfl, rfl, by decide +kernel, rfl, by decide +kernel, by decide +kernel⟩
theorem ok_times {f C : Addr} {fd : FuncData} (F : Fun K "times" "Sum.times" sTimes f fd) (T : Txt K mg C) (d_sum : Dn P w K mg base 3 "sum_of" ["pairs", "number"] (spSumOf C)) : FnOk P w K mg base CX0 4 f fd ["self", "number"] (spTimes C) := by
  obtain ⟨f_sum, fd_sum, G_sum_of, mg_sum_of, kp_sum_of, b_sum_of⟩ := d_sum
  refine F.ok sc_Sum_times (fun vs H Q E h => ?_) (fun cdv A outer s H vs Q E hr h => ?_)
  · obtain ⟨p, a, n, kk, rfl, S, hz, hk, k⟩ := h
    rfl
  · obtain ⟨p, a, n, kk, rfl, S, hz, hk, k⟩ := h
    have hu := hu_of hr
    rw [show defBody sTimes = [_] from rfl]
    refine ⟨_, (pss_one (ps_ret (pe_call G_sum_of (hr.mono (by decide)) rfl mg_sum_of kp_sum_of b_sum_of .nil pass0 (pa_cons (pe_comp (compSc_mk ["thing", "weight"] ["number"] [1] rfl (by decide +kernel) (by decide +kernel) (by with_unfolding_all rfl) (by exact ⟨rfl, trivial⟩) (by rfl) rfl (by rfl)) rfl (pi_tup (pe_fld (pv 0) rfl)) (fun _ _ _ _ => (pg_tupK (K := K) (n := 2) rfl rfl (pgs_cons (pg_name (i := 0) (show List.Nodup (["thing", "weight", "number"] : List Str) by decide +kernel) rfl (Or.inl rfl) (Or.inr rfl)) (pgs_cons (pg_name (i := 1) (show List.Nodup (["thing", "weight", "number"] : List Str) by decide +kernel) rfl (Or.inl rfl) (Or.inr rfl)) pgs_nil)))) (fun _ _ _ _ => pts_nil) (fun _ _ _ _ => (pe_tup (pa_cons (pv 0) (pa_cons (pe_op op_mul (pv 1) (pv 2)) pa_nil))))) (pa_cons (pe_op op_mul (pe_fld (pv 0) rfl) (pv 1)) pa_nil))))), ?_⟩
    obtain ⟨dx, t, hp, ht, hz'⟩ := id S
    have tz := line _ (show a.length ≤ 100000 by omega)
    refine ⟨_, rfl, p, C, dx, _, _, rfl, hp, T.cl, T.nT, sflds_terms _ _, t, rfl, comp_tp ht (fun i ys H' => Same H H' ∧ Prs H' ys ((a.take i).map fun q => (q.1, q.2 * kk))) ⟨Same.refl _, .nil⟩ (fun i ys H' q => Kp.of q.1) ?_ ?_⟩
    · rintro i v pr ys H' hi ⟨b, rfl, hb⟩ ⟨sm, py⟩
      have hil : i < a.length := (List.getElem?_eq_some_iff.mp hi).1
      refine ⟨b, _, rfl, SqT.of hb, rfl, _, _, rfl, _, _, rfl, rfl, Ext.two, alwT ⟨_, rfl, _, rfl, _, rfl, _, _, rfl, rfl, .inr hk, (by show 2 ≤ sizeLine; exact Nat.le_of_lt (line 2 (by decide))), fun q hq => ⟨?_, Same.new sm hq, ?_⟩⟩⟩
      · rw [prs_len py, List.length_map, List.length_take]
        omega
      · rw [take_snoc hi, List.map_append]
        exact prs_app (py.keep fun _ _ z => new hq _ _ z) (prs_one ⟨q, rfl, upd_same⟩)
    · rintro ys H' ⟨sm, py⟩ q hq
      rw [List.take_length] at py
      have s1 : Same H (upd H' q (.lst ys)) := Same.new sm hq
      refine ⟨_, rfl, p, C, dx, _, _, rfl, s1 _ _ hp, T.cl, T.nN, sflds_number _ _, _, rfl, _, _, rfl, rfl, .inr hk, ?_⟩
      refine ⟨q, n * kk, _, rfl, .inl ⟨ys, upd_same, py.keep fun _ _ z => new hq _ _ z⟩, by rw [List.length_map]; exact hz, fun r ts H2 sm2 g l S2 => k r ts H2 (s1.trans sm2) g (by rw [List.length_map] at l; exact l) S2⟩
end
end Hw
namespace Hw
open PySem L2 PyProof.Rows
section
variable {P : Program} {w : World} {K : PySem.W.Frag} {mg : Str → Option Value} {base : Heap}
abbrev sLess : Stmt := inClass (top 2) 3
theorem sc_Sum_less : FnScope ["self", "other"] ["self", "other"] (defScope sLess) := ⟨rfl, rfl, rfl, by decide +kernel, rfl, by decide +kernel, by decide +kernel⟩
theorem ok_less {f C : Addr} {fd : FuncData} (F : Fun K "less" "Sum.less" sLess f fd) (T : Txt K mg C) (d_plus : Mt P w K mg base 4 C "plus" ["self", "other"] (spPlus C)) (d_times : Mt P w K mg base 4 C "times" ["self", "number"] (spTimes C)) : FnOk P w K mg base CX0 5 f fd ["self", "other"] (spLess C) := by
  obtain ⟨f_plus, fd_plus, G_Sum_plus, m_plus, b_Sum_plus⟩ := d_plus
  obtain ⟨f_times, fd_times, G_Sum_times, m_times, b_Sum_times⟩ := d_times
  refine F.ok sc_Sum_less (fun vs H Q E h => ?_) (fun cdv A outer s H vs Q E hr h => ?_)
  · obtain ⟨p, q, a, b, n, m, rfl, S1, S2, hz, k⟩ := h
    rfl
  · obtain ⟨p, q, a, b, n, m, rfl, S1, S2, hz, k⟩ := h
    have hu := hu_of hr
    rw [show defBody sLess = [_] from rfl]
    refine ⟨_, (pss_one (ps_ret (pe_meth (pv 0) T.cl m_plus G_Sum_plus (hr.mono (by decide)) b_Sum_plus .nil pass0 (pa_cons (pe_meth (pv 1) T.cl m_times G_Sum_times (hr.mono (by decide)) b_Sum_times .nil pass0 (pa_cons (pe_un un_neg pe_int) pa_nil)) pa_nil)))), ?_⟩
    obtain ⟨dx, t1, hp, ht1, z1⟩ := id S1
    obtain ⟨dx2, t2, hq, ht2, z2⟩ := id S2
    refine ⟨_, rfl, p, dx, _, rfl, hp, sflds_no _ _ (by decide +kernel) (by decide +kernel), _, rfl, q, dx2, _, rfl, hq, sflds_no _ _ (by decide +kernel) (by decide +kernel), _, rfl, ?_⟩
    refine ⟨q, b, m, -1, rfl, S2, by omega, ⟨by decide, by decide⟩, fun r ts H1 sm1 g1 l1 S1' => ?_⟩
    refine ⟨p, r, a, ts, n, m * -1, rfl, S1.same sm1, S1', by omega, fun r2 ts2 H2 sm2 g2 l2 S2' => ?_⟩
    refine k r2 ts2 H2 (sm1.trans sm2) ⟨g2.1, fun f => ?_⟩ (by omega) ?_
    · rw [g2.2, lin_append, lin_append, g1.2, lin_smul, lin_neg]
      omega
    · have e : n + m * -1 = n - m := by omega
      rw [← e]
      exact S2'
end
end Hw
namespace Hw
open PySem L2 PyProof.Rows
section
variable {P : Program} {w : World} {K : PySem.W.Frag} {mg : Str → Option Value} {base : Heap}
abbrev sSumOf : Stmt := top 4
theorem sc_sum_of : FnScope ["pairs", "number", "weights", "thing", "weight"] ["pairs", "number"] (defScope sSumOf) := ⟨rfl, rfl, rfl, by decide +kernel, rfl, by decide +kernel, by decide +kernel⟩
theorem ok_sum_of {f C : Addr} {fd : FuncData} (F : Fun K "sum_of" "sum_of" sSumOf f fd) (T : Txt K mg C) (d_init : Mr P w K mg base 1 C ["self", "terms", "number"] (spInit C)) : FnOk P w K mg base CX0 3 f fd ["pairs", "number"] (spSumOf C) := by
  obtain ⟨f_init, fd_init, G_Sum_init, M, b_Sum_init⟩ := d_init
  refine F.ok sc_sum_of (fun vs H Q E h => ?_) (fun cdv A outer s H vs Q E hr h => ?_)
  · obtain ⟨a, n, ps, rfl, hs, hz, k⟩ := h
    rfl
  · obtain ⟨a, n, ps, rfl, hs, hz, k⟩ := h
    have hu := hu_of hr
    rw [show defBody sSumOf = [_, _, _] from rfl]
    refine ⟨_, (pss_cons (ps_set (i := 2) sc_sum_of.nd rfl (Or.inr rfl) pe_dnewK)
      (pss_cons (ps_for PassesOwn.never rfl (pi_seq (pv 0)) (pg_tup rfl (pgs_cons (pg_name (i := 3) sc_sum_of.nd rfl (Or.inl rfl)) (pgs_cons (pg_name (i := 4) sc_sum_of.nd rfl (Or.inl rfl)) pgs_nil))) (pss_one (ps_dput hu (pv 2) (pv 3) (pe_op op_add (pe_dget2 hu (pv 2) (pv 3) pe_int ⟨rfl, rfl, rfl, rfl⟩) (pv 4)) rfl)))
      (pss_one (ps_ret (pe_make M G_Sum_init (hr.mono (by decide)) rfl T.mg_Sum b_Sum_init .nil pass0 (pa_cons (pe_comp (compSc_mk ["thing"] ["weights"] [2] rfl (by decide +kernel) (by decide +kernel) (by with_unfolding_all rfl) (by exact ⟨rfl, trivial⟩) (by rfl) rfl (by rfl)) rfl (pi_list (pe_callB (call_sortedD rfl) (by rfl) T.sorted boot_sorted (pa_cons (pv 2) pa_nil))) (fun _ _ _ _ => (pg_name (i := 0) (show List.Nodup (["thing", "weights"] : List Str) by decide +kernel) rfl (Or.inl rfl) (Or.inr rfl))) (fun _ _ _ _ => (pts_one (pt_cmpR op_ne (pe_dget hu (pv 1) (pv 0) (fun _ _ => rfl)) pe_int (nomark _)))) (fun _ _ _ _ => (pe_tup (pa_cons (pv 0) (pa_cons (pe_dget hu (pv 1) (pv 0) (fun _ _ => rfl)) pa_nil))))) (pa_cons (pv 1) pa_nil))))))), ?_⟩
    intro d hd
    have lz := line ps.length (by omega)
    refine ⟨_, rfl, a, rfl, for_sq (hs.same (new hd)) (fun i σ H' => ∃ e t w, σ = [some (.ref a), some (.int n), some (.ref d), t, w] ∧ H' = upd H d (.dK (enc e)) ∧ Tab (ps.take i) e) ⟨[], none, none, rfl, rfl, Tab.nil⟩ ?_ ?_ ?_⟩
    · rintro i σ H' ⟨e, t, w, rfl, rfl, tab⟩
      exact Kp.dict
    · rintro i v pr σ H' hi ⟨a', rfl, ha'⟩ ⟨e, t, w, rfl, rfl, tab⟩
      have he : (enc e).length < sizeLine := by
        have h1 := tab.len
        rw [List.length_take] at h1
        rw [enc_len]
        omega
      refine ⟨a', _, rfl, SqT.of ha', rfl, _, _, rfl, _, _, rfl, rfl, ?_⟩
      refine ⟨_, rfl, d, rfl, .inl ⟨_, .inl upd_same⟩, _, rfl, _, DGet.k (k := Sum.inr pr.1) upd_same, _, rfl, _, _, enc_getD e pr.1, rfl, _, rfl, _, rfl, d, _, rfl, DPut.k (k := Sum.inr pr.1) upd_same he, ?_⟩
      refine ⟨step e pr, _, _, rfl, ?_, ?_⟩
      · rw [upd_upd, enc_put]
        rfl
      · rw [take_snoc hi]
        exact tab.step pr
    · rintro σ H' ⟨e, t, w, rfl, rfl, tab⟩
      rw [List.take_length] at tab
      have el : (enc e).length < 64 := by have := tab.len; rw [enc_len]; omega
      refine ⟨_, rfl, d, _, keys e, rfl, upd_same, enc_keys e, el, fun l ys hl hp hso => ⟨l, rfl, ⟨_, SqL.of upd_same⟩, ?_⟩⟩
      have yl : ys.length ≤ ps.length := by
        rw [hp.length_eq]
        unfold keys
        rw [List.length_map]
        exact tab.len
      refine comp_list (xs := ys.map V.str) (fun i out H' => Same (upd (upd H d (.dK (enc e))) l (.lst (ys.map V.str))) H' ∧ Prs H' out (outs e (ys.take i))) ⟨Same.refl _, .nil⟩ (fun i out H' _ q => SqL.of (q.1 _ _ upd_same)) ?_ ?_
      · rintro i v out H' hi ⟨sm, pr⟩
        obtain ⟨y, hy, rfl⟩ : ∃ y, ys[i]? = some y ∧ v = V.str y := by
          rw [List.getElem?_map] at hi
          cases q : ys[i]? with
          | none => rw [q] at hi; cases hi
          | some y => rw [q] at hi; cases hi; exact ⟨y, rfl, rfl⟩
        have hm : y ∈ keys e := hp.mem_iff.mp (List.mem_of_getElem? hy)
        have hdd : H' d = some (.dK (enc e)) := sm _ _ (by rw [upd_ne (ne_of_none upd_same hl)]; exact upd_same)
        have ol : out.length < sizeLine := by
          rw [prs_len pr]
          have := outs_len e (ys.take i)
          rw [List.length_take] at this
          omega
        refine ⟨Ext.one, _, rfl, _, rfl, d, _, rfl, nums_get hdd hm, rfl, _, rfl, ?_⟩
        dsimp only
        by_cases g0 : get e y = 0
        · rw [if_neg (by simp [g0])]
          refine ⟨sm, ?_⟩
          rw [take_snoc hy, outs_snoc, if_pos g0, List.append_nil]
          exact pr
        · rw [if_pos (by simp [g0])]
          refine ⟨_, rfl, _, rfl, _, rfl, d, _, rfl, nums_get hdd hm, (by show 2 ≤ sizeLine; exact Nat.le_of_lt (line 2 (by decide))), fun q hq => ⟨ol, Same.new sm hq, ?_⟩⟩
          rw [take_snoc hy, outs_snoc, if_neg g0]
          exact prs_app (pr.keep fun _ _ z => new hq _ _ z) (prs_one ⟨q, rfl, upd_same⟩)
      · rintro out H' ⟨sm, pr⟩ q hq
        rw [List.length_map, List.take_length] at pr
        have s0 : Same H H' := fun b o z => sm b o (Same.new (new hd) hl b o z)
        refine ⟨_, rfl, fun x dx hx hdx ne => ?_⟩
        have h1 : Same (upd H' q (.lst out)) (upd (upd (upd H' q (.lst out)) dx (.own x)) x (.ins C dx [])) := fun b o z => by
          rw [upd_ne (ne_of_none z hx), upd_ne (ne_of_none z hdx)]
          exact z
        refine ⟨x, dx, q, n, outs e ys, rfl, upd_same, .inl ⟨out, h1 _ _ upd_same, pr.keep fun _ _ z => h1 _ _ (new hq _ _ z)⟩, ?_, fun H2 but S => ⟨rfl, ?_⟩⟩
        · have := outs_len e ys
          omega
        · refine k x (outs e ys) H2 (fun b o z => but b o (h1 _ _ (Same.new s0 hq b o z)) (ne_of_none (Same.new s0 hq b o z) hx)) (tab.gat hp hso) ?_ S
          have := outs_len e ys
          omega
end
end Hw
namespace Hw
open PySem L2 PyProof.Rows
section
variable {P : Program} {w : World} {K : PySem.W.Frag} {mg : Str → Option Value} {base : Heap}
abbrev sMixed : Stmt := top 26
theorem sc_law_mixed : FnScope ["_law_cell", "_law_k", "_law_mix"] ["_law_cell", "_law_k"] (defScope sMixed) := ⟨rfl, rfl, rfl, by decide +kernel, rfl, by decide +kernel, by decide +kernel⟩
theorem ok_mixed {f C : Addr} {fd : FuncData} (F : Fun K "_law_mixed" "_law_mixed" sMixed f fd) (T : Txt K mg C)  : FnOk P w K mg base CX0 1 f fd ["_law_cell", "_law_k"] spMixed := by
  refine F.ok sc_law_mixed (fun vs H Q E h => ?_) (fun cdv A outer s H vs Q E hr h => ?_)
  · obtain ⟨c, kk, rfl, k⟩ := h
    rfl
  · obtain ⟨c, kk, rfl, k⟩ := h
    have hu := hu_of hr
    rw [show defBody sMixed = [_, _] from rfl]
    refine ⟨_, (pss_cons (ps_set (i := 2) sc_law_mixed.nd rfl (Or.inl rfl) (pe_op op_mod (pe_op op_mul (pe_op op_add (pe_op op_add (pv 0) (pe_op op_mul pe_int (pv 1))) pe_int) pe_int) pe_int))
      (pss_one (ps_ret (pe_op op_mod (pe_op op_add (pe_op op_mul (pv 2) (pv 2)) (pe_op op_mul pe_int (pv 2))) pe_int)))), ?_⟩
    refine ⟨_, rfl, _, rfl, _, _, rfl, rfl, .inl ⟨by decide, by decide⟩, _, _, rfl, rfl, _, _, rfl, rfl, _, _, rfl, rfl, .inr ⟨by decide, by decide⟩, _, _, rfl, rfl, (by show (0 : Int) < 2147483647; decide), ?_⟩
    have h0 := Int.emod_nonneg ((c + 7919 * kk + 11) * 48271) (show (2147483647 : Int) ≠ 0 by decide)
    have h1 := Int.emod_lt_of_pos ((c + 7919 * kk + 11) * 48271) (show (0 : Int) < 2147483647 by decide)
    generalize (c + 7919 * kk + 11) * 48271 % 2147483647 = mx at h0 h1
    refine ⟨_, rfl, _, rfl, _, _, rfl, rfl, .inl ⟨by omega, by omega⟩, _, rfl, _, _, rfl, rfl, .inl ⟨by decide, by decide⟩, _, _, rfl, rfl, _, _, rfl, rfl, (by show (0 : Int) < 2147483399; decide), ?_⟩
    exact k _ (Int.emod_nonneg _ (by decide)) (Int.emod_lt_of_pos _ (by decide))
end
end Hw
namespace Hw
open PySem L2 PyProof.Rows
section
variable {P : Program} {w : World} {K : PySem.W.Frag} {mg : Str → Option Value} {base : Heap}
abbrev sCellAt : Stmt := top 25
theorem sc_law_cell_at : FnScope ["_law_script", "_law_k", "_law_cell"] ["_law_script", "_law_k"] (defScope sCellAt) := ⟨rfl, rfl, rfl, by decide +kernel, rfl, by decide +kernel, by decide +kernel⟩
theorem ok_cell_at {f C : Addr} {fd : FuncData} (F : Fun K "_law_cell_at" "_law_cell_at" sCellAt f fd) (T : Txt K mg C) (d_mixed : Dn P w K mg base 1 "_law_mixed" ["_law_cell", "_law_k"] spMixed) : FnOk P w K mg base CX0 2 f fd ["_law_script", "_law_k"] (spCell K) := by
  obtain ⟨f_mixed, fd_mixed, G_mixed, mg_mixed, kp_mixed, b_mixed⟩ := d_mixed
  refine F.ok sc_law_cell_at (fun vs H Q E h => ?_) (fun cdv A outer s H vs Q E hr h => ?_)
  · obtain ⟨a, ns, kk, rfl, hS, k⟩ := h
    rfl
  · obtain ⟨a, ns, kk, rfl, hS, k⟩ := h
    have hu := hu_of hr
    rw [show defBody sCellAt = [_, _, _] from rfl]
    refine ⟨_, (pss_cons (ps_set (i := 2) sc_law_cell_at.nd rfl (Or.inl rfl) pe_int)
      (pss_cons (ps_if (pt_cmpR op_lt (pv 1) (pe_callB call_len_seq (by rfl) T.len PySem.boot_len (pa_cons (pv 0) pa_nil)) (nomark _)) (pss_one (ps_set (i := 2) sc_law_cell_at.nd rfl (Or.inl rfl) (pe_ix ix_list (pv 0) (pv 1) (fun _ _ => rfl)))) pss_nil)
      (pss_one (ps_ret (pe_call G_mixed (hr.mono (by decide)) rfl mg_mixed kp_mixed b_mixed .nil pass0 (pa_cons (pv 2) (pa_cons (pe_op op_add pe_int (pv 1)) pa_nil))))))), ?_⟩
    refine ⟨_, rfl, _, rfl, a, _, rfl, .inl hS, _, _, rfl, rfl, _, rfl, ?_⟩
    refine ite2 (fun hc => ?_) (fun hc => ?_)
    · have hc := of_decide_eq_true hc
      rw [List.length_map] at hc
      have hk : (ns.map V.int)[kk]? = some (V.int (ns[kk]'(by omega))) := by rw [List.getElem?_map, List.getElem?_eq_getElem (by omega)]; rfl
      refine ⟨_, rfl, _, rfl, a, _, _, _, rfl, rfl, hS, atI_nat hk, ?_⟩
      exact ⟨_, rfl, _, rfl, _, _, rfl, rfl, _, _, rfl, fun r _ _ => k r⟩
    · exact ⟨_, rfl, _, rfl, _, _, rfl, rfl, _, _, rfl, fun r _ _ => k r⟩
end
end Hw
namespace Hw
open PySem L2 PyProof.Rows
section
variable {P : Program} {w : World} {K : PySem.W.Frag} {mg : Str → Option Value} {base : Heap}
abbrev sNext : Stmt := top 27
theorem sc_law_next : FnScope ["_law_draw", "_law_size"] ["_law_draw", "_law_size"] (defScope sNext) := ⟨rfl, rfl, rfl, by decide +kernel, rfl, by decide +kernel, by decide +kernel⟩
theorem ok_next {f C : Addr} {fd : FuncData} (F : Fun K "_law_next" "_law_next" sNext f fd) (T : Txt K mg C) (d_mixed : Dn P w K mg base 1 "_law_mixed" ["_law_cell", "_law_k"] spMixed) : FnOk P w K mg base CX0 2 f fd ["_law_draw", "_law_size"] spNext := by
  obtain ⟨f_mixed, fd_mixed, G_mixed, mg_mixed, kp_mixed, b_mixed⟩ := d_mixed
  refine F.ok sc_law_next (fun vs H Q E h => ?_) (fun cdv A outer s H vs Q E hr h => ?_)
  · obtain ⟨d, n, rfl, hd, hn, k⟩ := h
    rfl
  · obtain ⟨d, n, rfl, hd, hn, k⟩ := h
    have hu := hu_of hr
    rw [show defBody sNext = [_, _] from rfl]
    refine ⟨_, (pss_cons (ps_augS (pv 0) pe_int get_list pe_int ip_add set_list)
      (pss_one (ps_ret (pe_op op_mod (pe_op op_fdiv (pe_call G_mixed (hr.mono (by decide)) rfl mg_mixed kp_mixed b_mixed .nil pass0 (pa_cons (pe_ix ix_list (pv 0) pe_int (fun _ _ => rfl)) (pa_cons (pe_ix ix_list (pv 0) pe_int (fun _ _ => rfl)) pa_nil))) pe_int) (pv 1))))), ?_⟩
    obtain ⟨x, y, hd⟩ := hd
    refine ⟨_, rfl, d, _, 1, _, rfl, rfl, SqL.of hd, rfl, _, _, rfl, rfl, d, _, _, 1, rfl, rfl, hd, rfl, ?_⟩
    refine ⟨_, rfl, d, _, _, _, rfl, rfl, SqL.of upd_same, rfl, _, rfl, d, _, _, _, rfl, rfl, SqL.of upd_same, rfl, _, _, rfl, fun r h0 h1 => ?_⟩
    refine ⟨_, _, rfl, rfl, ⟨by decide, by decide⟩, _, rfl, _, _, rfl, rfl, hn, ?_⟩
    have e0 := Int.emod_nonneg (r / 7) (Int.ne_of_gt hn)
    have e1 := Int.emod_lt_of_pos (r / 7) hn
    have e := Int.toNat_of_nonneg e0
    rw [← e] at e1
    show Q (V.int (r / 7 % n)) _
    rw [← e]
    exact k _ _ e1 But.upd ⟨_, _, upd_same⟩
end
end Hw
namespace Hw
open PySem L2 PyProof.Rows
section
variable {P : Program} {w : World} {K : PySem.W.Frag} {mg : Str → Option Value} {base : Heap}
abbrev sis_several : Stmt := top 21
theorem sc_is_several : FnScope ["what"] ["what"] (defScope sis_several) := ⟨rfl, rfl, rfl, by decide +kernel, rfl, by decide +kernel, by decide +kernel⟩
theorem ok_is_several {f C : Addr} {fd : FuncData} {n : Nat} (F : Fun K "is_several" "is_several" sis_several f fd) (T : Txt K mg C) (J : TxP K mg)  : FnOk P w K mg base CX0 1 f fd ["what"] spSev := by
  refine F.ok sc_is_several (fun vs H Q E h => ?_) (fun cdv A outer s H vs Q E hr h => ?_)
  · obtain ⟨a, xs, rfl, hs, k⟩ := h
    rfl
  · obtain ⟨a, xs, rfl, hs, k⟩ := h
    have hu := hu_of hr
    rw [show defBody sis_several = [_] from rfl]
    refine ⟨_, (pss_one (ps_ret (pe_callB call_isiS (by rfl) T.isinstance boot_isinstance (pa_cons (pv 0) (pa_cons (pe_tup (pa_cons (pe_bltn (v := .ty "list") rfl T.list boot_list rfl) (pa_cons (pe_bltn (v := .ty "tuple") rfl T.tuple boot_tuple rfl) pa_nil))) pa_nil))))), ?_⟩
    refine ⟨_, rfl, (by show 2 ≤ sizeLine; exact Nat.le_of_lt (line 2 (by decide))), fun t ht => ?_⟩
    exact ⟨a, t, xs, rfl, hs.same (new ht), SqT.of upd_same, J.kTL, k _ (new ht)⟩
end
end Hw
namespace Hw
open PySem L2 PyProof.Rows
section
variable {P : Program} {w : World} {K : PySem.W.Frag} {mg : Str → Option Value} {base : Heap}
abbrev sis_number : Stmt := top 3
theorem sc_is_number : FnScope ["what"] ["what"] (defScope sis_number) := ⟨rfl, rfl, rfl, by decide +kernel, rfl, by decide +kernel, by decide +kernel⟩
theorem ok_is_number {f C : Addr} {fd : FuncData} {n : Nat} (F : Fun K "is_number" "is_number" sis_number f fd) (T : Txt K mg C) (J : TxP K mg)  : FnOk P w K mg base CX0 1 f fd ["what"] spIsNum := by
  refine F.ok sc_is_number (fun vs H Q E h => ?_) (fun cdv A outer s H vs Q E hr h => ?_)
  · obtain ⟨i, rfl, k⟩ := h
    rfl
  · obtain ⟨i, rfl, k⟩ := h
    have hu := hu_of hr
    rw [show defBody sis_number = [_] from rfl]
    refine ⟨_, (pss_one (ps_ret (pe_and (pe_callB (call_isi (c := .ty "int") trivial) (by rfl) T.isinstance boot_isinstance (pa_cons (pv 0) (pa_cons (pe_bltn (v := .ty "int") rfl T.int boot_int rfl) pa_nil))) (pe_one (pe_not (pe_callB (call_isi (c := .ty "bool") trivial) (by rfl) T.isinstance boot_isinstance (pa_cons (pv 0) (pa_cons (pe_bltn (v := .ty "bool") rfl J.bool boot_bool rfl) pa_nil)))))))), ?_⟩
    exact ⟨_, rfl, _, _, _, true, rfl, .int i, rfl, kit_int K, true, rfl, ifT rfl ⟨_, rfl, _, _, _, false, rfl, .int i, rfl, J.kIB, false, rfl, k⟩⟩
end
end Hw
namespace Hw
open PySem L2 PyProof.Rows
section
variable {P : Program} {w : World} {K : PySem.W.Frag} {mg : Str → Option Value} {base : Heap}
abbrev sis_from_one : Stmt := top 18
theorem sc_is_from_one : FnScope ["what"] ["what"] (defScope sis_from_one) := ⟨rfl, rfl, rfl, by decide +kernel, rfl, by decide +kernel, by decide +kernel⟩
theorem ok_is_from_one {f C : Addr} {fd : FuncData} {n : Nat} (F : Fun K "is_from_one" "is_from_one" sis_from_one f fd) (T : Txt K mg C) (J : TxP K mg) (d_is_number : Dn P w K mg base 1 "is_number" ["what"] spIsNum) : FnOk P w K mg base CX0 2 f fd ["what"] spFrom1 := by
  obtain ⟨f_is_number, fd_is_number, G_is_number, mg_is_number, kp_is_number, b_is_number⟩ := d_is_number
  refine F.ok sc_is_from_one (fun vs H Q E h => ?_) (fun cdv A outer s H vs Q E hr h => ?_)
  · obtain ⟨i, rfl, h1, k⟩ := h
    rfl
  · obtain ⟨i, rfl, h1, k⟩ := h
    have hu := hu_of hr
    rw [show defBody sis_from_one = [_] from rfl]
    refine ⟨_, (pss_one (ps_ret (pe_and (pe_call G_is_number (hr.mono (by first | decide | omega)) rfl mg_is_number kp_is_number b_is_number .nil pass0 (pa_cons (pv 0) pa_nil)) (pe_one (pe_cmpR op_ge (pv 0) pe_int (nomark _)))))), ?_⟩
    refine ⟨_, rfl, i, rfl, true, rfl, ifT rfl ⟨_, rfl, _, _, rfl, rfl, ?_⟩⟩
    show Q (V.bl (decide (1 ≤ i))) H
    rw [decide_eq_true h1]
    exact k
end
end Hw
namespace Hw
open PySem L2 PyProof.Rows
section
variable {P : Program} {w : World} {K : PySem.W.Frag} {mg : Str → Option Value} {base : Heap}
abbrev sis_ahead : Stmt := top 19
theorem sc_is_ahead : FnScope ["lines", "what"] ["lines", "what"] (defScope sis_ahead) := ⟨rfl, rfl, rfl, by decide +kernel, rfl, by decide +kernel, by decide +kernel⟩
theorem ok_is_ahead {f C : Addr} {fd : FuncData} {n : Nat} (F : Fun K "is_ahead" "is_ahead" sis_ahead f fd) (T : Txt K mg C) (J : TxP K mg) (d_is_number : Dn P w K mg base 1 "is_number" ["what"] spIsNum) : FnOk P w K mg base CX0 2 f fd ["lines", "what"] spAhd := by
  obtain ⟨f_is_number, fd_is_number, G_is_number, mg_is_number, kp_is_number, b_is_number⟩ := d_is_number
  refine F.ok sc_is_ahead (fun vs H Q E h => ?_) (fun cdv A outer s H vs Q E hr h => ?_)
  · obtain ⟨L, us, k0, rfl, hL, hk, k⟩ := h
    rfl
  · obtain ⟨L, us, k0, rfl, hL, hk, k⟩ := h
    have hu := hu_of hr
    rw [show defBody sis_ahead = [_] from rfl]
    refine ⟨_, (pss_one (ps_ret (pe_and (pe_call G_is_number (hr.mono (by first | decide | omega)) rfl mg_is_number kp_is_number b_is_number .nil pass0 (pa_cons (pv 1) pa_nil)) (pe_one (pe_chain op_le op_lt pe_int (pv 1) (pe_callB call_len_seq (by rfl) T.len PySem.boot_len (pa_cons (pv 0) pa_nil))))))), ?_⟩
    refine ⟨_, rfl, _, rfl, true, rfl, ifT rfl ⟨_, rfl, _, _, rfl, rfl, _, rfl, iteDT (by omega) ⟨_, rfl, L, _, rfl, .inl (SqL.of hL), _, _, rfl, rfl, ?_⟩⟩⟩
    show Q (V.bl (decide ((k0 : Int) < (us.length : Int)))) H
    rw [decide_eq_true (by omega)]
    exact k
end
end Hw
namespace Hw
open PySem L2 PyProof.Rows
section
variable {P : Program} {w : World} {K : PySem.W.Frag} {mg : Str → Option Value} {base : Heap}
abbrev sis_weighed : Stmt := top 17
theorem sc_is_weighed : FnScope ["lines", "pair"] ["lines", "pair"] (defScope sis_weighed) := ⟨rfl, rfl, rfl, by decide +kernel, rfl, by decide +kernel, by decide +kernel⟩
theorem ok_is_weighed {f C : Addr} {fd : FuncData} {n : Nat} (F : Fun K "is_weighed" "is_weighed" sis_weighed f fd) (T : Txt K mg C) (J : TxP K mg) (d_is_several : Dn P w K mg base 1 "is_several" ["what"] spSev) (d_is_from_one : Dn P w K mg base 2 "is_from_one" ["what"] spFrom1) (d_is_ahead : Dn P w K mg base 2 "is_ahead" ["lines", "what"] spAhd) : FnOk P w K mg base CX0 3 f fd ["lines", "pair"] spWeighed := by
  obtain ⟨f_is_several, fd_is_several, G_is_several, mg_is_several, kp_is_several, b_is_several⟩ := d_is_several
  obtain ⟨f_is_from_one, fd_is_from_one, G_is_from_one, mg_is_from_one, kp_is_from_one, b_is_from_one⟩ := d_is_from_one
  obtain ⟨f_is_ahead, fd_is_ahead, G_is_ahead, mg_is_ahead, kp_is_ahead, b_is_ahead⟩ := d_is_ahead
  refine F.ok sc_is_weighed (fun vs H Q E h => ?_) (fun cdv A outer s H vs Q E hr h => ?_)
  · obtain ⟨L, q, us, w0, k0, rfl, hL, hq, hw, hk, k⟩ := h
    rfl
  · obtain ⟨L, q, us, w0, k0, rfl, hL, hq, hw, hk, k⟩ := h
    have hu := hu_of hr
    rw [show defBody sis_weighed = [_] from rfl]
    refine ⟨_, (pss_one (ps_ret (pe_and (pe_call G_is_several (hr.mono (by first | decide | omega)) rfl mg_is_several kp_is_several b_is_several .nil pass0 (pa_cons (pv 1) pa_nil)) (pe_and (pe_cmpR op_eq (pe_callB call_len_seq (by rfl) T.len PySem.boot_len (pa_cons (pv 1) pa_nil)) pe_int (nomark _)) (pe_and (pe_call G_is_from_one (hr.mono (by first | decide | omega)) rfl mg_is_from_one kp_is_from_one b_is_from_one .nil pass0 (pa_cons (pe_ix ix_tup (pv 1) pe_int (fun _ _ => rfl)) pa_nil)) (pe_one (pe_call G_is_ahead (hr.mono (by first | decide | omega)) rfl mg_is_ahead kp_is_ahead b_is_ahead .nil pass0 (pa_cons (pv 0) (pa_cons (pe_ix ix_tup (pv 1) pe_int (fun _ _ => rfl)) pa_nil))))))))), ?_⟩
    refine ⟨_, rfl, q, _, rfl, .inr hq, fun H1 s1 => ⟨true, rfl, ifT rfl ?_⟩⟩
    have hq := s1 _ _ hq
    refine ⟨_, rfl, q, _, rfl, .inr (SqT.of hq), rfl, _, rfl, iteDT rfl ?_⟩
    refine ⟨_, rfl, q, _, 0, _, rfl, rfl, SqT.of hq, rfl, w0, rfl, hw, true, rfl, ifT rfl ?_⟩
    exact ⟨_, rfl, _, rfl, q, _, 1, _, rfl, rfl, SqT.of hq, rfl, L, us, k0, rfl, s1 _ _ hL, hk, k _ s1⟩
end
end Hw
namespace Hw
open PySem L2 PyProof.Rows
section
variable {P : Program} {w : World} {K : PySem.W.Frag} {mg : Str → Option Value} {base : Heap}
abbrev scan_be_divided : Stmt := top 20
theorem sc_can_be_divided : FnScope ["total", "divisor"] ["total", "divisor"] (defScope scan_be_divided) := ⟨rfl, rfl, rfl, by decide +kernel, rfl, by decide +kernel, by decide +kernel⟩
theorem ok_can_be_divided {f C : Addr} {fd : FuncData} {n : Nat} (F : Fun K "can_be_divided" "can_be_divided" scan_be_divided f fd) (T : Txt K mg C) (J : TxP K mg)  : FnOk P w K mg base CX0 1 f fd ["total", "divisor"] (spCanDiv C) := by
  refine F.ok sc_can_be_divided (fun vs H Q E h => ?_) (fun cdv A outer s H vs Q E hr h => ?_)
  · obtain ⟨p, ts, n, d, rfl, S, hd, hm, k⟩ := h
    rfl
  · obtain ⟨p, ts, n, d, rfl, S, hd, hm, k⟩ := h
    have hu := hu_of hr
    rw [show defBody scan_be_divided = [_] from rfl]
    refine ⟨_, (pss_one (ps_ret (pe_callB (call_all rfl) (by rfl) J.all boot_all (pa_cons (pe_comp (compSc_mk ["thing", "weight"] ["divisor"] [1] rfl (by decide +kernel) (by decide +kernel) (by with_unfolding_all rfl) (by exact ⟨rfl, trivial⟩) (by rfl) rfl (by rfl)) rfl (pi_tup (pe_fld (pv 0) rfl)) (fun _ _ _ _ => (pg_tupK (K := K) (n := 2) rfl rfl (pgs_cons (pg_name (i := 0) (show List.Nodup (["thing", "weight", "divisor"] : List Str) by decide +kernel) rfl (Or.inl rfl) (Or.inr rfl)) (pgs_cons (pg_name (i := 1) (show List.Nodup (["thing", "weight", "divisor"] : List Str) by decide +kernel) rfl (Or.inl rfl) (Or.inr rfl)) pgs_nil)))) (fun _ _ _ _ => pts_nil) (fun _ _ _ _ => (pe_cmpR op_eq (pe_op op_mod (pv 1) (pv 2)) pe_int (nomark _)))) pa_nil)))), ?_⟩
    obtain ⟨dx, t, hp, ht, hz⟩ := S
    refine ⟨_, rfl, p, C, dx, _, _, rfl, hp, T.cl, T.nT, sflds_terms _ _, t, rfl, comp_tp ht (fun i ys H' => H' = H ∧ ys = (List.replicate i true).map V.bl) ⟨rfl, rfl⟩ (fun i ys H' q => q.1 ▸ Kp.refl) ?_ ?_⟩
    · rintro i v pr ys H' hi ⟨a, rfl, ha⟩ ⟨rfl, rfl⟩
      have hil : i < ts.length := (List.getElem?_eq_some_iff.mp hi).1
      have e0 : decide (V.int (pr.2 % d) = V.int 0) = true := decide_eq_true (by rw [hm pr (List.mem_of_getElem? hi)])
      refine ⟨a, _, rfl, SqT.of ha, rfl, _, _, rfl, _, _, rfl, rfl, Ext.two, alwT ⟨_, rfl, _, rfl, _, _, rfl, rfl, (by omega), rfl, ?_, rfl, ?_⟩⟩
      · rw [rep_len]; exact line _ (by omega)
      · rw [e0, rep_snoc]
    · rintro ys H' ⟨rfl, rfl⟩ q hq
      refine ⟨q, _, rfl, SqL.of upd_same, ?_⟩
      rw [rep_all]
      exact k _ (new hq)
end
end Hw
namespace Hw
open PySem L2 PyProof.Rows
section
variable {P : Program} {w : World} {K : PySem.W.Frag} {mg : Str → Option Value} {base : Heap}
abbrev sis_term : Stmt := top 23
theorem sc_is_term : FnScope ["pair"] ["pair"] (defScope sis_term) := ⟨rfl, rfl, rfl, by decide +kernel, rfl, by decide +kernel, by decide +kernel⟩
theorem ok_is_term {f C : Addr} {fd : FuncData} {n : Nat} (F : Fun K "is_term" "is_term" sis_term f fd) (T : Txt K mg C) (J : TxP K mg) (d_is_number : Dn P w K mg base 1 "is_number" ["what"] spIsNum) : FnOk P w K mg base CX0 2 f fd ["pair"] spIsTerm := by
  obtain ⟨f_is_number, fd_is_number, G_is_number, mg_is_number, kp_is_number, b_is_number⟩ := d_is_number
  refine F.ok sc_is_term (fun vs H Q E h => ?_) (fun cdv A outer s H vs Q E hr h => ?_)
  · obtain ⟨q, t, w0, rfl, hq, hw, k⟩ := h
    rfl
  · obtain ⟨q, t, w0, rfl, hq, hw, k⟩ := h
    have hu := hu_of hr
    rw [show defBody sis_term = [_] from rfl]
    refine ⟨_, (pss_one (ps_ret (pe_and (pe_cmpR op_eq (pe_callB call_len_seq (by rfl) T.len PySem.boot_len (pa_cons (pv 0) pa_nil)) pe_int (nomark _)) (pe_and (pe_callB (call_isi (c := .ty "str") trivial) (by rfl) T.isinstance boot_isinstance (pa_cons (pe_ix ix_tup (pv 0) pe_int (fun _ _ => rfl)) (pa_cons (pe_bltn (v := .ty "str") rfl T.str boot_str rfl) pa_nil))) (pe_and (pe_call G_is_number (hr.mono (by first | decide | omega)) rfl mg_is_number kp_is_number b_is_number .nil pass0 (pa_cons (pe_ix ix_tup (pv 0) pe_int (fun _ _ => rfl)) pa_nil)) (pe_one (pe_cmpR op_ne (pe_ix ix_tup (pv 0) pe_int (fun _ _ => rfl)) pe_int (nomark _)))))))), ?_⟩
    refine ⟨_, rfl, q, _, rfl, .inr (SqT.of hq), rfl, _, rfl, iteDT rfl ?_⟩
    refine ⟨_, rfl, q, _, 0, _, rfl, rfl, SqT.of hq, rfl, _, _, _, true, rfl, .str t, rfl, kit_str K, true, rfl, ifT rfl ?_⟩
    refine ⟨_, rfl, q, _, 1, _, rfl, rfl, SqT.of hq, rfl, w0, rfl, true, rfl, ifT rfl ?_⟩
    refine ⟨_, rfl, q, _, 1, _, rfl, rfl, SqT.of hq, rfl, rfl, ?_⟩
    rw [decide_eq_false fun z => hw (V.int.inj z)]
    exact k
end
end Hw
namespace Hw
open PySem L2 PyProof.Rows
section
variable {P : Program} {w : World} {K : PySem.W.Frag} {mg : Str → Option Value} {base : Heap}
abbrev sis_sum : Stmt := top 22
theorem sc_is_sum : FnScope ["what", "things"] ["what"] (defScope sis_sum) := ⟨rfl, rfl, rfl, by decide +kernel, rfl, by decide +kernel, by decide +kernel⟩
theorem ok_is_sum {f C : Addr} {fd : FuncData} {n : Nat} (F : Fun K "is_sum" "is_sum" sis_sum f fd) (T : Txt K mg C) (J : TxP K mg) (d_is_number : Dn P w K mg base 1 "is_number" ["what"] spIsNum) (d_is_term : Dn P w K mg base 2 "is_term" ["pair"] spIsTerm) : FnOk P w K mg base CX0 3 f fd ["what"] (spIsSum C) := by
  obtain ⟨f_is_number, fd_is_number, G_is_number, mg_is_number, kp_is_number, b_is_number⟩ := d_is_number
  obtain ⟨f_is_term, fd_is_term, G_is_term, mg_is_term, kp_is_term, b_is_term⟩ := d_is_term
  refine F.ok sc_is_sum (fun vs H Q E h => ?_) (fun cdv A outer s H vs Q E hr h => ?_)
  · obtain ⟨p, ts, n0, rfl, S, cn, hl, k⟩ := h
    rfl
  · obtain ⟨p, ts, n0, rfl, S, cn, hl, k⟩ := h
    have hu := hu_of hr
    rw [show defBody sis_sum = [_, _, _, _] from rfl]
    refine ⟨_, (pss_cons (ps_if (PW.pt (pw_or (pt_not (pt_val (pe_callB (call_isi (c := .ref C) trivial) (by rfl) T.isinstance boot_isinstance (pa_cons (pv 0) (pa_cons (pe_glob (v := .ref C) rfl T.mg_Sum rfl) pa_nil))))) (pw_or1 (pt_not (pt_val (pe_call G_is_number (hr.mono (by first | decide | omega)) rfl mg_is_number kp_is_number b_is_number .nil pass0 (pa_cons (pe_fld (pv 0) rfl) pa_nil))))))) (pss_one (ps_ret pe_bl)) pss_nil)
      (pss_cons (ps_if (pt_not (pt_val (pe_callB (call_all rfl) (by rfl) J.all boot_all (pa_cons (pe_comp (compSc_mk ["pair"] [] [] rfl (by decide +kernel) (by decide +kernel) (by with_unfolding_all rfl) (by exact trivial) (by rfl) rfl (by rfl)) rfl (pi_tup (pe_fld (pv 0) rfl)) (fun _ _ _ _ => (pg_name (i := 0) (show List.Nodup (["pair"] : List Str) by decide +kernel) rfl (Or.inl rfl) (Or.inr rfl))) (fun _ _ _ _ => pts_nil) (fun _ _ _ _ => (pe_call G_is_term (hr.mono (by first | decide | omega)) rfl mg_is_term kp_is_term b_is_term .nil pass0 (pa_cons (pv 0) pa_nil)))) pa_nil)))) (pss_one (ps_ret pe_bl)) pss_nil)
      (pss_cons (ps_setC (i := 1) sc_is_sum.nd rfl (Or.inl rfl) (compSc_mk ["pair"] [] [] rfl (by decide +kernel) (by decide +kernel) (by with_unfolding_all rfl) (by exact trivial) (by rfl) rfl (by rfl)) rfl (pi_tup (pe_fld (pv 0) rfl)) (fun _ _ _ _ => (pg_name (i := 0) (show List.Nodup (["pair"] : List Str) by decide +kernel) rfl (Or.inl rfl) (Or.inr rfl))) (fun _ _ _ _ => pts_nil) (fun _ _ _ _ => (pe_ix (ix_tupK (K := K) rfl) (pv 0) pe_int (fun _ _ => rfl))))
      (pss_one (ps_ret (pe_cmpR (op_eqL 1 (uL hr)) (pv 1) (pe_callB (call_sortedS rfl) (by rfl) T.sorted boot_sorted (pa_cons (pe_callTy (call_setS rfl) (by rfl) J.set PyProof.Rows.boot_set (pa_cons (pv 1) pa_nil)) pa_nil)) (nomark _))))))), ?_⟩
    obtain ⟨dx, t, hp, ht, hz⟩ := S
    refine ⟨_, rfl, _, _, _, true, rfl, T.ins hp, rfl, T.kS, true, rfl, ifF rfl ⟨_, rfl, p, C, dx, _, _, rfl, hp, T.cl, T.nN, sflds_number _ _, n0, rfl, true, rfl, ifF rfl ?_⟩⟩
    refine ⟨_, rfl, p, C, dx, _, _, rfl, hp, T.cl, T.nT, sflds_terms _ _, t, rfl, comp_tp ht (fun i ys H' => H' = H ∧ ys = (List.replicate i true).map V.bl) ⟨rfl, rfl⟩ (fun i ys H' q => q.1 ▸ Kp.refl) ?_ ?_⟩
    · rintro i v pr ys H' hi ⟨a, rfl, ha⟩ ⟨rfl, rfl⟩
      have hil : i < ts.length := (List.getElem?_eq_some_iff.mp hi).1
      refine ⟨Ext.one, alwT ⟨_, rfl, a, pr.1, pr.2, rfl, ha, cn.nz pr (List.mem_of_getElem? hi), ?_, rfl, rep_snoc i⟩⟩
      rw [rep_len]; exact line _ (by omega)
    rintro ys H' ⟨rfl, rfl⟩ q hq
    refine ⟨q, _, rfl, SqL.of upd_same, _, rfl, ifF (by rw [rep_all]; rfl) ?_⟩
    have s1 := new (o := .lst ((List.replicate ts.length true).map V.bl)) hq
    have hp := s1 _ _ hp
    have ht := ht.same s1
    generalize upd H' q (.lst ((List.replicate ts.length true).map V.bl)) = H1 at s1 hp ht ⊢
    refine ⟨_, rfl, p, C, dx, _, _, rfl, hp, T.cl, T.nT, sflds_terms _ _, t, rfl, comp_tp ht (fun i ys H' => H' = H1 ∧ ys = ((keys ts).take i).map V.str) ⟨rfl, rfl⟩ (fun i ys H' q => q.1 ▸ Kp.refl) ?_ ?_⟩
    · rintro i v pr ys H' hi ⟨a, rfl, ha⟩ ⟨rfl, rfl⟩
      have hk : (keys ts)[i]? = some pr.1 := by unfold keys; rw [List.getElem?_map, hi]; rfl
      have hil : i < ts.length := (List.getElem?_eq_some_iff.mp hi).1
      refine ⟨Ext.one, alwT ⟨_, rfl, a, _, 0, _, rfl, rfl, SqT.of ha, rfl, ?_, rfl, ?_⟩⟩
      · rw [List.length_map, List.length_take]
        exact line _ (by omega)
      · rw [take_snoc hk, List.map_append]
        rfl
    rintro ys H' ⟨rfl, rfl⟩ l hl0
    have kl : (keys ts).length = ts.length := by unfold keys; rw [List.length_map]
    rw [List.take_of_length_le (by rw [kl]; exact Nat.le_refl _)]
    have s2 := new (o := .lst ((keys ts).map V.str)) hl0
    refine ⟨_, rfl, _, rfl, l, keys ts, rfl, SqL.of upd_same, (by rw [kl]; omega), fun z hz' => ⟨z, keys ts, rfl, upd_same, fun l2 zs hl2 hm nd h64 so => ?_⟩⟩
    have e : zs = keys ts := rise_same (rise_strict so nd) (keys_up cn) hm
    subst e
    have s3 := new (o := setH P w z (keys ts)) hz'
    have s4 := new (o := .lst ((keys ts).map V.str)) hl2
    refine ⟨l, l2, _, _, rfl, rfl, .inl ⟨SqL.of (s4 _ _ (s3 _ _ upd_same)), SqL.of upd_same⟩, like_flat (flat_strs _), ?_⟩
    exact k _ (((s1.trans s2).trans s3).trans s4)
end
end Hw
namespace Hw
open PySem L2 PyProof.Rows
section
variable {P : Program} {w : World} {K : PySem.W.Frag} {mg : Str → Option Value} {base : Heap}
abbrev sis_never : Stmt := top 14
theorem sc_is_never : FnScope ["total"] ["total"] (defScope sis_never) := ⟨rfl, rfl, rfl, by decide +kernel, rfl, by decide +kernel, by decide +kernel⟩
theorem ok_is_never {f C : Addr} {fd : FuncData} {n : Nat} (F : Fun K "is_never" "is_never" sis_never f fd) (T : Txt K mg C) (J : TxP K mg)  : FnOk P w K mg base CX0 1 f fd ["total"] (spNever C) := by
  refine F.ok sc_is_never (fun vs H Q E h => ?_) (fun cdv A outer s H vs Q E hr h => ?_)
  · obtain ⟨p, n0, rfl, S, hn, k⟩ := h
    rfl
  · obtain ⟨p, n0, rfl, S, hn, k⟩ := h
    have hu := hu_of hr
    rw [show defBody sis_never = [_] from rfl]
    refine ⟨_, (pss_one (ps_ret (pe_and (pe_cmpR op_eq (pe_callB call_len_seq (by rfl) T.len PySem.boot_len (pa_cons (pe_fld (pv 0) rfl) pa_nil)) pe_int (nomark _)) (pe_one (pe_cmpR op_lt (pe_fld (pv 0) rfl) pe_int (nomark _)))))), ?_⟩
    obtain ⟨dx, t, hp, ⟨vs, et, pr⟩, hz⟩ := S
    cases pr
    refine ⟨_, rfl, p, C, dx, _, _, rfl, hp, T.cl, T.nT, sflds_terms _ _, t, _, rfl, .inr (SqT.of et), rfl, _, rfl, iteDT rfl ⟨_, rfl, p, C, dx, _, _, rfl, hp, T.cl, T.nN, sflds_number _ _, _, _, rfl, rfl, ?_⟩⟩
    show Q (V.bl (decide (n0 < 0))) H
    rw [decide_eq_true hn]
    exact k
end
end Hw
namespace Hw
open PySem L2 PyProof.Rows
section
variable {P : Program} {w : World} {K : PySem.W.Frag} {mg : Str → Option Value} {base : Heap}
abbrev sis_split : Stmt := top 15
theorem sc_is_split : FnScope ["line"] ["line"] (defScope sis_split) := ⟨rfl, rfl, rfl, by decide +kernel, rfl, by decide +kernel, by decide +kernel⟩
theorem ok_is_split {f C : Addr} {fd : FuncData} {n : Nat} (F : Fun K "is_split" "is_split" sis_split f fd) (T : Txt K mg C) (J : TxP K mg) (d_is_several : Dn P w K mg base 1 "is_several" ["what"] spSev) (d_is_sum : Dn P w K mg base 3 "is_sum" ["what"] (spIsSum C)) : FnOk P w K mg base CX0 4 f fd ["line"] (spIsSplit C) := by
  obtain ⟨f_is_several, fd_is_several, G_is_several, mg_is_several, kp_is_several, b_is_several⟩ := d_is_several
  obtain ⟨f_is_sum, fd_is_sum, G_is_sum, mg_is_sum, kp_is_sum, b_is_sum⟩ := d_is_sum
  refine F.ok sc_is_split (fun vs H Q E h => ?_) (fun cdv A outer s H vs Q E hr h => ?_)
  · obtain ⟨a, ys, rfl, hs, k⟩ := h
    rfl
  · obtain ⟨a, ys, rfl, hs, k⟩ := h
    have hu := hu_of hr
    rw [show defBody sis_split = [_] from rfl]
    refine ⟨_, (pss_one (ps_ret (pe_and (pe_call G_is_several (hr.mono (by first | decide | omega)) rfl mg_is_several kp_is_several b_is_several .nil pass0 (pa_cons (pv 0) pa_nil)) (pe_and (pe_cmpR op_eq (pe_callB call_len_seq (by rfl) T.len PySem.boot_len (pa_cons (pv 0) pa_nil)) pe_int (nomark _)) (pe_and (pe_cmpR op_eq (pe_ix ix_seq (pv 0) pe_int (fun _ _ => rfl)) pe_str (nomark _)) (pe_one (pe_call G_is_sum (hr.mono (by first | decide | omega)) rfl mg_is_sum kp_is_sum b_is_sum .nil pass0 (pa_cons (pe_ix ix_seq (pv 0) pe_int (fun _ _ => rfl)) pa_nil)))))))), ?_⟩
    refine ⟨_, rfl, a, ys, rfl, hs, fun H1 s1 => ⟨true, rfl, ifT rfl ?_⟩⟩
    have hs := hs.same s1
    rcases k with ⟨h4, k⟩ | ⟨p, x, y, ts, n0, e, S, cn, hl, k⟩
    · refine ⟨_, rfl, a, _, rfl, lenV hs, rfl, _, rfl, iteDF (fun z => ?_) (k _ s1)⟩
      have := V.int.inj z
      omega
    · subst e
      refine ⟨_, rfl, a, _, rfl, lenV hs, rfl, _, rfl, iteDT rfl ?_⟩
      refine ⟨_, rfl, ixV hs rfl ⟨rfl, _, rfl, iteDT rfl ?_⟩⟩
      refine ⟨_, rfl, ixV hs rfl ?_⟩
      exact ⟨p, ts, n0, rfl, S.same s1, cn, hl, fun H2 s2 => k _ (s1.trans s2)⟩
end
end Hw
namespace Hw
open PySem L2 PyProof.Rows
section
variable {P : Program} {w : World} {K : PySem.W.Frag} {mg : Str → Option Value} {base : Heap}
abbrev sis_right : Stmt := top 16
theorem sc_is_right : FnScope ["lines", "line"] ["lines", "line"] (defScope sis_right) := ⟨rfl, rfl, rfl, by decide +kernel, rfl, by decide +kernel, by decide +kernel⟩
theorem ok_is_right {f C : Addr} {fd : FuncData} {n : Nat} (F : Fun K "is_right" "is_right" sis_right f fd) (T : Txt K mg C) (J : TxP K mg) (d_is_several : Dn P w K mg base 1 "is_several" ["what"] spSev) (d_is_weighed : Dn P w K mg base 3 "is_weighed" ["lines", "pair"] spWeighed) (d_is_ahead : Dn P w K mg base 2 "is_ahead" ["lines", "what"] spAhd) (d_is_from_one : Dn P w K mg base 2 "is_from_one" ["what"] spFrom1) (d_can_be_divided : Dn P w K mg base 1 "can_be_divided" ["total", "divisor"] (spCanDiv C)) : FnOk P w K mg base CX0 5 f fd ["lines", "line"] (spIsRight C) := by
  obtain ⟨f_is_several, fd_is_several, G_is_several, mg_is_several, kp_is_several, b_is_several⟩ := d_is_several
  obtain ⟨f_is_weighed, fd_is_weighed, G_is_weighed, mg_is_weighed, kp_is_weighed, b_is_weighed⟩ := d_is_weighed
  obtain ⟨f_is_ahead, fd_is_ahead, G_is_ahead, mg_is_ahead, kp_is_ahead, b_is_ahead⟩ := d_is_ahead
  obtain ⟨f_is_from_one, fd_is_from_one, G_is_from_one, mg_is_from_one, kp_is_from_one, b_is_from_one⟩ := d_is_from_one
  obtain ⟨f_can_be_divided, fd_can_be_divided, G_can_be_divided, mg_can_be_divided, kp_can_be_divided, b_can_be_divided⟩ := d_can_be_divided
  refine F.ok sc_is_right (fun vs H Q E h => ?_) (fun cdv A outer s H vs Q E hr h => ?_)
  · obtain ⟨L, v, us, ss, l, rfl, hL, hS, hv, hr0, k⟩ := h
    rfl
  · obtain ⟨L, v, us, ss, l, rfl, hL, hS, hv, hr0, k⟩ := h
    have hu := hu_of hr
    rw [show defBody sis_right = [_, _, _, _] from rfl]
    refine ⟨_, (pss_cons (ps_if (pt_not (pt_val (pe_call G_is_several (hr.mono (by first | decide | omega)) rfl mg_is_several kp_is_several b_is_several .nil pass0 (pa_cons (pv 1) pa_nil)))) (pss_one (ps_ret pe_bl)) pss_nil)
      (pss_cons (ps_if (PW.pt (pw_and (pt_cmpR op_eq (pe_callB call_len_seq (by rfl) T.len PySem.boot_len (pa_cons (pv 1) pa_nil)) pe_int (nomark _)) (pw_and1 (pt_cmpR op_eq (pe_ix ix_seq (pv 1) pe_int (fun _ _ => rfl)) pe_str (nomark _))))) (pss_one (ps_ret (pe_and (pe_call G_is_several (hr.mono (by first | decide | omega)) rfl mg_is_several kp_is_several b_is_several .nil pass0 (pa_cons (pe_ix ix_seq (pv 1) pe_int (fun _ _ => rfl)) pa_nil)) (pe_and (pe_cmpR op_gt (pe_callB call_len_seq (by rfl) T.len PySem.boot_len (pa_cons (pe_ix ix_seq (pv 1) pe_int (fun _ _ => rfl)) pa_nil)) pe_int (nomark _)) (pe_one (pe_callB (call_all rfl) (by rfl) J.all boot_all (pa_cons (pe_comp (compSc_mk ["pair"] ["lines"] [0] rfl (by decide +kernel) (by decide +kernel) (by with_unfolding_all rfl) (by exact ⟨rfl, trivial⟩) (by rfl) rfl (by rfl)) rfl (pi_tup (pe_ix ix_seq (pv 1) pe_int (fun _ _ => rfl))) (fun _ _ _ _ => (pg_name (i := 0) (show List.Nodup (["pair", "lines"] : List Str) by decide +kernel) rfl (Or.inl rfl) (Or.inr rfl))) (fun _ _ _ _ => pts_nil) (fun _ _ _ _ => (pe_call G_is_weighed (hr.mono (by first | decide | omega)) rfl mg_is_weighed kp_is_weighed b_is_weighed .nil pass0 (pa_cons (pv 1) (pa_cons (pv 0) pa_nil))))) pa_nil))))))) pss_nil)
      (pss_cons (ps_if (PW.pt (pw_and (pt_cmpR op_eq (pe_callB call_len_seq (by rfl) T.len PySem.boot_len (pa_cons (pv 1) pa_nil)) pe_int (nomark _)) (pw_and1 (pt_cmpR op_eq (pe_ix ix_seq (pv 1) pe_int (fun _ _ => rfl)) pe_str (nomark _))))) (pss_one (ps_ret (pe_and (pe_call G_is_ahead (hr.mono (by first | decide | omega)) rfl mg_is_ahead kp_is_ahead b_is_ahead .nil pass0 (pa_cons (pv 0) (pa_cons (pe_ix ix_seq (pv 1) pe_int (fun _ _ => rfl)) pa_nil))) (pe_and (pe_call G_is_from_one (hr.mono (by first | decide | omega)) rfl mg_is_from_one kp_is_from_one b_is_from_one .nil pass0 (pa_cons (pe_ix ix_seq (pv 1) pe_int (fun _ _ => rfl)) pa_nil)) (pe_one (pe_call G_can_be_divided (hr.mono (by first | decide | omega)) rfl mg_can_be_divided kp_can_be_divided b_can_be_divided .nil pass0 (pa_cons (pe_ix ix_list (pv 0) (pe_ix ix_seq (pv 1) pe_int (fun _ _ => rfl)) (fun _ _ => rfl)) (pa_cons (pe_ix ix_seq (pv 1) pe_int (fun _ _ => rfl)) pa_nil)))))))) pss_nil)
      (pss_one (ps_ret pe_bl))))), ?_⟩
    have hl := paired_len hS
    cases l with
    | cut k0 d =>
      obtain ⟨a, rfl, sq⟩ := hv
      obtain ⟨h1, h5, s, es, hm⟩ := hr0
      have hk : k0 < us.length := by rw [hl]; exact (List.getElem?_eq_some_iff.mp es).1
      refine ⟨_, rfl, a, _, rfl, sq, fun H1 s1 => ⟨true, rfl, ifF rfl ?_⟩⟩
      have sq := sq.same s1
      have hL := s1 _ _ hL
      have hS := hS.hard (Hard.of s1)
      obtain ⟨p, s', ep, es', S⟩ := sm_at hS hk
      rw [es] at es'
      cases es'
      refine ⟨_, rfl, a, _, rfl, lenV sq, rfl, _, rfl, iteDF (fun z => absurd (show (3 : Int) = 2 from V.int.inj z) (by decide)) (ifF rfl ?_)⟩
      refine ⟨_, rfl, a, _, rfl, lenV sq, rfl, _, rfl, iteDT rfl ⟨_, rfl, ixV sq rfl ⟨rfl, _, rfl, iteDT rfl ?_⟩⟩⟩
      refine ⟨_, rfl, _, rfl, ixV sq rfl ⟨L, us, k0, rfl, hL, hk, true, rfl, ifT rfl ?_⟩⟩
      refine ⟨_, rfl, ixV sq rfl ⟨d, rfl, h1, true, rfl, ifT rfl ?_⟩⟩
      refine ⟨_, rfl, _, rfl, ixV sq rfl ⟨L, _, _, _, rfl, rfl, SqL.of hL, atI_nat ep, _, rfl, ixV sq rfl ?_⟩⟩
      exact ⟨p, s.1, s.2, d, rfl, S, h1, hm, fun H2 s2 => k _ (s1.trans s2)⟩
    | add ws =>
      obtain ⟨a, t, ps, rfl, sq, et, hp⟩ := hv
      obtain ⟨h1, h5, hw⟩ := hr0
      have pl := paired_len hp
      refine ⟨_, rfl, a, _, rfl, sq, fun H1 s1 => ⟨true, rfl, ifF rfl ?_⟩⟩
      have sq := sq.same s1
      have hL := s1 _ _ hL
      have et := s1 _ _ et
      refine ⟨_, rfl, a, _, rfl, lenV sq, rfl, _, rfl, iteDT rfl ⟨_, rfl, ixV sq rfl ⟨rfl, _, rfl, iteDT rfl ?_⟩⟩⟩
      refine ⟨_, rfl, ixV sq rfl ⟨t, ps, rfl, .inr et, fun H2 s2 => ⟨true, rfl, ifT rfl ?_⟩⟩⟩
      have sq := sq.same s2
      have hL := s2 _ _ hL
      have et := s2 _ _ et
      have s12 := s1.trans s2
      have l0 : 0 < ps.length := by rw [pl]; exact List.length_pos_iff.mpr h1
      refine ⟨_, rfl, ixV sq rfl ⟨t, ps, rfl, .inr (SqT.of et), _, _, rfl, rfl, _, rfl, iteDT (by omega) ?_⟩⟩
      refine ⟨_, rfl, ixV sq rfl ⟨t, rfl, ⟨ps, SqT.of et⟩, comp_tup (xs := ps) (fun i ys H' => Same H2 H' ∧ ys = (List.replicate i true).map V.bl) ⟨Same.refl _, rfl⟩ (fun i ys H' _ q => SqT.of (q.1 _ _ et)) ?_ ?_⟩⟩
      · rintro i v ys H' hi ⟨s3, rfl⟩
        have hil : i < ps.length := (List.getElem?_eq_some_iff.mp hi).1
        obtain ⟨pr, epr, q, rfl, eq⟩ := paired_at hp hi
        obtain ⟨w1, _, w3⟩ := hw pr (List.mem_of_getElem? epr)
        refine ⟨Ext.one, alwT ⟨_, rfl, _, rfl, L, q, us, pr.1, pr.2, rfl, s3 _ _ hL, (s12.trans s3) _ _ eq, w1, (by rw [hl]; exact w3), fun H4 s4 => ⟨?_, s3.trans s4, rep_snoc i⟩⟩⟩
        rw [rep_len]; exact line _ (by omega)
      · rintro ys H' ⟨s3, rfl⟩ q hq
        refine ⟨q, _, rfl, SqL.of upd_same, ?_⟩
        rw [rep_all]
        exact k _ ((s12.trans s3).trans (new hq))
end
end Hw
namespace Hw
open PySem L2 PyProof.Rows
section
variable {P : Program} {w : World} {K : PySem.W.Frag} {mg : Str → Option Value} {base : Heap}
abbrev sturned_terms : Stmt := top 11
theorem sc_turned_terms : FnScope ["terms"] ["terms"] (defScope sturned_terms) := ⟨rfl, rfl, rfl, by decide +kernel, rfl, by decide +kernel, by decide +kernel⟩
theorem ok_turned_terms {f C : Addr} {fd : FuncData} {n : Nat} (F : Fun K "turned_terms" "turned_terms" sturned_terms f fd) (T : Txt K mg C) (J : TxP K mg)  : FnOk P w K mg base CX0 1 f fd ["terms"] spTurnT := by
  refine F.ok sc_turned_terms (fun vs H Q E h => ?_) (fun cdv A outer s H vs Q E hr h => ?_)
  · obtain ⟨t, ts, rfl, ht, hz, k⟩ := h
    rfl
  · obtain ⟨t, ts, rfl, ht, hz, k⟩ := h
    have hu := hu_of hr
    rw [show defBody sturned_terms = [_] from rfl]
    refine ⟨_, (pss_one (ps_ret (pe_callTy call_tuple_of (by rfl) T.tuple boot_tuple (pa_cons (pe_comp (compSc_mk ["thing", "weight"] [] [] rfl (by decide +kernel) (by decide +kernel) (by with_unfolding_all rfl) (by exact trivial) (by rfl) rfl (by rfl)) rfl (pi_tup (pv 0)) (fun _ _ _ _ => (pg_tupK (K := K) (n := 2) rfl rfl (pgs_cons (pg_name (i := 0) (show List.Nodup (["thing", "weight"] : List Str) by decide +kernel) rfl (Or.inl rfl) (Or.inr rfl)) (pgs_cons (pg_name (i := 1) (show List.Nodup (["thing", "weight"] : List Str) by decide +kernel) rfl (Or.inl rfl) (Or.inr rfl)) pgs_nil)))) (fun _ _ _ _ => pts_nil) (fun _ _ _ _ => (pe_tup (pa_cons (pv 0) (pa_cons (pe_un un_neg (pv 1)) pa_nil))))) pa_nil)))), ?_⟩
    refine ⟨_, rfl, t, rfl, comp_tp ht (fun i ys H' => Same H H' ∧ Prs H' ys ((ts.take i).map fun q => (q.1, -q.2))) ⟨Same.refl _, .nil⟩ (fun i ys H' q => Kp.of q.1) ?_ ?_⟩
    · rintro i v pr ys H' hi ⟨b, rfl, hb⟩ ⟨sm, py⟩
      have hil : i < ts.length := (List.getElem?_eq_some_iff.mp hi).1
      refine ⟨b, _, rfl, SqT.of hb, rfl, _, _, rfl, _, _, rfl, rfl, Ext.two, alwT ⟨_, rfl, _, rfl, _, rfl, (by show 2 ≤ sizeLine; exact Nat.le_of_lt (line 2 (by decide))), fun q hq => ⟨?_, Same.new sm hq, ?_⟩⟩⟩
      · rw [prs_len py, List.length_map, List.length_take]
        exact line _ (by omega)
      · rw [take_snoc hi, List.map_append]
        exact prs_app (py.keep fun _ _ z => new hq _ _ z) (prs_one ⟨q, rfl, upd_same⟩)
    rintro ys H' ⟨sm, py⟩ q hq
    rw [List.take_length] at py
    refine ⟨q, _, rfl, .inl ⟨SqL.of upd_same, fun r hr' => ?_⟩⟩
    have s2 := (new (o := .lst ys) hq).trans (new (o := .tup ys) hr')
    exact k r _ (sm.trans s2) ⟨ys, upd_same, py.keep fun _ _ z => s2 _ _ z⟩
end
end Hw
namespace Hw
open PySem L2 PyProof.Rows
section
variable {P : Program} {w : World} {K : PySem.W.Frag} {mg : Str → Option Value} {base : Heap}
abbrev sother_side : Stmt := top 10
theorem sc_other_side : FnScope ["total"] ["total"] (defScope sother_side) := ⟨rfl, rfl, rfl, by decide +kernel, rfl, by decide +kernel, by decide +kernel⟩
theorem ok_other_side {f C : Addr} {fd : FuncData} {n : Nat} (F : Fun K "other_side" "other_side" sother_side f fd) (T : Txt K mg C) (J : TxP K mg) (d_init : Mr P w K mg base 1 C ["self", "terms", "number"] (spInit C)) (d_turned_terms : Dn P w K mg base 1 "turned_terms" ["terms"] spTurnT) : FnOk P w K mg base CX0 3 f fd ["total"] (spOther C) := by
  obtain ⟨f_init, fd_init, G_Sum_init, M_Sum, b_Sum_init⟩ := d_init
  obtain ⟨f_turned_terms, fd_turned_terms, G_turned_terms, mg_turned_terms, kp_turned_terms, b_turned_terms⟩ := d_turned_terms
  refine F.ok sc_other_side (fun vs H Q E h => ?_) (fun cdv A outer s H vs Q E hr h => ?_)
  · obtain ⟨p, s0, rfl, S, k⟩ := h
    rfl
  · obtain ⟨p, s0, rfl, S, k⟩ := h
    have hu := hu_of hr
    rw [show defBody sother_side = [_] from rfl]
    refine ⟨_, (pss_one (ps_ret (pe_make M_Sum G_Sum_init (hr.mono (by first | decide | omega)) rfl T.mg_Sum b_Sum_init .nil pass0 (pa_cons (pe_call G_turned_terms (hr.mono (by first | decide | omega)) rfl mg_turned_terms kp_turned_terms b_turned_terms .nil pass0 (pa_cons (pe_fld (pv 0) rfl) pa_nil)) (pa_cons (pe_op op_sub (pe_un un_neg (pe_fld (pv 0) rfl)) pe_int) pa_nil))))), ?_⟩
    obtain ⟨dx, t, hp, ht, hz⟩ := S
    refine ⟨_, rfl, p, C, dx, _, _, rfl, hp, T.cl, T.nT, sflds_terms _ _, t, s0.1, rfl, ht, hz, fun r H1 s1 tp => ?_⟩
    refine ⟨_, rfl, p, C, dx, _, _, rfl, s1 _ _ hp, T.cl, T.nN, sflds_number _ _, _, rfl, _, _, rfl, rfl, fun x dx2 hx hdx ne => ?_⟩
    have h1 : Same H1 (upd (upd H1 dx2 (.own x)) x (.ins C dx2 [])) := made_same hx hdx
    refine ⟨x, dx2, r, (opp s0).2, (opp s0).1, rfl, upd_same, .inr (tp.same h1), (by show (s0.1.map _).length ≤ 1000; rw [List.length_map]; exact hz), fun H2 but S2 => ⟨rfl, ?_⟩⟩
    exact k x H2 (fun b o z => but b o (h1 _ _ (s1 _ _ z)) (ne_of_none (s1 _ _ z) hx)) S2
end
end Hw
namespace Hw
open PySem L2 PyProof.Rows
section
variable {P : Program} {w : World} {K : PySem.W.Frag} {mg : Str → Option Value} {base : Heap}
abbrev sdivided : Stmt := top 9
theorem sc_divided : FnScope ["total", "divisor"] ["total", "divisor"] (defScope sdivided) := ⟨rfl, rfl, rfl, by decide +kernel, rfl, by decide +kernel, by decide +kernel⟩
theorem ok_divided {f C : Addr} {fd : FuncData} {n : Nat} (F : Fun K "divided" "divided" sdivided f fd) (T : Txt K mg C) (J : TxP K mg) (d_init : Mr P w K mg base 1 C ["self", "terms", "number"] (spInit C)) : FnOk P w K mg base CX0 3 f fd ["total", "divisor"] (spDivided C) := by
  obtain ⟨f_init, fd_init, G_Sum_init, M_Sum, b_Sum_init⟩ := d_init
  refine F.ok sc_divided (fun vs H Q E h => ?_) (fun cdv A outer s H vs Q E hr h => ?_)
  · obtain ⟨p, ts, n0, d, rfl, S, hd, hd5, k⟩ := h
    rfl
  · obtain ⟨p, ts, n0, d, rfl, S, hd, hd5, k⟩ := h
    have hu := hu_of hr
    rw [show defBody sdivided = [_] from rfl]
    refine ⟨_, (pss_one (ps_ret (pe_make M_Sum G_Sum_init (hr.mono (by first | decide | omega)) rfl T.mg_Sum b_Sum_init .nil pass0 (pa_cons (pe_comp (compSc_mk ["thing", "weight"] ["divisor"] [1] rfl (by decide +kernel) (by decide +kernel) (by with_unfolding_all rfl) (by exact ⟨rfl, trivial⟩) (by rfl) rfl (by rfl)) rfl (pi_tup (pe_fld (pv 0) rfl)) (fun _ _ _ _ => (pg_tupK (K := K) (n := 2) rfl rfl (pgs_cons (pg_name (i := 0) (show List.Nodup (["thing", "weight", "divisor"] : List Str) by decide +kernel) rfl (Or.inl rfl) (Or.inr rfl)) (pgs_cons (pg_name (i := 1) (show List.Nodup (["thing", "weight", "divisor"] : List Str) by decide +kernel) rfl (Or.inl rfl) (Or.inr rfl)) pgs_nil)))) (fun _ _ _ _ => pts_nil) (fun _ _ _ _ => (pe_tup (pa_cons (pv 0) (pa_cons (pe_op op_fdiv (pv 1) (pv 2)) pa_nil))))) (pa_cons (pe_op op_fdiv (pe_fld (pv 0) rfl) (pv 1)) pa_nil))))), ?_⟩
    obtain ⟨dx, t, hp, ht, hz⟩ := S
    refine ⟨_, rfl, p, C, dx, _, _, rfl, hp, T.cl, T.nT, sflds_terms _ _, t, rfl, comp_tp ht (fun i ys H' => Same H H' ∧ Prs H' ys ((ts.take i).map fun q => (q.1, q.2 / d))) ⟨Same.refl _, .nil⟩ (fun i ys H' q => Kp.of q.1) ?_ ?_⟩
    · rintro i v pr ys H' hi ⟨b, rfl, hb⟩ ⟨sm, py⟩
      have hil : i < ts.length := (List.getElem?_eq_some_iff.mp hi).1
      refine ⟨b, _, rfl, SqT.of hb, rfl, _, _, rfl, _, _, rfl, rfl, Ext.two, alwT ⟨_, rfl, _, rfl, _, rfl, _, _, rfl, rfl, ⟨by omega, by omega⟩, (by show 2 ≤ sizeLine; exact Nat.le_of_lt (line 2 (by decide))), fun q hq => ⟨?_, Same.new sm hq, ?_⟩⟩⟩
      · rw [prs_len py, List.length_map, List.length_take]
        exact line _ (by omega)
      · rw [take_snoc hi, List.map_append]
        exact prs_app (py.keep fun _ _ z => new hq _ _ z) (prs_one ⟨q, rfl, upd_same⟩)
    rintro ys H' ⟨sm, py⟩ q hq
    rw [List.take_length] at py
    have s1 : Same H (upd H' q (.lst ys)) := Same.new sm hq
    refine ⟨_, rfl, p, C, dx, _, _, rfl, s1 _ _ hp, T.cl, T.nN, sflds_number _ _, _, rfl, _, _, rfl, rfl, ⟨by omega, by omega⟩, fun x dx2 hx hdx ne => ?_⟩
    have h1 : Same (upd H' q (.lst ys)) (upd (upd (upd H' q (.lst ys)) dx2 (.own x)) x (.ins C dx2 [])) := made_same hx hdx
    refine ⟨x, dx2, q, n0 / d, ts.map fun q => (q.1, q.2 / d), rfl, upd_same, .inl ⟨ys, h1 _ _ upd_same, py.keep fun _ _ z => h1 _ _ (new hq _ _ z)⟩, (by rw [List.length_map]; exact hz), fun H2 but S2 => ⟨rfl, ?_⟩⟩
    exact k x H2 (fun b o z => but b o (h1 _ _ (s1 _ _ z)) (ne_of_none (s1 _ _ z) hx)) S2
end
end Hw
namespace Hw
open PySem L2 PyProof.Rows
section
variable {P : Program} {w : World} {K : PySem.W.Frag} {mg : Str → Option Value} {base : Heap}
abbrev sline_of : Stmt := top 8
theorem sc_line_of : FnScope ["lines", "line", "pairs", "number", "often", "place"] ["lines", "line"] (defScope sline_of) := ⟨rfl, rfl, rfl, by decide +kernel, rfl, by decide +kernel, by decide +kernel⟩
theorem ok_line_of {f C : Addr} {fd : FuncData} {n : Nat} (F : Fun K "line_of" "line_of" sline_of f fd) (T : Txt K mg C) (J : TxP K mg) (d_sum_of : Dn P w K mg base 3 "sum_of" ["pairs", "number"] (spSumOf C)) (d_divided : Dn P w K mg base 3 "divided" ["total", "divisor"] (spDivided C)) : FnOk P w K mg base CX0 4 f fd ["lines", "line"] (spLineOf C) := by
  obtain ⟨f_sum_of, fd_sum_of, G_sum_of, mg_sum_of, kp_sum_of, b_sum_of⟩ := d_sum_of
  obtain ⟨f_divided, fd_divided, G_divided, mg_divided, kp_divided, b_divided⟩ := d_divided
  refine F.ok sc_line_of (fun vs H Q E h => ?_) (fun cdv A outer s H vs Q E hr h => ?_)
  · obtain ⟨xs, L, v, us, ss, l, rfl, hL, hS, hx, hg, hv, hr0, k⟩ := h
    rfl
  · obtain ⟨xs, L, v, us, ss, l, rfl, hL, hS, hx, hg, hv, hr0, k⟩ := h
    have hu := hu_of hr
    rw [show defBody sline_of = [_, _, _, _, _] from rfl]
    refine ⟨_, (pss_cons (ps_if (pt_cmpR op_eq (pe_ix ix_seq (pv 1) pe_int (fun _ _ => rfl)) pe_str (nomark _)) (pss_one (ps_ret (pe_call G_divided (hr.mono (by first | decide | omega)) rfl mg_divided kp_divided b_divided .nil pass0 (pa_cons (pe_ix ix_list (pv 0) (pe_ix ix_seq (pv 1) pe_int (fun _ _ => rfl)) (fun _ _ => rfl)) (pa_cons (pe_ix ix_seq (pv 1) pe_int (fun _ _ => rfl)) pa_nil))))) pss_nil)
      (pss_cons (ps_set (i := 2) sc_line_of.nd rfl (Or.inl rfl) (pe_lst pa_nil))
      (pss_cons (ps_set (i := 3) sc_line_of.nd rfl (Or.inl rfl) pe_int)
      (pss_cons (ps_for PassesOwn.never rfl (pi_tup (pe_ix ix_seq (pv 1) pe_int (fun _ _ => rfl))) (pg_tup rfl (pgs_cons (pg_name (i := 4) sc_line_of.nd rfl (Or.inr rfl)) (pgs_cons (pg_name (i := 5) sc_line_of.nd rfl (Or.inl rfl)) pgs_nil))) (pss_cons (ps_expr (pe_bm PySem.F.plainAttrs_list PySem.F.slot_list_extend PySem.F.type_list_extend mt_extend (pv 2) (pa_cons (pe_comp (compSc_mk ["thing", "weight"] ["often"] [4] rfl (by decide +kernel) (by decide +kernel) (by with_unfolding_all rfl) (by exact ⟨rfl, trivial⟩) (by rfl) rfl (by rfl)) rfl (pi_tup (pe_fld (pe_ix ix_list (pv 0) (pv 5) (fun _ _ => rfl)) rfl)) (fun _ _ _ _ => (pg_tupK (K := K) (n := 2) rfl rfl (pgs_cons (pg_name (i := 0) (show List.Nodup (["thing", "weight", "often"] : List Str) by decide +kernel) rfl (Or.inl rfl) (Or.inr rfl)) (pgs_cons (pg_name (i := 1) (show List.Nodup (["thing", "weight", "often"] : List Str) by decide +kernel) rfl (Or.inl rfl) (Or.inr rfl)) pgs_nil)))) (fun _ _ _ _ => pts_nil) (fun _ _ _ _ => (pe_tup (pa_cons (pv 0) (pa_cons (pe_op op_mul (pv 2) (pv 1)) pa_nil))))) pa_nil)))
      (pss_one (ps_set (i := 3) sc_line_of.nd rfl (Or.inl rfl) (pe_op op_add (pv 3) (pe_op op_mul (pv 4) (pe_fld (pe_ix ix_list (pv 0) (pv 5) (fun _ _ => rfl)) rfl)))))))
      (pss_one (ps_ret (pe_call G_sum_of (hr.mono (by first | decide | omega)) rfl mg_sum_of kp_sum_of b_sum_of .nil pass0 (pa_cons (pv 2) (pa_cons (pv 3) pa_nil))))))))), ?_⟩
    have hl := paired_len hS
    cases l with
    | cut k0 d =>
      obtain ⟨a, rfl, sq⟩ := hv
      obtain ⟨h1, h5, s, es, hm⟩ := hr0
      have hk : k0 < us.length := by rw [hl]; exact (List.getElem?_eq_some_iff.mp es).1
      obtain ⟨p, s', ep, es', S⟩ := sm_at hS hk
      rw [es] at es'
      cases es'
      refine ⟨_, rfl, ixV sq rfl ⟨rfl, _, rfl, iteDT rfl ?_⟩⟩
      refine ⟨_, rfl, _, rfl, ixV sq rfl ⟨L, _, _, _, rfl, rfl, SqL.of hL, atI_nat ep, _, rfl, ixV sq rfl ?_⟩⟩
      exact ⟨p, s.1, s.2, d, rfl, S, h1, h5, fun r H1 s1 S1 => k r (s.1.map fun q => (q.1, q.2 / d), s.2 / d) H1 s1 ⟨s, es, rfl⟩ S1⟩
    | add ws =>
      obtain ⟨a, t, ps, rfl, sq, et, hp⟩ := hv
      obtain ⟨h1, h5, hw⟩ := hr0
      have pl := paired_len hp
      refine ⟨_, rfl, ixV sq rfl ⟨rfl, _, rfl, iteDF (by decide +kernel) ?_⟩⟩
      refine ⟨Nat.zero_le _, fun pr hpr => ?_⟩
      have s1 := new (o := .lst []) hpr
      have sq1 := sq.same s1
      refine ⟨_, rfl, ixV sq1 rfl ⟨t, rfl, ⟨ps, SqT.of (s1 _ _ et)⟩, for_tup (xs := ps) (fun i σ H' => ∃ o1 o2, σ = [some (.ref L), some (.ref a), some (.ref pr), some (.int (catN ss (ws.take i))), o1, o2] ∧ But pr H H' ∧ Lp H' pr (catP ss (ws.take i))) ⟨none, none, rfl, But.of s1, ⟨[], upd_same, .nil⟩⟩ ?_ ?_ ?_⟩⟩
      · rintro i σ H' _ ⟨o1, o2, rfl, b1, _⟩
        exact SqT.of (b1 _ _ et (ne_of_none et hpr))
      · rintro i v σ H' hi ⟨o1, o2, rfl, b1, lp⟩
        have hil : i < ps.length := (List.getElem?_eq_some_iff.mp hi).1
        obtain ⟨x, ex, q, rfl, eq⟩ := paired_at hp hi
        obtain ⟨w1, w2, w3⟩ := hw x (List.mem_of_getElem? ex)
        have sN : Same H H' := b1.same hpr
        obtain ⟨p, s, ep, es, S⟩ := sm_at (hS.hard (Hard.of sN)) (k := x.2) (by rw [hl]; exact w3)
        obtain ⟨dx, tt, hp1, htt, hz⟩ := S
        have gs := hg s (List.mem_of_getElem? es)
        have s3 := gs.len hx
        have eD := getD_of es
        have hL1 := sN _ _ hL
        have cl := catP_len hx hg (ws := ws.take i) fun p hp => (hw p (List.mem_of_mem_take hp)).2.2
        rw [List.length_take] at cl
        obtain ⟨vs, evs, rvs⟩ := lp
        refine ⟨q, _, rfl, SqT.of (sN _ _ eq), rfl, _, _, rfl, _, _, rfl, rfl, ?_⟩
        refine ⟨_, rfl, .inl ⟨rfl, _, SqL.of evs⟩, _, rfl, _, rfl, L, _, _, _, rfl, rfl, SqL.of hL1, atI_nat ep, p, C, dx, _, _, rfl, hp1, T.cl, T.nT, sflds_terms _ _, tt, rfl, comp_tp htt (fun j ys H2 => Same H' H2 ∧ Prs H2 ys ((s.1.take j).map fun q => (q.1, x.1 * q.2))) ⟨Same.refl _, .nil⟩ (fun j ys H2 q => Kp.of q.1) ?_ ?_⟩
        · rintro j v pr0 ys H2 hj ⟨b, rfl, hb⟩ ⟨sm, py⟩
          have hjl : j < s.1.length := (List.getElem?_eq_some_iff.mp hj).1
          refine ⟨b, _, rfl, SqT.of hb, rfl, _, _, rfl, _, _, rfl, rfl, Ext.two, alwT ⟨_, rfl, _, rfl, _, rfl, _, _, rfl, rfl, .inl ⟨by omega, by omega⟩, (by show 2 ≤ sizeLine; exact Nat.le_of_lt (line 2 (by decide))), fun q hq => ⟨?_, Same.new sm hq, ?_⟩⟩⟩
          · rw [prs_len py, List.length_map, List.length_take]
            exact line _ (by omega)
          · rw [take_snoc hj, List.map_append]
            exact prs_app (py.keep fun _ _ z => new hq _ _ z) (prs_one ⟨q, rfl, upd_same⟩)
        rintro ys H2 ⟨sm, py⟩ lq hlq
        rw [List.take_length] at py
        have s5 : Same H' (upd H2 lq (.lst ys)) := sm.trans (new hlq)
        have pyl := prs_len py
        rw [List.length_map] at pyl
        have rl := prs_len rvs
        refine ⟨pr, lq, _, _, rfl, rfl, s5 _ _ evs, upd_same, (by rw [rl, pyl]; exact Nat.le_of_lt (line _ (by omega))), ?_⟩
        have npr : ∀ c ys, (upd H2 lq (.lst ys)) c = some (.tup ys) → True := fun _ _ _ => trivial
        have evs5 := s5 _ _ evs
        have py5 := py.keep fun _ _ z => new (o := .lst ys) hlq _ _ z
        have rv5 := rvs.keep fun _ _ z => s5 _ _ z
        have s6 : But pr (upd H2 lq (.lst ys)) (upd (upd H2 lq (.lst ys)) pr (.lst (vs ++ ys))) := But.upd
        have np : ∀ {c : Addr} {o : HO}, H' c = some o → c ≠ pr → (upd (upd H2 lq (.lst ys)) pr (.lst (vs ++ ys))) c = some o := fun z n => s6 _ _ (s5 _ _ z) n
        have npL : L ≠ pr := ne_of_none hL hpr
        have npp : p ≠ pr := fun z => by rw [z, evs] at hp1; cases hp1
        refine ⟨_, rfl, _, rfl, _, rfl, _, rfl, L, _, _, _, rfl, rfl, SqL.of (np hL1 npL), atI_nat ep, p, C, dx, _, _, rfl, np hp1 npp, T.cl, T.nN, sflds_number _ _, _, _, rfl, rfl, .inl ⟨by omega, by omega⟩, _, _, rfl, rfl, ?_⟩
        have et1 : ws.take (i + 1) = ws.take i ++ [x] := take_snoc ex
        refine ⟨some (.int x.1), some (.int x.2), ?_, (b1.trans (But.of s5)).trans s6, ?_⟩
        · rw [et1, catN_snoc, eD]
          rfl
        · rw [et1, catP_snoc, eD]
          exact ⟨_, upd_same, (prs_app rv5 py5).keep (s6.tups evs5)⟩
      · rintro σ H' ⟨o1, o2, rfl, b1, lp⟩
        rw [pl, List.take_length] at lp ⊢
        have cl := catP_len hx hg (ws := ws) fun p hp => (hw p hp).2.2
        exact ⟨_, rfl, _, rfl, pr, catN ss ws, catP ss ws, rfl, .inl lp, by omega, fun r ts H2 s2 g _ S2 => k r (ts, catN ss ws) H2 ((b1.same hpr).trans s2) ⟨g, rfl⟩ S2⟩
end
end Hw
namespace Hw
open PySem L2 PyProof.Rows
section
variable {P : Program} {w : World} {K : PySem.W.Frag} {mg : Str → Option Value} {base : Heap}
abbrev sboth_end_well : Stmt := top 13
theorem sc_both_end_well : FnScope ["lines", "line", "splits"] ["lines", "line", "splits"] (defScope sboth_end_well) := ⟨rfl, rfl, rfl, by decide +kernel, rfl, by decide +kernel, by decide +kernel⟩
theorem ok_both_end_well {f C : Addr} {fd : FuncData} {n : Nat} (F : Fun K "both_end_well" "both_end_well" sboth_end_well f fd) (T : Txt K mg C) (J : TxP K mg) (d_other_side : Dn P w K mg base 3 "other_side" ["total"] (spOther C)) (d_ends_well : Dn P w K mg base (14 * n + 5) "ends_well" ["lines", "paper", "splits"] (spEW C n)) : FnOk P w K mg base CX0 (14 * n + 6) f fd ["lines", "line", "splits"] (spBoth2 C n) := by
  obtain ⟨f_other_side, fd_other_side, G_other_side, mg_other_side, kp_other_side, b_other_side⟩ := d_other_side
  obtain ⟨f_ends_well, fd_ends_well, G_ends_well, mg_ends_well, kp_ends_well, b_ends_well⟩ := d_ends_well
  refine F.ok sc_both_end_well (fun vs H Q E h => ?_) (fun cdv A outer s H vs Q E hr h => ?_)
  · obtain ⟨xs, L, a, p, q1, q2, m, us, ss, s0, rfl, hm, hL, hS, hx, hg, hul, sq, S, gs, k1, k2, k⟩ := h
    rfl
  · obtain ⟨xs, L, a, p, q1, q2, m, us, ss, s0, rfl, hm, hL, hS, hx, hg, hul, sq, S, gs, k1, k2, k⟩ := h
    have hu := hu_of hr
    rw [show defBody sboth_end_well = [_, _] from rfl]
    refine ⟨_, (pss_cons (ps_if (pt_not (pt_val (pe_call G_ends_well (hr.mono (by first | decide | omega)) rfl mg_ends_well kp_ends_well b_ends_well .nil pass0 (pa_cons (pe_op op_cat (pv 0) (pe_lst (pa_cons (pe_ix ix_seq (pv 1) pe_int (fun _ _ => rfl)) pa_nil))) (pa_cons (pe_ix ix_seq (pv 1) pe_int (fun _ _ => rfl)) (pa_cons (pv 2) pa_nil)))))) (pss_one (ps_ret pe_bl)) pss_nil)
      (pss_one (ps_ret (pe_call G_ends_well (hr.mono (by first | decide | omega)) rfl mg_ends_well kp_ends_well b_ends_well .nil pass0 (pa_cons (pe_op op_cat (pv 0) (pe_lst (pa_cons (pe_call G_other_side (hr.mono (by first | decide | omega)) rfl mg_other_side kp_other_side b_other_side .nil pass0 (pa_cons (pe_ix ix_seq (pv 1) pe_int (fun _ _ => rfl)) pa_nil)) pa_nil))) (pa_cons (pe_ix ix_seq (pv 1) pe_int (fun _ _ => rfl)) (pa_cons (pv 2) pa_nil))))))), ?_⟩
    have one : ∀ (z : V), (us ++ [z]).length + 10 * n ≤ 60 := fun z => by rw [List.length_append]; show us.length + 1 + 10 * n ≤ 60; omega
    have go : ∀ {s1 : Sm}, Gm xs s1 → ∀ t ∈ ss ++ [s1], Gm xs t := fun h t ht => by
      rcases List.mem_append.mp ht with z | z
      · exact hg t z
      · rw [List.mem_singleton.mp z]; exact h
    refine ⟨_, rfl, _, rfl, ixV sq rfl ⟨Nat.le_of_lt (line 1 (by decide)), fun l1 h1 => ?_⟩⟩
    have s1 := new (o := .lst [V.ref p]) h1
    refine ⟨L, l1, us, [V.ref p], rfl, rfl, s1 _ _ hL, upd_same, (Nat.le_of_lt (line _ (by have := one (V.ref p); rw [List.length_append] at this; omega))), fun l2 h2 => ?_⟩
    have s2 := s1.trans (new (o := .lst (us ++ [V.ref p])) h2)
    have h20 : H l2 = none := none_of_new h2
    refine ⟨_, rfl, ixV (sq.same s2) rfl ⟨_, rfl, xs, l2, q1, m, H, us ++ [V.ref p], ss ++ [s0], rfl, hm, upd_same, paired_snoc (hS.hard (Hard.of s2)) ⟨p, rfl, S.same s2⟩, hx, go gs, one _, h20, s2, k1, fun H3 b3 => ⟨true, rfl, ifF rfl ?_⟩⟩⟩
    have s3 : Same H H3 := fun b o z => b3 _ _ (s2 _ _ z) (ne_of_none z h20)
    refine ⟨_, rfl, _, rfl, ixV (sq.same s3) rfl ⟨p, s0, rfl, S.same s3, fun r H4 s4 S4 => ⟨Nat.le_of_lt (line 1 (by decide)), fun l5 h5 => ?_⟩⟩⟩
    have s5 := (s3.trans s4).trans (new (o := .lst [V.ref r]) h5)
    have S5 := S4.same (new (o := .lst [V.ref r]) h5)
    refine ⟨L, l5, us, [V.ref r], rfl, rfl, s5 _ _ hL, upd_same, (Nat.le_of_lt (line _ (by have := one (V.ref r); rw [List.length_append] at this; omega))), fun l6 h6 => ?_⟩
    have n6 := new (o := .lst (us ++ [V.ref r])) h6
    have s6 := s5.trans n6
    have h60 : H l6 = none := Option.eq_none_iff_forall_not_mem.mpr fun o z => by
      have := s5 _ _ z
      rw [h6] at this
      cases this
    refine ⟨_, rfl, ixV (sq.same s6) rfl ⟨_, rfl, xs, l6, q2, m, H, us ++ [V.ref r], ss ++ [opp s0], rfl, hm, upd_same, paired_snoc (hS.hard (Hard.of s6)) ⟨r, rfl, S5.same n6⟩, hx, go (gm_opp gs), one _, h60, s6, k2, fun H7 b7 => ?_⟩⟩
    exact k _ fun b o z => b7 _ _ (s6 _ _ z) (ne_of_none z h60)
end
end Hw
namespace Hw
open PySem L2 PyProof.Rows
section
variable {P : Program} {w : World} {K : PySem.W.Frag} {mg : Str → Option Value} {base : Heap}
abbrev sends_well : Stmt := top 12
theorem sc_ends_well : FnScope ["lines", "paper", "splits", "place", "line"] ["lines", "paper", "splits"] (defScope sends_well) := ⟨rfl, rfl, rfl, by decide +kernel, rfl, by decide +kernel, by decide +kernel⟩
theorem ok_ends_well {f C : Addr} {fd : FuncData} {n : Nat} (F : Fun K "ends_well" "ends_well" sends_well f fd) (T : Txt K mg C) (J : TxP K mg) (d_is_several : Dn P w K mg base 1 "is_several" ["what"] spSev) (d_is_split : Dn P w K mg base 4 "is_split" ["line"] (spIsSplit C)) (d_both_end_well : Dn P w K mg base (14 * n + 6) "both_end_well" ["lines", "line", "splits"] (spBoth2 C n)) (d_is_right : Dn P w K mg base 5 "is_right" ["lines", "line"] (spIsRight C)) (d_line_of : Dn P w K mg base 4 "line_of" ["lines", "line"] (spLineOf C)) (d_is_never : Dn P w K mg base 1 "is_never" ["total"] (spNever C)) : FnOk P w K mg base CX0 (14 * n + 19) f fd ["lines", "paper", "splits"] (spEW C (n + 1)) := by
  obtain ⟨f_is_several, fd_is_several, G_is_several, mg_is_several, kp_is_several, b_is_several⟩ := d_is_several
  obtain ⟨f_is_split, fd_is_split, G_is_split, mg_is_split, kp_is_split, b_is_split⟩ := d_is_split
  obtain ⟨f_both_end_well, fd_both_end_well, G_both_end_well, mg_both_end_well, kp_both_end_well, b_both_end_well⟩ := d_both_end_well
  obtain ⟨f_is_right, fd_is_right, G_is_right, mg_is_right, kp_is_right, b_is_right⟩ := d_is_right
  obtain ⟨f_line_of, fd_line_of, G_line_of, mg_line_of, kp_line_of, b_line_of⟩ := d_line_of
  obtain ⟨f_is_never, fd_is_never, G_is_never, mg_is_never, kp_is_never, b_is_never⟩ := d_is_never
  refine F.ok sc_ends_well (fun vs H Q E h => ?_) (fun cdv A outer s H vs Q E hr h => ?_)
  · obtain ⟨xs, L, pp, m, H0, us, ss, rfl, hm, hL, hS, hx, hg, hul, h0, s0, hpp, k⟩ := h
    rfl
  · obtain ⟨xs, L, pp, m, H0, us, ss, rfl, hm, hL, hS, hx, hg, hul, h0, s0, hpp, k⟩ := h
    have hu := hu_of hr
    rw [show defBody sends_well = [_, _, _] from rfl]
    refine ⟨_, (pss_cons (ps_if (pt_not (pt_val (pe_call G_is_several (hr.mono (by first | decide | omega)) rfl mg_is_several kp_is_several b_is_several .nil pass0 (pa_cons (pv 1) pa_nil)))) (pss_one (ps_ret pe_bl)) pss_nil)
      (pss_cons (ps_for PassesOwn.never rfl (pi_enum rfl J.enumerate boot_enumerate (pa_cons (pv 1) pa_nil)) (pg_tup rfl (pgs_cons (pg_name (i := 3) sc_ends_well.nd rfl (Or.inl rfl)) (pgs_cons (pg_name (i := 4) sc_ends_well.nd rfl (Or.inl rfl)) pgs_nil))) (pss_cons (ps_if (pt_val (pe_call G_is_split (hr.mono (by first | decide | omega)) rfl mg_is_split kp_is_split b_is_split .nil pass0 (pa_cons (pv 4) pa_nil))) (pss_one (ps_ret (pe_and (pe_cmpR op_eq (pv 3) (pe_op op_sub (pe_callB call_len_seq (by rfl) T.len PySem.boot_len (pa_cons (pv 1) pa_nil)) pe_int) (nomark _)) (pe_and (pe_cmpR op_gt (pv 2) pe_int (nomark _)) (pe_one (pe_call G_both_end_well (hr.mono (by first | decide | omega)) rfl mg_both_end_well kp_both_end_well b_both_end_well .nil pass0 (pa_cons (pv 0) (pa_cons (pv 4) (pa_cons (pe_op op_sub (pv 2) pe_int) pa_nil))))))))) pss_nil)
      (pss_cons (ps_if (pt_not (pt_val (pe_call G_is_right (hr.mono (by first | decide | omega)) rfl mg_is_right kp_is_right b_is_right .nil pass0 (pa_cons (pv 0) (pa_cons (pv 4) pa_nil))))) (pss_one (ps_ret pe_bl)) pss_nil)
      (pss_one (ps_expr (pe_bm PySem.F.plainAttrs_list PySem.F.slot_list_append PySem.F.type_list_append mt_append (pv 0) (pa_cons (pe_call G_line_of (hr.mono (by first | decide | omega)) rfl mg_line_of kp_line_of b_line_of .nil pass0 (pa_cons (pv 0) (pa_cons (pv 4) pa_nil))) pa_nil)))))))
      (pss_one (ps_ret (pe_and (pe_cmpR op_gt (pe_callB call_len_seq (by rfl) T.len PySem.boot_len (pa_cons (pv 0) pa_nil)) pe_int (nomark _)) (pe_one (pe_call G_is_never (hr.mono (by first | decide | omega)) rfl mg_is_never kp_is_never b_is_never .nil pass0 (pa_cons (pe_ix ix_list (pv 0) (pe_un un_neg pe_int) (fun _ _ => rfl)) pa_nil)))))))), ?_⟩
    obtain ⟨ls0, ls, vs, sqp, hls, l8, hpp⟩ := hpp
    have sqH := sqp.same s0
    have npL : pp ≠ L := fun z => by
      rcases sqp with q | q <;> rw [z, h0] at q <;> cases q
    refine ⟨_, rfl, pp, vs, rfl, sqH, fun H1 s1 => ⟨true, rfl, ifF rfl ?_⟩⟩
    have lls := paired_len hls
    have lus := paired_len hS
    have stay : ∀ (i : Nat) (σ : L2.St) (H' : Hp), But L H1 H' → ∀ o, H1 pp = some o → H' pp = some o := fun i σ H' b o z => b _ _ z npL
    have key : ∀ {F : List Sm → Prop}, Ok ls ss F → ∃ F' : List Sm → Prop, F' = F ∧ Ok ls ss F' := fun h => ⟨_, rfl, h⟩
    obtain ⟨FF, hok, hend⟩ : ∃ FF : List Sm → Prop, Ok ls ss FF ∧ ((vs = ls0 ∧ ∀ z, FF z → Neg z) ∨ ∃ a p q1 q2 t, vs = ls0 ++ [V.ref a] ∧ SqV H0 a [.str "split", .ref p, .ref q1, .ref q2] ∧ SumAt C H0 p t.1 t.2 ∧ Gm xs t ∧ ∀ z, FF z → PapAt C xs n H0 q1 (z ++ [t]) ∧ PapAt C xs n H0 q2 (z ++ [opp t])) := by
      rcases hpp with ⟨e, o⟩ | ⟨a, p, q1, q2, t, e, h1, h2, h3, o⟩
      · exact ⟨_, o, .inl ⟨e, fun _ z => z⟩⟩
      · exact ⟨_, o, .inr ⟨a, p, q1, q2, t, e, h1, h2, h3, fun _ z => z⟩⟩
    have vls : ls.length ≤ vs.length ∧ vs.length ≤ ls.length + 1 := by
      rcases hend with ⟨e, _⟩ | ⟨_, _, _, _, _, e, _⟩
      · rw [e]; omega
      · rw [e, List.length_append]; simp; omega
    refine ⟨_, rfl, pp, rfl, for_enum (sqH.same s1) (fun i σ H' => ∃ (o1 o2 : Option V) (us' : List V) (ss' : List Sm), σ = [some (.ref L), some (.ref pp), some (.int m), o1, o2] ∧ But L H1 H' ∧ H' L = some (.lst us') ∧ Sms C H' us' ss' ∧ (∀ t ∈ ss', Gm xs t) ∧ us'.length ≤ us.length + i ∧ i ≤ ls.length ∧ Ok (ls.drop i) ss' FF) ⟨none, none, us, ss, rfl, fun _ _ z _ => z, s1 _ _ hL, hS.hard (Hard.of s1), hg, by omega, Nat.zero_le _, hok⟩ (fun i σ H' q => stay i σ H' (let ⟨_, _, _, _, _, b, _⟩ := q; b)) ?_ ?_⟩
    · rintro i x t σ H' hi ht ⟨o1, o2, us', ss', rfl, b1, hL1, hS1, hg1, hl1, il, ok1⟩
      have n1 := new (o := .tup [.int i, x]) ht
      have sA : Same H0 (upd H' t (.tup [.int i, x])) := fun b o z => n1 _ _ (b1 _ _ (s1 _ _ (s0 _ _ z)) fun q => by rw [q, h0] at z; cases z)
      have bA : But L H (upd H' t (.tup [.int i, x])) := ((But.of s1).trans b1).trans (But.of n1)
      have hL1 := n1 _ _ hL1
      have hS1 := hS1.hard (Hard.of n1)
      have ett : (upd H' t (.tup [.int i, x])) t = some (.tup [.int i, x]) := upd_same
      have bA1 : But L H1 (upd H' t (.tup [.int i, x])) := b1.trans (But.of n1)
      generalize upd H' t (.tup [.int i, x]) = H2 at n1 sA bA bA1 hL1 hS1 ett ⊢
      refine ⟨t, _, rfl, SqT.of ett, rfl, _, _, rfl, _, _, rfl, rfl, ?_⟩
      by_cases hc : i < ls.length
      · have hx0 : ls0[i]? = some x := by
          rcases hend with ⟨e, _⟩ | ⟨_, _, _, _, _, e, _⟩
          · rw [← e]; exact hi
          · rw [e, List.getElem?_append_left (by omega)] at hi; exact hi
        obtain ⟨l, el, hln⟩ := paired_at hls hx0
        have hdr : ls.drop i = l :: ls.drop (i + 1) := by
          rw [List.drop_eq_getElem_cons hc]
          rw [List.getElem?_eq_getElem hc] at el
          rw [Option.some.inj el]
        rw [hdr] at ok1
        obtain ⟨rt, ok1⟩ := ok1
        have lnA := hln.same sA
        obtain ⟨a, ys, rfl, sqa, y4⟩ : ∃ a ys, x = .ref a ∧ SqV H2 a ys ∧ ys.length ≠ 4 := by
          cases l with
          | cut k0 d => obtain ⟨a, e, q⟩ := lnA; exact ⟨a, _, e, q, by simp⟩
          | add ws => obtain ⟨a, t, ps, e, q, _⟩ := lnA; exact ⟨a, _, e, q, by simp⟩
        refine ⟨_, rfl, a, ys, rfl, sqa, .inl ⟨y4, fun H3 s3 => ⟨_, rfl, ifF rfl ?_⟩⟩⟩
        refine ⟨_, rfl, _, rfl, L, _, us', ss', l, rfl, s3 _ _ hL1, hS1.hard (Hard.of s3), lnA.same s3, rt, fun H4 s4 => ⟨_, rfl, ifF rfl ?_⟩⟩
        have s34 := s3.trans s4
        refine ⟨_, rfl, .inl ⟨rfl, _, SqL.of (s34 _ _ hL1)⟩, _, rfl, _, rfl, xs, L, _, us', ss', l, rfl, s34 _ _ hL1, hS1.hard (Hard.of s34), hx, hg1, lnA.same s34, rt, fun r sm H5 s5 hIs S5 => ?_⟩
        have s35 := s34.trans s5
        have hL5 := s35 _ _ hL1
        refine ⟨L, _, _, rfl, rfl, hL5, line _ (by omega), ?_⟩
        have h5 : Hard H5 (upd H5 L (.lst (us' ++ [V.ref r]))) := hard_upd hL5
        refine ⟨_, _, us' ++ [V.ref r], ss' ++ [sm], rfl, (bA1.trans (But.of s35)).trans But.upd, upd_same, paired_snoc ((hS1.hard (Hard.of s35)).hard h5) ⟨r, rfl, S5.hard h5⟩, fun t ht => ?_, (by rw [List.length_append]; show us'.length + 1 ≤ _; omega), hc, ok1 sm hIs⟩
        rcases List.mem_append.mp ht with z | z
        · exact hg1 t z
        · rw [List.mem_singleton.mp z]; exact is_gm hg1 rt hIs
      · have hie : i = ls.length := by omega
        have hiv : i < vs.length := (List.getElem?_eq_some_iff.mp hi).1
        rcases hend with ⟨e, _⟩ | ⟨a, p, q1, q2, t0, e, sq4, Sp, gt, hF⟩
        · rw [e] at hiv; omega
        have hxa : x = .ref a := by
          rw [e, List.getElem?_append_right (by omega), show i - ls0.length = 0 by omega] at hi
          exact (Option.some.inj hi).symm
        subst hxa
        have gl := gt.len hx
        refine ⟨_, rfl, a, _, rfl, sq4.same sA, .inr ⟨p, _, _, t0.1, t0.2, rfl, Sp.same sA, gt.1, gl, fun H3 s3 => ⟨_, rfl, ifT rfl ?_⟩⟩⟩
        have sqp3 : SqV H3 pp vs := sqp.same (sA.trans s3)
        have evl : (vs.length : Int) - 1 = (i : Int) := by
          rw [e, List.length_append]; simp; omega
        refine ⟨_, rfl, _, rfl, pp, _, rfl, lenV sqp3, _, _, rfl, rfl, rfl, _, rfl, iteDT (by show V.int (i : Int) = V.int ((vs.length : Int) - 1); rw [evl]) ?_⟩
        have ok2 : FF ss' := by
          rw [List.drop_of_length_le (by omega)] at ok1
          exact ok1
        obtain ⟨pa, pb⟩ := hF _ ok2
        cases n with
        | zero => exact pa.elim
        | succ n =>
          refine ⟨_, rfl, _, _, rfl, rfl, _, rfl, iteDT (by show (0 : Int) < m; omega) ?_⟩
          have s03 := sA.trans s3
          refine ⟨_, rfl, _, rfl, _, rfl, _, _, rfl, rfl, xs, L, a, p, q1, q2, m - 1, us', ss', t0, rfl, (by show ((n + 1 : Nat) : Int) ≤ m - 1 + 1; omega), s3 _ _ hL1, hS1.hard (Hard.of s3), hx, hg1, ?_, sq4.same s03, Sp.same s03, gt, pa.same s03, pb.same s03, fun H4 s4 => ?_⟩
          · omega
          · exact k _ (bA.trans (But.of (s3.trans s4)))
    · rintro σ H' ⟨o1, o2, us', ss', rfl, b1, hL1, hS1, hg1, hl1, il, ok1⟩
      obtain ⟨e, hF⟩ : vs = ls0 ∧ ∀ z, FF z → Neg z := by
        rcases hend with h | ⟨a, p, q1, q2, t0, e, _⟩
        · exact h
        · rw [e, List.length_append] at il
          simp at il
          omega
      have ok2 : FF ss' := by
        rw [List.drop_of_length_le (by omega)] at ok1
        exact ok1
      obtain ⟨nn, egl, hneg⟩ := hF _ ok2
      have lss := paired_len hS1
      have pos : 0 < us'.length := by
        rw [lss]
        cases ss' with
        | nil => cases egl
        | cons _ _ => exact Nat.succ_pos _
      obtain ⟨p, s', ep, es, S⟩ := sm_at hS1 (k := us'.length - 1) (by omega)
      have es2 : s' = ([], nn) := by
        rw [List.getLast?_eq_getElem?, ← lss, es] at egl
        exact Option.some.inj egl
      subst es2
      refine ⟨_, rfl, L, _, rfl, .inl (SqL.of hL1), _, _, rfl, rfl, _, rfl, iteDT (by show (0 : Int) < (us'.length : Int); omega) ?_⟩
      refine ⟨_, rfl, _, rfl, L, _, _, _, rfl, rfl, SqL.of hL1, atI_m1 pos ep, p, nn, rfl, S, hneg, ?_⟩
      exact k _ ((But.of s1).trans b1)
end
end Hw
namespace Hw
open PySem L2 PyProof.Rows
section
variable {P : Program} {w : World} {K : PySem.W.Frag} {mg : Str → Option Value} {base : Heap}
abbrev srefutes : Stmt := top 7
theorem sc_refutes : FnScope ["case", "paper"] ["case", "paper"] (defScope srefutes) := ⟨rfl, rfl, rfl, by decide +kernel, rfl, by decide +kernel, by decide +kernel⟩
theorem ok_refutes {f C : Addr} {fd : FuncData} {n : Nat} (F : Fun K "refutes" "refutes" srefutes f fd) (T : Txt K mg C) (J : TxP K mg) (d_is_several : Dn P w K mg base 1 "is_several" ["what"] spSev) (d_is_sum : Dn P w K mg base 3 "is_sum" ["what"] (spIsSum C)) (d_ends_well : Dn P w K mg base 33 "ends_well" ["lines", "paper", "splits"] (spEW C 2)) : FnOk P w K mg base CX0 36 f fd ["case", "paper"] (spRefutes C) := by
  obtain ⟨f_is_several, fd_is_several, G_is_several, mg_is_several, kp_is_several, b_is_several⟩ := d_is_several
  obtain ⟨f_is_sum, fd_is_sum, G_is_sum, mg_is_sum, kp_is_sum, b_is_sum⟩ := d_is_sum
  obtain ⟨f_ends_well, fd_ends_well, G_ends_well, mg_ends_well, kp_ends_well, b_ends_well⟩ := d_ends_well
  obtain ⟨tMS, mgMS⟩ := J.most
  refine F.ok sc_refutes (fun vs H Q E h => ?_) (fun cdv A outer s H vs Q E hr h => ?_)
  · obtain ⟨xs, c, pp, us, ss, rfl, sq, hS, hx, hg, hl, hp, k⟩ := h
    rfl
  · obtain ⟨xs, c, pp, us, ss, rfl, sq, hS, hx, hg, hl, hp, k⟩ := h
    have hu := hu_of hr
    rw [show defBody srefutes = [_, _] from rfl]
    refine ⟨_, (pss_cons (ps_if (PW.pt (pw_or (pt_not (pt_val (pe_call G_is_several (hr.mono (by first | decide | omega)) rfl mg_is_several kp_is_several b_is_several .nil pass0 (pa_cons (pv 0) pa_nil)))) (pw_or1 (pt_not (pt_val (pe_callB (call_all rfl) (by rfl) J.all boot_all (pa_cons (pe_comp (compSc_mk ["total"] [] [] rfl (by decide +kernel) (by decide +kernel) (by with_unfolding_all rfl) (by exact trivial) (by rfl) rfl (by rfl)) rfl (pi_seq (pv 0)) (fun _ _ _ _ => (pg_name (i := 0) (show List.Nodup (["total"] : List Str) by decide +kernel) rfl (Or.inl rfl) (Or.inr rfl))) (fun _ _ _ _ => pts_nil) (fun _ _ _ _ => (pe_call G_is_sum (hr.mono (by first | decide | omega)) rfl mg_is_sum kp_is_sum b_is_sum .nil pass0 (pa_cons (pv 0) pa_nil)))) pa_nil))))))) (pss_one (ps_ret pe_bl)) pss_nil)
      (pss_one (ps_ret (pe_call G_ends_well (hr.mono (by first | decide | omega)) rfl mg_ends_well kp_ends_well b_ends_well .nil pass0 (pa_cons (pe_callTy call_list_of (by rfl) T.list boot_list (pa_cons (pv 0) pa_nil)) (pa_cons (pv 1) (pa_cons (pe_glob (v := .int 20) rfl mgMS ⟨_, rfl⟩) pa_nil))))))), ?_⟩
    have lus := paired_len hS
    refine ⟨_, rfl, c, us, rfl, sq, fun H1 s1 => ⟨true, rfl, ifF rfl ?_⟩⟩
    have sq1 := sq.same s1
    refine ⟨_, rfl, c, rfl, comp_sqV sq1 (fun i ys H' => Same H1 H' ∧ ys = (List.replicate i true).map V.bl) ⟨Same.refl _, rfl⟩ (fun i ys H' q o z => q.1 _ _ z) ?_ ?_⟩
    · rintro i v ys H' hi ⟨s2, rfl⟩
      obtain ⟨sm, es, p, rfl, S⟩ := paired_at hS hi
      have gs := hg sm (List.mem_of_getElem? es)
      have hil : i < us.length := (List.getElem?_eq_some_iff.mp hi).1
      refine ⟨Ext.one, alwT ⟨_, rfl, p, sm.1, sm.2, rfl, S.same (s1.trans s2), gs.1, gs.len hx, fun H3 s3 => ⟨?_, s2.trans s3, rep_snoc i⟩⟩⟩
      rw [rep_len]; exact line _ (by omega)
    rintro ys H' ⟨s2, rfl⟩ q hq
    refine ⟨q, _, rfl, SqL.of upd_same, _, rfl, ifF (by rw [rep_all]; rfl) ?_⟩
    have s3 := (s1.trans s2).trans (new (o := .lst ((List.replicate us.length true).map V.bl)) hq)
    refine ⟨_, rfl, c, us, rfl, lenV (sq.same s3), fun L hL => ?_⟩
    have s4 := s3.trans (new (o := .lst us) hL)
    have hL0 : H L = none := Option.eq_none_iff_forall_not_mem.mpr fun o z => by
      have := s3 _ _ z
      rw [hL] at this
      cases this
    refine ⟨_, rfl, xs, L, pp, 20, H, us, ss, rfl, (by decide), upd_same, hS.hard (Hard.of s4), hx, hg, by omega, hL0, s4, hp, fun H5 b5 => ?_⟩
    exact k _ fun b o z => b5 _ _ (s4 _ _ z) (ne_of_none z hL0)
end
end Hw
namespace Hw
open PySem L2 PyProof.Rows
section
variable {P : Program} {w : World} {K : PySem.W.Frag} {mg : Str → Option Value} {base : Heap}
abbrev sl_sums : Stmt := top 28
theorem sc_l_sums : FnScope ["_law_draw", "_law_things", "_law_many", "_law_found", "_law_k", "_law_pairs", "_law_divisor"] ["_law_draw", "_law_things", "_law_many"] (defScope sl_sums) := ⟨rfl, rfl, rfl, by decide +kernel, rfl, by decide +kernel, by decide +kernel⟩
theorem ok_l_sums {f C : Addr} {fd : FuncData} {n : Nat} (F : Fun K "_law_sums" "_law_sums" sl_sums f fd) (T : Txt K mg C) (J : TxP K mg) (d_l_next : Dn P w K mg base 2 "_law_next" ["_law_draw", "_law_size"] spNext) (d_sum_of : Dn P w K mg base 3 "sum_of" ["pairs", "number"] (spSumOf C)) : FnOk P w K mg base CX0 4 f fd ["_law_draw", "_law_things", "_law_many"] (spLSums C) := by
  obtain ⟨f_l_next, fd_l_next, G_l_next, mg_l_next, kp_l_next, b_l_next⟩ := d_l_next
  obtain ⟨f_sum_of, fd_sum_of, G_sum_of, mg_sum_of, kp_sum_of, b_sum_of⟩ := d_sum_of
  refine F.ok sc_l_sums (fun vs H Q E h => ?_) (fun cdv A outer s H vs Q E hr h => ?_)
  · obtain ⟨d, l, xs, m, rfl, hd, hl, hx, hm, k⟩ := h
    rfl
  · obtain ⟨d, l, xs, m, rfl, hd, hl, hx, hm, k⟩ := h
    have hu := hu_of hr
    rw [show defBody sl_sums = [_, _, _] from rfl]
    refine ⟨_, (pss_cons (ps_set (i := 3) sc_l_sums.nd rfl (Or.inl rfl) (pe_lst pa_nil))
      (pss_cons (ps_for PassesOwn.never rfl (pi_range1 rfl T.range (pa_cons (pv 2) pa_nil)) (pg_name (i := 4) sc_l_sums.nd rfl (Or.inl rfl)) (pss_cons (ps_setC (i := 5) sc_l_sums.nd rfl (Or.inl rfl) (compSc_mk ["_law_thing"] ["_law_draw"] [0] rfl (by decide +kernel) (by decide +kernel) (by with_unfolding_all rfl) (by exact ⟨rfl, trivial⟩) (by rfl) rfl (by rfl)) rfl (pi_list (pv 1)) (fun _ _ _ _ => (pg_name (i := 0) (show List.Nodup (["_law_thing", "_law_draw"] : List Str) by decide +kernel) rfl (Or.inl rfl) (Or.inr rfl))) (fun _ _ _ _ => pts_nil) (fun _ _ _ _ => (pe_tup (pa_cons (pv 0) (pa_cons (pe_ix (ix_listK (K := K) rfl) (pe_lst (pa_cons pe_int (pa_cons (pe_un un_neg pe_int) (pa_cons pe_int (pa_cons pe_int (pa_cons (pe_un un_neg pe_int) pa_nil)))))) (pe_call G_l_next (hr.mono (by first | decide | omega)) rfl mg_l_next kp_l_next b_l_next .nil pass0 (pa_cons (pv 1) (pa_cons pe_int pa_nil))) (fun _ _ => rfl)) pa_nil)))))
      (pss_cons (ps_set (i := 6) sc_l_sums.nd rfl (Or.inl rfl) (pe_ix ix_list (pe_lst (pa_cons pe_int (pa_cons pe_int (pa_cons pe_int (pa_cons pe_int (pa_cons pe_int pa_nil)))))) (pe_call G_l_next (hr.mono (by first | decide | omega)) rfl mg_l_next kp_l_next b_l_next .nil pass0 (pa_cons (pv 0) (pa_cons pe_int pa_nil))) (fun _ _ => rfl)))
      (pss_one (ps_expr (pe_bm PySem.F.plainAttrs_list PySem.F.slot_list_append PySem.F.type_list_append mt_append (pv 3) (pa_cons (pe_tup (pa_cons (pe_call G_sum_of (hr.mono (by first | decide | omega)) rfl mg_sum_of kp_sum_of b_sum_of .nil pass0 (pa_cons (pv 5) (pa_cons (pe_op op_sub (pe_call G_l_next (hr.mono (by first | decide | omega)) rfl mg_l_next kp_l_next b_l_next .nil pass0 (pa_cons (pv 0) (pa_cons pe_int pa_nil))) pe_int) pa_nil))) (pa_cons (pv 6) (pa_cons (pe_call G_l_next (hr.mono (by first | decide | omega)) rfl mg_l_next kp_l_next b_l_next .nil pass0 (pa_cons (pv 0) (pa_cons (pv 6) pa_nil))) pa_nil)))) pa_nil)))))))
      (pss_one (ps_ret (pv 3))))), ?_⟩
    have nld : l ≠ d := by
      obtain ⟨x0, y0, ed⟩ := id hd
      refine ne_of hl ed fun z => ?_
      cases xs with
      | nil => cases z
      | cons a b => cases z
    refine ⟨Nat.zero_le _, fun r hr0 => ?_⟩
    have s0 := new (o := .lst []) hr0
    have nrd : r ≠ d := hd.ne hr0
    refine ⟨_, rfl, (m : Int), rfl, by omega, by omega, for_range (n := (m : Int).toNat) (fun i σ H' => ∃ (us : List V) (ds : List Dw) (o4 o5 o6 : Option V), σ = [some (.ref d), some (.ref l), some (.int m), some (.ref r), o4, o5, o6] ∧ But d H H' ∧ Dr H' d ∧ H' r = some (.lst us) ∧ Dws C H' us ds ∧ ds.length = i ∧ ∀ x ∈ ds, DwOk xs x) ⟨[], [], none, none, none, rfl, But.of s0, hd.same s0, upd_same, .nil, rfl, (fun _ h => nomatch h)⟩ ?_ ?_⟩
    · rintro i σ H2 hi ⟨us, ds, o4, o5, o6, rfl, F2, D2, er, dws, dl, dok⟩
      have el := F2 _ _ hl nld
      have i3 : i < 3 := by have : ((m : Int).toNat) = m := rfl; omega
      refine ⟨_, rfl, l, rfl, ⟨_, SqL.of el⟩, comp_list (xs := xs.map V.str) (fun j ys H' => But d H2 H' ∧ Dr H' d ∧ ∃ ps : Ps, Prs H' ys ps ∧ ps.length = j ∧ ∀ p ∈ ps, p.1 ∈ xs) ⟨(fun _ _ z _ => z), D2, [], .nil, rfl, (fun _ h => nomatch h)⟩ (fun j ys H' _ q => SqL.of (q.1 _ _ el nld)) ?_ ?_⟩
      · rintro j v ys H3 hj ⟨b3, d3, ps, pr, pl, pin⟩
        obtain ⟨x, hxj, rfl⟩ : ∃ x, xs[j]? = some x ∧ v = V.str x := by
          rw [List.getElem?_map] at hj
          cases q : xs[j]? with
          | none => rw [q] at hj; cases hj
          | some y => rw [q] at hj; cases hj; exact ⟨y, rfl, rfl⟩
        have hjl : j < xs.length := (List.getElem?_eq_some_iff.mp hxj).1
        refine ⟨Ext.one, alwT ⟨_, rfl, _, rfl, _, rfl, (by show 5 ≤ sizeLine; exact Nat.le_of_lt (line 5 (by decide))), fun q hq => ⟨_, rfl, d, 5, rfl, d3.same (new hq), (by decide), fun rr H4 h4 b4 d4 => ?_⟩⟩⟩
        obtain ⟨z, hz⟩ : ∃ z, ([V.int 1, V.int (-1), V.int 0, V.int 2, V.int (-3)] : List V)[rr]? = some (V.int z) := by
          have : rr = 0 ∨ rr = 1 ∨ rr = 2 ∨ rr = 3 ∨ rr = 4 := by omega
          rcases this with e | e | e | e | e <;> subst e <;> exact ⟨_, rfl⟩
        have nq : q ≠ d := d3.ne hq
        refine ⟨q, _, _, _, rfl, rfl, SqL.of (b4 _ _ upd_same nq), atI_nat hz, (by show 2 ≤ sizeLine; exact Nat.le_of_lt (line 2 (by decide))), fun t ht => ⟨?_, ((b3.new hq).trans b4).new ht, d4.same (new ht), ps ++ [(x, z)], ?_, ?_, fun p hp => ?_⟩⟩
        · rw [prs_len pr, pl]; exact line _ (by omega)
        · have h34 : Hard H3 H4 := (Hard.of (new hq)).trans ((d3.same (new hq)).soft b4)
          exact prs_app (pr.keep fun _ _ z => new ht _ _ (h34.t _ _ z)) (prs_one ⟨t, rfl, upd_same⟩)
        · rw [List.length_append, pl]; rfl
        · rcases List.mem_append.mp hp with z | z
          · exact pin p z
          · rw [List.mem_singleton.mp z]; exact List.mem_of_getElem? hxj
      rintro ys H3 ⟨b3, d3, ps, pr, pl, pin⟩ q hq
      rw [List.length_map] at pl
      have nq : q ≠ d := d3.ne hq
      have sq := new (o := .lst ys) hq
      have hA : Hard H2 (upd H3 q (.lst ys)) := (D2.soft b3).trans (Hard.of sq)
      have bA := b3.trans (But.of sq)
      have dA := d3.same sq
      have eq0 : (upd H3 q (.lst ys)) q = some (.lst ys) := upd_same
      have prA := pr.keep fun _ _ z => sq _ _ z
      generalize upd H3 q (.lst ys) = H4 at sq hA bA dA eq0 prA ⊢
      refine ⟨(by show 5 ≤ sizeLine; exact Nat.le_of_lt (line 5 (by decide))), fun q2 hq2 => ⟨_, rfl, d, 5, rfl, dA.same (new hq2), (by decide), fun r1 H5 h5 b5 d5 => ?_⟩⟩
      obtain ⟨dv, hdv, dv1, dv5⟩ : ∃ z : Int, ([V.int 1, V.int 1, V.int 2, V.int 3, V.int 5] : List V)[r1]? = some (V.int z) ∧ 1 ≤ z ∧ z ≤ 5 := by
        have : r1 = 0 ∨ r1 = 1 ∨ r1 = 2 ∨ r1 = 3 ∨ r1 = 4 := by omega
        rcases this with e | e | e | e | e <;> subst e <;> exact ⟨_, rfl, by decide, by decide⟩
      refine ⟨q2, _, _, _, rfl, rfl, SqL.of (b5 _ _ upd_same (dA.ne hq2)), atI_nat hdv, ?_⟩
      have bB := (bA.new hq2).trans b5
      have hB : Hard H4 H5 := (Hard.of (new hq2)).trans ((dA.same (new hq2)).soft b5)
      have erB := bB _ _ er nrd
      have eqB : H5 q = some (.lst ys) := b5 _ _ (new hq2 _ _ eq0) nq
      refine ⟨_, rfl, .inl ⟨rfl, _, SqL.of erB⟩, _, rfl, _, rfl, d, 9, rfl, d5, (by decide), fun r2 H6 h6 b6 d6 => ⟨_, _, rfl, rfl, ?_⟩⟩
      have hC := hB.trans (d5.soft b6)
      refine ⟨q, _, ps, rfl, .inl ⟨ys, b6 _ _ eqB nq, prA.keep hC.t⟩, by omega, fun p ts H7 s7 g tl S => ⟨_, rfl, _, rfl, _, rfl, d, dv, rfl, d6.same s7, by omega, fun r3 H8 h8 b8 d8 => ⟨(by show 3 ≤ sizeLine; exact Nat.le_of_lt (line 3 (by decide))), fun t ht => ?_⟩⟩⟩
      have bC := ((bB.trans b6).trans (But.of s7)).trans b8
      have h78 := (d6.same s7).soft b8
      have sT := new (o := .tup [.ref p, .int dv, .int r3]) ht
      have erC := sT _ _ (bC _ _ er nrd)
      have lus := paired_len dws
      refine ⟨r, _, _, rfl, rfl, erC, line _ (by omega), ?_⟩
      have hU := hard_upd (ys := us ++ [V.ref t]) erC
      have hD : Hard H2 (upd (upd H8 t (.tup [.ref p, .int dv, .int r3])) r (.lst (us ++ [V.ref t]))) := ((((hA.trans hC).trans (Hard.of s7)).trans h78).trans (Hard.of sT)).trans hU
      refine ⟨us ++ [V.ref t], ds ++ [((ts, (r2 : Int) - 4), dv, (r3 : Int))], _, _, _, rfl, fun b o e n => ?_, ?_, upd_same, paired_snoc (dws.hard hD) ⟨t, p, rfl, hU.t _ _ upd_same, ((S.hard h78).same sT).hard hU⟩, ?_, fun x hx' => ?_⟩
      · rw [upd_ne (ne_of_none e hr0)]
        exact sT _ _ ((F2.trans bC) b o e n)
      · obtain ⟨x8, y8, q8⟩ := d8
        exact ⟨x8, y8, by rw [upd_ne nrd.symm]; exact sT _ _ q8⟩
      · rw [List.length_append, dl]; rfl
      · rcases List.mem_append.mp hx' with z | z
        · exact dok x z
        · rw [List.mem_singleton.mp z]
          refine ⟨gat_gm g fun t ht => ?_, dv1, dv5, by show (0 : Int) ≤ (r3 : Int); omega, by show (r3 : Int) < dv; exact h8⟩
          obtain ⟨p0, hp0, rfl⟩ := List.mem_map.mp ht
          exact pin p0 hp0
    · rintro σ H' ⟨us, ds, o4, o5, o6, rfl, F2, D2, er, dws, dl, dok⟩
      exact ⟨_, rfl, k r us ds H' F2 D2 hr0 er dws dl dok⟩
end
end Hw
namespace Hw
open PySem L2 PyProof.Rows
section
variable {P : Program} {w : World} {K : PySem.W.Frag} {mg : Str → Option Value} {base : Heap}
abbrev sl_last : Stmt := top 29
theorem sc_l_last : FnScope ["_law_draw", "_law_sums_here", "_law_more", "_law_weights", "_law_found", "_law_k"] ["_law_draw", "_law_sums_here", "_law_more"] (defScope sl_last) := ⟨rfl, rfl, rfl, by decide +kernel, rfl, by decide +kernel, by decide +kernel⟩
theorem ok_l_last {f C : Addr} {fd : FuncData} {n : Nat} (F : Fun K "_law_last" "_law_last" sl_last f fd) (T : Txt K mg C) (J : TxP K mg) (d_l_next : Dn P w K mg base 2 "_law_next" ["_law_draw", "_law_size"] spNext) (d_sum_of : Dn P w K mg base 3 "sum_of" ["pairs", "number"] (spSumOf C)) (d_less : Mt P w K mg base 5 C "less" ["self", "other"] (spLess C)) (d_times : Mt P w K mg base 4 C "times" ["self", "number"] (spTimes C)) : FnOk P w K mg base CX0 6 f fd ["_law_draw", "_law_sums_here", "_law_more"] (spLLast C) := by
  obtain ⟨f_l_next, fd_l_next, G_l_next, mg_l_next, kp_l_next, b_l_next⟩ := d_l_next
  obtain ⟨f_sum_of, fd_sum_of, G_sum_of, mg_sum_of, kp_sum_of, b_sum_of⟩ := d_sum_of
  obtain ⟨f_less, fd_less, G_Sum_less, m_less, b_Sum_less⟩ := d_less
  obtain ⟨f_times, fd_times, G_Sum_times, m_times, b_Sum_times⟩ := d_times
  refine F.ok sc_l_last (fun vs H Q E h => ?_) (fun cdv A outer s H vs Q E hr h => ?_)
  · obtain ⟨d, l, p, xs, us, ds, s0, rfl, hd, hl, dws, d3, dok, hx, S0, g0, k⟩ := h
    rfl
  · obtain ⟨d, l, p, xs, us, ds, s0, rfl, hd, hl, dws, d3, dok, hx, S0, g0, k⟩ := h
    have hu := hu_of hr
    rw [show defBody sl_last = [_, _, _, _] from rfl]
    refine ⟨_, (pss_cons (ps_setC (i := 3) sc_l_last.nd rfl (Or.inl rfl) (compSc_mk ["_law_one"] ["_law_draw"] [0] rfl (by decide +kernel) (by decide +kernel) (by with_unfolding_all rfl) (by exact ⟨rfl, trivial⟩) (by rfl) rfl (by rfl)) rfl (pi_list (pv 1)) (fun _ _ _ _ => (pg_name (i := 0) (show List.Nodup (["_law_one", "_law_draw"] : List Str) by decide +kernel) rfl (Or.inl rfl) (Or.inr rfl))) (fun _ _ _ _ => pts_nil) (fun _ _ _ _ => (pe_op op_add pe_int (pe_call G_l_next (hr.mono (by first | decide | omega)) rfl mg_l_next kp_l_next b_l_next .nil pass0 (pa_cons (pv 1) (pa_cons pe_int pa_nil))))))
      (pss_cons (ps_set (i := 4) sc_l_last.nd rfl (Or.inl rfl) (pe_meth (pe_call G_sum_of (hr.mono (by first | decide | omega)) rfl mg_sum_of kp_sum_of b_sum_of .nil pass0 (pa_cons (pe_tup pa_nil) (pa_cons (pe_op op_sub (pe_un un_neg pe_int) (pe_call G_l_next (hr.mono (by first | decide | omega)) rfl mg_l_next kp_l_next b_l_next .nil pass0 (pa_cons (pv 0) (pa_cons pe_int pa_nil)))) pa_nil))) T.cl m_less G_Sum_less (hr.mono (by first | decide | omega)) b_Sum_less .nil pass0 (pa_cons (pv 2) pa_nil)))
      (pss_cons (ps_for PassesOwn.never rfl (pi_range1 rfl T.range (pa_cons (pe_callB call_len_seq (by rfl) T.len PySem.boot_len (pa_cons (pv 1) pa_nil)) pa_nil)) (pg_name (i := 5) sc_l_last.nd rfl (Or.inl rfl)) (pss_one (ps_set (i := 4) sc_l_last.nd rfl (Or.inl rfl) (pe_meth (pv 4) T.cl m_less G_Sum_less (hr.mono (by first | decide | omega)) b_Sum_less .nil pass0 (pa_cons (pe_meth (pe_ix ix_tup (pe_ix ix_list (pv 1) (pv 5) (fun _ _ => rfl)) pe_int (fun _ _ => rfl)) T.cl m_times G_Sum_times (hr.mono (by first | decide | omega)) b_Sum_times .nil pass0 (pa_cons (pe_ix ix_list (pv 3) (pv 5) (fun _ _ => rfl)) pa_nil)) pa_nil)))))
      (pss_one (ps_ret (pe_tup (pa_cons (pv 4) (pa_cons (pv 3) pa_nil)))))))), ?_⟩
    have lus := paired_len dws
    have nld : l ≠ d := by
      obtain ⟨x0, y0, ed⟩ := id hd
      refine ne_of hl ed fun z => ?_
      have e : us = [V.int x0, V.int y0] := HO.lst.inj z
      rw [e] at dws
      cases dws with
      | cons h _ => obtain ⟨_, _, e, _⟩ := h; cases e
    refine ⟨_, rfl, l, rfl, ⟨_, SqL.of hl⟩, comp_list (xs := us) (fun j ys H' => But d H H' ∧ Dr H' d ∧ ∃ ws : List Int, ys = ws.map V.int ∧ ws.length = j ∧ ∀ w ∈ ws, 1 ≤ w ∧ w ≤ 3) ⟨(fun _ _ z _ => z), hd, [], rfl, rfl, (fun _ h => nomatch h)⟩ (fun j ys H' _ q => SqL.of (q.1 _ _ hl nld)) ?_ ?_⟩
    · rintro j v ys H3 hj ⟨b3, e3, ws, rfl, wl, wb⟩
      have hjl : j < us.length := (List.getElem?_eq_some_iff.mp hj).1
      refine ⟨Ext.one, alwT ⟨_, rfl, d, 3, rfl, e3, (by decide), fun rr H4 h4 b4 e4 => ⟨_, _, rfl, rfl, ?_, b3.trans b4, e4, ws ++ [1 + (rr : Int)], ?_, ?_, fun w hw => ?_⟩⟩⟩
      · rw [List.length_map, wl]; exact line _ (by omega)
      · rw [List.map_append]; rfl
      · rw [List.length_append, wl]; rfl
      · rcases List.mem_append.mp hw with z | z
        · exact wb w z
        · rw [List.mem_singleton.mp z]; omega
    rintro ys H1 ⟨b1, e1, ws, rfl, wl, wb⟩ q hq
    have nqd : q ≠ d := e1.ne hq
    have hq0 : H q = none := none_but b1 e1 hq
    have sq := new (o := .lst (ws.map V.int)) hq
    have b1 := b1.trans (But.of sq)
    have e1 := e1.same sq
    have eq1 : (upd H1 q (.lst (ws.map V.int))) q = some (.lst (ws.map V.int)) := upd_same
    generalize upd H1 q (.lst (ws.map V.int)) = H1 at sq b1 e1 eq1 ⊢
    refine ⟨Nat.zero_le _, fun t0 ht0 => ⟨_, rfl, _, rfl, d, 3, rfl, e1.same (new ht0), (by decide), fun r2 H2 h2 b2 e2 => ⟨_, _, rfl, rfl, ?_⟩⟩⟩
    have nt0 : t0 ≠ d := e1.ne ht0
    refine ⟨t0, _, [], rfl, .inr ⟨[], b2 _ _ upd_same nt0, .nil⟩, by decide, fun r3 ts H3 s3 g3 tl3 S3 => ?_⟩
    have bB : But d H H3 := ((b1.new ht0).trans b2).trans (But.of s3)
    have eB := e2.same s3
    have hAB : Hard H1 H3 := ((Hard.of (new ht0)).trans ((e1.same (new ht0)).soft b2)).trans (Hard.of s3)
    have S0B := S0.hard (hd.soft bB)
    have eqB : H3 q = some (.lst (ws.map V.int)) := s3 _ _ (b2 _ _ (new ht0 _ _ eq1) nqd)
    obtain ⟨ets, gts, evs⟩ := gm_num (xs := xs) (n := (-1 - (r2 : Int))) g3
    obtain ⟨dx3, t3, ep3, _, _⟩ := id S3
    have l0 := g0.len hx
    refine ⟨r3, dx3, _, rfl, ep3, sflds_no _ _ (by decide +kernel) (by decide +kernel), _, rfl, r3, p, ts, s0.1, _, s0.2, rfl, S3, S0B, (by rw [ets]; show 0 + s0.1.length < 64; omega), fun r4 ts4 H4 s4 g4 tl4 S4 => ?_⟩
    obtain ⟨gm4, ev4⟩ := gm_less gts g0 g4
    have bC := bB.trans (But.of s4)
    have eC := eB.same s4
    have hlC := bC _ _ hl nld
    have dwsC := dws.hard (hd.soft bC)
    have eqC := s4 _ _ eqB
    refine ⟨_, rfl, l, _, rfl, .inl (SqL.of hlC), (us.length : Int), rfl, by omega, by omega, for_range (n := (us.length : Int).toNat) (fun i σ H' => ∃ (o5 : Option V) (r : Addr) (t : Sm), σ = [some (.ref d), some (.ref l), some (.ref p), some (.ref q), some (.ref r), o5] ∧ Same H4 H' ∧ SumAt C H' r t.1 t.2 ∧ Gm xs t ∧ ∀ f, ev t f = (-1 - (r2 : Int)) - ev s0 f - wsum f (ws.take i) (ds.take i)) ⟨none, r4, (ts4, _), rfl, Same.refl _, S4, gm4, fun f => ?_⟩ ?_ ?_⟩
    · rw [ev4, evs]
      show _ = -1 - (r2 : Int) - ev s0 f - 0
      show (-1 - (r2 : Int)) - ev s0 f = _
      omega
    · rintro i σ H' hi ⟨o5, r, t, rfl, sL, Sr, gt, hev⟩
      have iu : i < us.length := hi
      obtain ⟨x, ex, tq, ps, rfl', etq, Sx⟩ := paired_at dwsC (List.getElem?_eq_getElem iu)
      have eu : us[i]? = some (.ref tq) := by rw [List.getElem?_eq_getElem iu, rfl']
      obtain ⟨gx, _, _, _, _⟩ := dok x (List.mem_of_getElem? ex)
      have iw : i < ws.length := by omega
      have ew := List.getElem?_eq_getElem iw
      obtain ⟨w1, w3⟩ := wb _ (List.getElem_mem iw)
      generalize ws[i] = w0 at ew w1 w3
      have ewV : (ws.map V.int)[i]? = some (V.int w0) := by rw [List.getElem?_map, ew]; rfl
      obtain ⟨dxr, tr, epr, _, _⟩ := id Sr
      have Sx := Sx.same sL
      obtain ⟨dxs, tss, eps, _, _⟩ := id Sx
      have lx := gx.len hx
      have lt := gt.len hx
      refine ⟨_, rfl, r, dxr, _, rfl, epr, sflds_no _ _ (by decide +kernel) (by decide +kernel), _, rfl, _, rfl, l, _, _, _, rfl, rfl, SqL.of (sL _ _ hlC), atI_z eu, tq, _, 0, _, rfl, rfl, SqT.of (sL _ _ etq), rfl, ps, dxs, _, rfl, eps, sflds_no _ _ (by decide +kernel) (by decide +kernel), _, rfl, _, rfl, q, _, _, _, rfl, rfl, SqL.of (sL _ _ eqC), atI_z ewV, ?_⟩
      refine ⟨ps, x.1.1, x.1.2, w0, rfl, Sx, by omega, ⟨by omega, by omega⟩, fun r5 ts5 H5 s5 g5 tl5 S5 => ?_⟩
      obtain ⟨gm5, ev5⟩ := gm_times gx g5
      refine ⟨r, r5, t.1, ts5, t.2, _, rfl, Sr.same s5, S5, by omega, fun r6 ts6 H6 s6 g6 tl6 S6 => ?_⟩
      obtain ⟨gm6, ev6⟩ := gm_less gt gm5 g6
      refine ⟨_, r6, (ts6, _), rfl, (sL.trans s5).trans s6, S6, gm6, fun f => ?_⟩
      have e1 : ws.take (i + 1) = ws.take i ++ [w0] := take_snoc ew
      have e2 : ds.take (i + 1) = ds.take i ++ [x] := take_snoc ex
      rw [ev6, ev5, hev, e1, e2, wsum_snoc f w0 x (by rw [List.length_take, List.length_take]; omega)]
      show _ = -1 - (r2 : Int) - ev s0 f - (wsum f (List.take i ws) (List.take i ds) + w0 * ev x.1 f)
      rw [Int.mul_comm w0]
      show (-1 - (r2 : Int) - ev s0 f - wsum f (List.take i ws) (List.take i ds)) - ev x.1 f * w0 = _
      omega
    rintro σ H' ⟨o5, r, t, rfl, sL, Sr, gt, hev⟩
    have hev : ∀ f, ev t f = (-1 - (r2 : Int)) - ev s0 f - wsum f ws ds := fun f => by
      have := hev f
      rw [show ((us.length : Int)).toNat = us.length from rfl, List.take_of_length_le (by omega), List.take_of_length_le (by omega)] at this
      exact this
    refine ⟨_, rfl, _, rfl, (by show 2 ≤ sizeLine; exact Nat.le_of_lt (line 2 (by decide))), fun tt htt => ?_⟩
    have sT := new (o := .tup [.ref r, .ref q]) htt
    have bE : But d H H' := bC.trans (But.of sL)
    have eE : Dr H' d := eC.same sL
    exact k tt r q t ws (-1 - (r2 : Int)) _ (bE.trans (But.of sT)) (eE.same sT) (none_but bE eE htt) upd_same hq0 (sT _ _ (sL _ _ eqC)) (Sr.same sT) gt ⟨by omega, wb⟩ (by omega) hev
end
end Hw
namespace Hw
open PySem L2 PyProof.Rows
section
variable {P : Program} {w : World} {K : PySem.W.Frag} {mg : Str → Option Value} {base : Heap}
abbrev sl_value : Stmt := top 31
theorem sc_l_value : FnScope ["_law_total", "_law_numbers"] ["_law_total", "_law_numbers"] (defScope sl_value) := ⟨rfl, rfl, rfl, by decide +kernel, rfl, by decide +kernel, by decide +kernel⟩
theorem ok_l_value {f C : Addr} {fd : FuncData} {n : Nat} (F : Fun K "_law_value" "_law_value" sl_value f fd) (T : Txt K mg C) (J : TxP K mg)  : FnOk P w K mg base CX0 1 f fd ["_law_total", "_law_numbers"] (spLValue C) := by
  refine F.ok sc_l_value (fun vs H Q E h => ?_) (fun cdv A outer s H vs Q E hr h => ?_)
  · obtain ⟨p, d, ts, ns, n0, rfl, S, N, hk, k⟩ := h
    rfl
  · obtain ⟨p, d, ts, ns, n0, rfl, S, N, hk, k⟩ := h
    have hu := hu_of hr
    rw [show defBody sl_value = [_] from rfl]
    refine ⟨_, (pss_one (ps_ret (pe_op op_add (pe_fld (pv 0) rfl) (pe_callB (call_sum rfl) (by rfl) T.sum boot_sum (pa_cons (pe_comp (compSc_mk ["_law_thing", "_law_times"] ["_law_numbers"] [1] rfl (by decide +kernel) (by decide +kernel) (by with_unfolding_all rfl) (by exact ⟨rfl, trivial⟩) (by rfl) rfl (by rfl)) rfl (pi_tup (pe_fld (pv 0) rfl)) (fun _ _ _ _ => (pg_tupK (K := K) (n := 2) rfl rfl (pgs_cons (pg_name (i := 0) (show List.Nodup (["_law_thing", "_law_times", "_law_numbers"] : List Str) by decide +kernel) rfl (Or.inl rfl) (Or.inr rfl)) (pgs_cons (pg_name (i := 1) (show List.Nodup (["_law_thing", "_law_times", "_law_numbers"] : List Str) by decide +kernel) rfl (Or.inl rfl) (Or.inr rfl)) pgs_nil)))) (fun _ _ _ _ => pts_nil) (fun _ _ _ _ => (pe_op op_mul (pv 1) (pe_dget hu (pv 2) (pv 0) (fun _ _ => rfl))))) pa_nil))))), ?_⟩
    obtain ⟨dx, t, hp, ht, hz⟩ := S
    have tz := line _ (show ts.length ≤ 100000 by omega)
    refine ⟨_, rfl, p, C, dx, _, _, rfl, hp, T.cl, T.nN, sflds_number _ _, _, rfl, p, C, dx, _, _, rfl, hp, T.cl, T.nT, sflds_terms _ _, t, rfl, comp_tp ht (fun i ys H' => H' = H ∧ ys = ((ts.take i).map fun q => q.2 * get ns q.1).map V.int) ⟨rfl, rfl⟩ (fun i ys H' q => q.1 ▸ Kp.refl) ?_ ?_⟩
    · rintro i v pr ys H' hi ⟨a, rfl, ha⟩ ⟨rfl, rfl⟩
      have hil : i < ts.length := (List.getElem?_eq_some_iff.mp hi).1
      have hm : pr.1 ∈ keys ns := hk _ (List.mem_map.mpr ⟨pr, List.mem_of_getElem? hi, rfl⟩)
      refine ⟨a, _, rfl, SqT.of ha, rfl, _, _, rfl, _, _, rfl, rfl, Ext.two, alwT ⟨_, rfl, _, rfl, _, rfl, d, _, rfl, nums_get N.at_ hm, _, _, rfl, rfl, .inr (N.fit _), ?_, rfl, ?_⟩⟩
      · rw [List.length_map, List.length_map, List.length_take]
        omega
      · rw [take_snoc hi, List.map_append, List.map_append]
        rfl
    · rintro ys H' ⟨rfl, rfl⟩ q hq
      refine ⟨q, _, rfl, SqL.of upd_same, _, _, rfl, rfl, ?_⟩
      rw [List.take_length, lin_sum]
      exact k _ (new hq)
end
end Hw
namespace Hw
open PySem L2 PyProof.Rows
section
variable {P : Program} {w : World} {K : PySem.W.Frag} {mg : Str → Option Value} {base : Heap}
abbrev sl_told : Stmt := top 34
theorem sc_l_told : FnScope ["_law_total"] ["_law_total"] (defScope sl_told) := ⟨rfl, rfl, rfl, by decide +kernel, rfl, by decide +kernel, by decide +kernel⟩
theorem ok_l_told {f C : Addr} {fd : FuncData} {n : Nat} (F : Fun K "_law_told" "_law_told" sl_told f fd) (T : Txt K mg C) (J : TxP K mg)  : FnOk P w K mg base CX0 1 f fd ["_law_total"] (spLTold C) := by
  refine F.ok sc_l_told (fun vs H Q E h => ?_) (fun cdv A outer s H vs Q E hr h => ?_)
  · obtain ⟨p, ts, n0, rfl, S, k⟩ := h
    rfl
  · obtain ⟨p, ts, n0, rfl, S, k⟩ := h
    have hu := hu_of hr
    rw [show defBody sl_told = [_] from rfl]
    refine ⟨_, (pss_one (ps_ret (pe_tup (pa_cons (pe_fld (pv 0) rfl) (pa_cons (pe_fld (pv 0) rfl) pa_nil))))), ?_⟩
    obtain ⟨dx, t, hp, ht, hz⟩ := S
    refine ⟨_, rfl, p, C, dx, _, _, rfl, hp, T.cl, T.nT, sflds_terms _ _, _, rfl, p, C, dx, _, _, rfl, hp, T.cl, T.nN, sflds_number _ _, (by show 2 ≤ sizeLine; exact Nat.le_of_lt (line 2 (by decide))), fun r hr0 => ?_⟩
    exact k r _ (new hr0) ⟨t, upd_same, ht.same (new hr0)⟩
end
end Hw
namespace Hw
open PySem L2 PyProof.Rows
section
variable {P : Program} {w : World} {K : PySem.W.Frag} {mg : Str → Option Value} {base : Heap}
abbrev sl_boxes : Stmt := top 32
theorem sc_l_boxes : FnScope ["_law_things", "_law_least", "_law_most", "_law_found", "_law_thing", "_law_more", "_law_numbers", "_law_number", "_law_other"] ["_law_things", "_law_least", "_law_most"] (defScope sl_boxes) := ⟨rfl, rfl, rfl, by decide +kernel, rfl, by decide +kernel, by decide +kernel⟩
theorem ok_l_boxes {f C : Addr} {fd : FuncData} {n : Nat} (F : Fun K "_law_boxes" "_law_boxes" sl_boxes f fd) (T : Txt K mg C) (J : TxP K mg)  : FnOk P w K mg base CX0 1 f fd ["_law_things", "_law_least", "_law_most"] spLBoxes := by
  refine F.ok sc_l_boxes (fun vs H Q E h => ?_) (fun cdv A outer s H vs Q E hr h => ?_)
  · obtain ⟨l, xs, rfl, hl, nd, hx, k⟩ := h
    rfl
  · obtain ⟨l, xs, rfl, hl, nd, hx, k⟩ := h
    have hu := hu_of hr
    rw [show defBody sl_boxes = [_, _, _] from rfl]
    refine ⟨_, (pss_cons (ps_set (i := 3) sc_l_boxes.nd rfl (Or.inl rfl) (pe_lst (pa_cons pe_dnewK pa_nil)))
      (pss_cons (ps_for PassesOwn.never rfl (pi_list (pv 0)) (pg_name (i := 4) sc_l_boxes.nd rfl (Or.inl rfl)) (pss_cons (ps_set (i := 5) sc_l_boxes.nd rfl (Or.inl rfl) (pe_lst pa_nil))
      (pss_cons (ps_for PassesOwn.never rfl (pi_list (pv 3)) (pg_name (i := 6) sc_l_boxes.nd rfl (Or.inl rfl)) (pss_one (ps_for PassesOwn.never rfl (pi_range2 rfl T.range (pa_cons (pv 1) (pa_cons (pe_op op_add (pv 2) pe_int) pa_nil))) (pg_name (i := 7) sc_l_boxes.nd rfl (Or.inl rfl)) (pss_cons (ps_set (i := 8) sc_l_boxes.nd rfl (Or.inl rfl) (pe_callTy call_dictOf (by rfl) T.dict boot_dict (pa_cons (pv 6) pa_nil)))
      (pss_cons (ps_dput hu (pv 8) (pv 4) (pv 7) rfl)
      (pss_one (ps_expr (pe_bm PySem.F.plainAttrs_list PySem.F.slot_list_append PySem.F.type_list_append mt_append (pv 5) (pa_cons (pv 8) pa_nil)))))))))
      (pss_one (ps_set (i := 3) sc_l_boxes.nd rfl (Or.inl rfl) (pv 5))))))
      (pss_one (ps_ret (pv 3))))), ?_⟩
    intro d0 hd0
    refine ⟨Nat.le_of_lt (line 1 (by decide)), fun f0 hf0 => ?_⟩
    have s0 := (new (o := .dK []) hd0).trans (new (o := .lst [V.ref d0]) hf0)
    have ed0 : (upd (upd H d0 (.dK [])) f0 (.lst [V.ref d0])) d0 = some (.dK []) := new hf0 _ _ upd_same
    refine ⟨_, rfl, l, rfl, ⟨_, SqL.of (s0 _ _ hl)⟩, for_list (xs := xs.map V.str) (fun i σ H' => ∃ (f : Addr) (us : List V) (o4 o5 o6 o7 o8 : Option V), σ = [some (.ref l), some (.int (-3)), some (.int 3), some (.ref f), o4, o5, o6, o7, o8] ∧ Same H H' ∧ H' f = some (.lst us) ∧ us.length ≤ 7 ^ i ∧ ∀ v ∈ us, BxAt H' (xs.take i) v) ⟨f0, [V.ref d0], none, none, none, none, none, rfl, s0, upd_same, Nat.le_refl _, fun v hv => ?_⟩ (fun i σ H' _ ⟨_, _, _, _, _, _, _, _, q, _⟩ => SqL.of (q _ _ hl)) ?_ ?_⟩
    · rw [List.mem_singleton.mp hv]
      exact ⟨d0, [], rfl, ⟨ed0, fun t => ⟨by show (-(2 ^ 64) : Int) < 0; decide, by show (0 : Int) < 2 ^ 64; decide⟩⟩, rfl⟩
    · rintro i v σ H2 hi ⟨f, us, o4, o5, o6, o7, o8, rfl, s2, ef, ul, bx⟩
      obtain ⟨x, hxi, rfl⟩ := str_at hi
      have il : i < xs.length := (List.getElem?_eq_some_iff.mp hxi).1
      have p7 : 7 ^ i ≤ 49 := by
        have : i = 0 ∨ i = 1 ∨ i = 2 := by omega
        rcases this with e | e | e <;> subst e <;> decide
      have xn := take_nin nd hxi
      have et := take_snoc hxi
      refine ⟨Nat.zero_le _, fun mr hmr => ?_⟩
      have sM := new (o := .lst []) hmr
      have eM : (upd H2 mr (.lst [])) mr = some (.lst []) := upd_same
      have efM := sM _ _ ef
      have bxM : ∀ v ∈ us, BxAt (upd H2 mr (.lst [])) (xs.take i) v := fun v hv => (bx v hv).same sM
      have s2M := s2.trans sM
      have hmr0 : H mr = none := none_same s2 hmr
      have nfm : f ≠ mr := ne_of_none ef hmr
      generalize upd H2 mr (.lst []) = HM at sM eM efM bxM s2M ⊢
      refine ⟨_, rfl, f, rfl, ⟨_, SqL.of efM⟩, for_list (xs := us) (fun j σ H' => ∃ (ms : List V) (o6 o7 o8 : Option V), σ = [some (.ref l), some (.int (-3)), some (.int 3), some (.ref f), some (.str x), some (.ref mr), o6, o7, o8] ∧ But mr HM H' ∧ H' mr = some (.lst ms) ∧ ms.length ≤ 7 * j ∧ ∀ v ∈ ms, BxAt H' (xs.take (i + 1)) v) ⟨[], o6, o7, o8, rfl, (fun _ _ z _ => z), eM, Nat.le_refl _, (fun _ h => nomatch h)⟩ (fun j σ H' _ ⟨_, _, _, _, _, q, _⟩ => SqL.of (q _ _ efM nfm)) ?_ ?_⟩
      · rintro j v2 σ H3 hj ⟨ms, o6, o7, o8, rfl, b3, em, ml, mb⟩
        have jl : j < us.length := (List.getElem?_eq_some_iff.mp hj).1
        obtain ⟨dd, ns, rfl, N, kns⟩ := (bxM v2 (List.mem_of_getElem? hj)).but b3 eM
        have bx0 : BxAt HM (xs.take i) (.ref dd) := bxM _ (List.mem_of_getElem? hj)
        refine ⟨_, rfl, _, rfl, _, _, rfl, rfl, _, _, rfl, ⟨by decide, by decide, by decide, by decide⟩, for_range (lo := -3) (n := _) (fun t σ H' => ∃ (ms : List V) (o7 o8 : Option V), σ = [some (.ref l), some (.int (-3)), some (.int 3), some (.ref f), some (.str x), some (.ref mr), some (.ref dd), o7, o8] ∧ But mr HM H' ∧ H' mr = some (.lst ms) ∧ ms.length ≤ 7 * j + t ∧ ∀ v ∈ ms, BxAt H' (xs.take (i + 1)) v) ⟨ms, o7, o8, rfl, b3, em, ml, mb⟩ ?_ ?_⟩
        · rintro t σ H4 ht ⟨ms, o7, o8, rfl, b4, em, ml, mb⟩
          have ht7 : t < 7 := ht
          obtain ⟨dd', ns', e', N4, kns4⟩ := bx0.but b4 eM
          cases e'
          have ne : (enc ns').length < sizeLine := by
            have h1 : (keys ns').length = ns'.length := by unfold keys; rw [List.length_map]
            have h2 : (keys ns').length ≤ 3 := by rw [kns4, List.length_take]; omega
            rw [enc_len]
            exact line _ (by omega)
          refine ⟨_, rfl, dd, _, rfl, .inl N4.at_, fun p hp => ?_⟩
          refine ⟨_, rfl, _, rfl, _, rfl, p, _, rfl, DPut.k (k := Sum.inr x) upd_same ne, ?_⟩
          rw [upd_upd, enc_put]
          have sp := new (o := .dK (enc (put ns' x (-3 + (t : Int))))) hp
          have npm : mr ≠ p := ne_of_none em hp
          have emp := sp _ _ em
          refine ⟨_, rfl, .inl ⟨rfl, _, SqL.of emp⟩, _, rfl, mr, _, _, rfl, rfl, emp, line _ (by omega), ?_⟩
          refine ⟨ms ++ [V.ref p], _, _, rfl, (b4.trans (But.of sp)).trans But.upd, upd_same, (by rw [List.length_append]; show ms.length + 1 ≤ _; omega), fun v hv => ?_⟩
          rcases List.mem_append.mp hv with z | z
          · exact ((mb v z).same sp).but But.upd emp
          · rw [List.mem_singleton.mp z]
            refine ⟨p, put ns' x (-3 + (t : Int)), rfl, nums_put (by rw [kns4]; exact xn) N4.fit ⟨by omega, by omega⟩ (by rw [upd_ne npm.symm]; exact upd_same), ?_⟩
            rw [keys_put, kns4, if_neg xn, et]
        · rintro σ H4 ⟨ms, o7, o8, rfl, b4, em, ml, mb⟩
          have ml : ms.length ≤ 7 * j + 7 := ml
          exact ⟨ms, _, o7, o8, rfl, b4, em, by omega, mb⟩
      · rintro σ H4 ⟨ms, o6, o7, o8, rfl, b4, em, ml, mb⟩
        refine ⟨_, rfl, mr, ms, _, _, _, _, _, rfl, fun b o z => b4 _ _ (s2M _ _ z) (ne_of_none z hmr0), em, ?_, mb⟩
        rw [Nat.pow_succ]
        omega
    · rintro σ H' ⟨f, us, o4, o5, o6, o7, o8, rfl, s2, ef, ul, bx⟩
      rw [List.length_map] at ul bx
      rw [List.take_length] at bx
      refine ⟨_, rfl, k f us H' s2 ef ?_ bx⟩
      have : xs.length = 0 ∨ xs.length = 1 ∨ xs.length = 2 ∨ xs.length = 3 := by omega
      rcases this with e | e | e | e <;> rw [e] at ul <;> exact Nat.le_trans ul (by decide)
end
end Hw
namespace Hw
open PySem L2 PyProof.Rows
section
variable {P : Program} {w : World} {K : PySem.W.Frag} {mg : Str → Option Value} {base : Heap}
abbrev sl_met : Stmt := top 33
theorem sc_l_met : FnScope ["_law_case", "_law_things", "_law_most", "_law_numbers"] ["_law_case", "_law_things", "_law_most"] (defScope sl_met) := ⟨rfl, rfl, rfl, by decide +kernel, rfl, by decide +kernel, by decide +kernel⟩
theorem ok_l_met {f C : Addr} {fd : FuncData} {n : Nat} (F : Fun K "_law_met" "_law_met" sl_met f fd) (T : Txt K mg C) (J : TxP K mg) (d_l_boxes : Dn P w K mg base 1 "_law_boxes" ["_law_things", "_law_least", "_law_most"] spLBoxes) (d_l_value : Dn P w K mg base 1 "_law_value" ["_law_total", "_law_numbers"] (spLValue C)) : FnOk P w K mg base CX0 2 f fd ["_law_case", "_law_things", "_law_most"] (spLMet C) := by
  obtain ⟨f_l_boxes, fd_l_boxes, G_l_boxes, mg_l_boxes, kp_l_boxes, b_l_boxes⟩ := d_l_boxes
  obtain ⟨f_l_value, fd_l_value, G_l_value, mg_l_value, kp_l_value, b_l_value⟩ := d_l_value
  refine F.ok sc_l_met (fun vs H Q E h => ?_) (fun cdv A outer s H vs Q E hr h => ?_)
  · obtain ⟨c, l, xs, us, ss, rfl, hc, hS, hul, hg, hl, nd, hx, hneg, k⟩ := h
    rfl
  · obtain ⟨c, l, xs, us, ss, rfl, hc, hS, hul, hg, hl, nd, hx, hneg, k⟩ := h
    have hu := hu_of hr
    rw [show defBody sl_met = [_, _] from rfl]
    refine ⟨_, (pss_cons (ps_for PassesOwn.never rfl (pi_list (pe_call G_l_boxes (hr.mono (by first | decide | omega)) rfl mg_l_boxes kp_l_boxes b_l_boxes .nil pass0 (pa_cons (pv 1) (pa_cons (pe_un un_neg (pv 2)) (pa_cons (pv 2) pa_nil))))) (pg_name (i := 3) sc_l_met.nd rfl (Or.inr rfl)) (pss_one (ps_if (pt_cmpR (op_eqNilL (uN hr)) (pe_comp (compSc_mk ["_law_total"] ["_law_numbers"] [3] rfl (by decide +kernel) (by decide +kernel) (by with_unfolding_all rfl) (by exact ⟨rfl, trivial⟩) (by rfl) rfl (by rfl)) rfl (pi_tup (pv 0)) (fun _ _ _ _ => (pg_name (i := 0) (show List.Nodup (["_law_total", "_law_numbers"] : List Str) by decide +kernel) rfl (Or.inl rfl) (Or.inr rfl))) (fun _ _ _ _ => (pts_one (pt_cmpR op_lt (pe_call G_l_value (hr.mono (by first | decide | omega)) rfl mg_l_value kp_l_value b_l_value .nil pass0 (pa_cons (pv 0) (pa_cons (pv 1) pa_nil))) pe_int (nomark _)))) (fun _ _ _ _ => pe_int)) (pe_lst pa_nil) (nomark _)) (pss_one (ps_ret pe_bl)) pss_nil)))
      (pss_one (ps_ret pe_bl))), ?_⟩
    have lus := paired_len hS
    refine ⟨_, rfl, _, rfl, _, rfl, _, rfl, l, xs, rfl, hl, nd, hx, fun r bs H1 s1 er bl bx => ⟨r, rfl, ⟨bs, SqL.of er⟩, for_list (xs := bs) (fun i σ H' => ∃ o3 : Option V, σ = [some (.ref c), some (.ref l), some (.int 3), o3] ∧ Same H1 H') ⟨none, rfl, Same.refl _⟩ (fun i σ H' _ ⟨_, _, q⟩ => SqL.of (q _ _ er)) ?_ ?_⟩⟩
    · rintro i v σ H2 hi ⟨o3, rfl, s2⟩
      obtain ⟨dd, ns, rfl, N, kns⟩ := (bx v (List.mem_of_getElem? hi)).same s2
      have s12 := s1.trans s2
      refine ⟨_, rfl, c, rfl, ⟨us, SqT.of (s12 _ _ hc)⟩, comp_tup (xs := us) (fun j ys H' => Same H2 H' ∧ ys.length ≤ j ∧ ∀ m s, m < j → ss[m]? = some s → ev s (get ns) < 0 → ys ≠ []) ⟨Same.refl _, Nat.le_refl _, (fun _ _ h => absurd h (Nat.not_lt_zero _))⟩ (fun j ys H' _ q => SqT.of ((s12.trans q.1) _ _ hc)) ?_ ?_⟩
      · rintro j v ys H3 hj ⟨s3, yl, hy⟩
        have jl : j < us.length := (List.getElem?_eq_some_iff.mp hj).1
        obtain ⟨s, es, p, rfl, S⟩ := paired_at hS hj
        have gs := hg s (List.mem_of_getElem? es)
        refine ⟨Ext.one, _, rfl, _, rfl, p, dd, s.1, ns, s.2, rfl, S.same (s12.trans s3), N.same s3, (by rw [kns]; exact gs.2), fun H4 s4 => ⟨_, _, rfl, rfl, _, rfl, ite2 (fun hb => ?_) (fun hb => ?_)⟩⟩
        · refine ⟨line _ (by omega), s3.trans s4, (by rw [List.length_append]; show ys.length + 1 ≤ _; omega), fun m t _ _ _ z => ?_⟩
          have := congrArg List.length z
          rw [List.length_append] at this
          simp at this
        · refine ⟨s3.trans s4, by omega, fun m t hm et hn => ?_⟩
          by_cases e : m = j
          · rw [e, es] at et
            cases et
            exact absurd (decide_eq_true hn) hb
          · exact hy m t (by omega) et hn
      · rintro ys H3 ⟨s3, yl, hy⟩ q hq
        refine ⟨Nat.zero_le _, fun e0 he0 => ⟨q, e0, _, rfl, rfl, SqL.of (new he0 _ _ upd_same), SqL.of upd_same, _, rfl, iteDF (fun z => ?_) ?_⟩⟩
        · obtain ⟨s, hs, hn⟩ := hneg (get ns)
          obtain ⟨m, em⟩ := List.getElem?_of_mem hs
          exact hy m s (by rw [lus]; exact (List.getElem?_eq_some_iff.mp em).1) em hn z
        · exact ⟨_, rfl, ((s2.trans s3).trans (new hq)).trans (new he0)⟩
    · rintro σ H' ⟨o3, rfl, s2⟩
      exact k _ (s1.trans s2)
end
end Hw
namespace Hw
open PySem L2 PyProof.Rows
section
variable {P : Program} {w : World} {K : PySem.W.Frag} {mg : Str → Option Value} {base : Heap}
abbrev sl_listed : Stmt := top 37
theorem sc_l_listed : FnScope ["_law_paper"] ["_law_paper"] (defScope sl_listed) := ⟨rfl, rfl, rfl, by decide +kernel, rfl, by decide +kernel, by decide +kernel⟩
theorem ok_l_listed {f C : Addr} {fd : FuncData} {n : Nat} (F : Fun K "_law_listed" "_law_listed" sl_listed f fd) (T : Txt K mg C) (J : TxP K mg)  : FnOk P w K mg base CX0 1 f fd ["_law_paper"] (spLListed C) := by
  refine F.ok sc_l_listed (fun vs H Q E h => ?_) (fun cdv A outer s H vs Q E hr h => ?_)
  · obtain ⟨xs, pp, ss, rfl, hp, k⟩ := h
    rfl
  · obtain ⟨xs, pp, ss, rfl, hp, k⟩ := h
    have hu := hu_of hr
    rw [show defBody sl_listed = [_] from rfl]
    refine ⟨_, (pss_one (ps_ret (pe_comp (compSc_mk ["_law_line"] [] [] rfl (by decide +kernel) (by decide +kernel) (by with_unfolding_all rfl) (by exact trivial) (by rfl) rfl (by rfl)) rfl (pi_seq (pv 0)) (fun _ _ _ _ => (pg_name (i := 0) (show List.Nodup (["_law_line"] : List Str) by decide +kernel) rfl (Or.inl rfl) (Or.inr rfl))) (fun _ _ _ _ => pts_nil) (fun _ _ _ _ => (pe_callTy (call_list_ofK (K := K) rfl) (by rfl) T.list boot_list (pa_cons (pv 0) pa_nil)))))), ?_⟩
    obtain ⟨us, ls, vs, sq, lns, l8, h4⟩ := hp
    have lus := paired_len lns
    have parts : ∀ (i : Nat) (v : V), vs[i]? = some v → ∃ a zs, v = V.ref a ∧ SqV H a zs := fun i v hi => by
      clear sq
      rcases h4 with ⟨e, _⟩ | ⟨a, p, q1, q2, t, e, sqa, _⟩
      · rw [e] at hi
        obtain ⟨l, _, hl⟩ := paired_at lns hi
        obtain ⟨a, z, ys, e1, e2, _⟩ := ln_parts hl
        exact ⟨a, _, e1, e2⟩
      · rw [e] at hi
        by_cases hc : i < us.length
        · rw [List.getElem?_append_left hc] at hi
          obtain ⟨l, _, hl⟩ := paired_at lns hi
          obtain ⟨a, z, ys, e1, e2, _⟩ := ln_parts hl
          exact ⟨a, _, e1, e2⟩
        · have : i - us.length = 0 := by
            have := (List.getElem?_eq_some_iff.mp hi).1
            rw [List.length_append] at this
            simp at this
            omega
          rw [List.getElem?_append_right (by omega), this] at hi
          exact ⟨a, _, (Option.some.inj hi).symm, sqa⟩
    have vl : vs.length ≤ 9 := by
      rcases h4 with ⟨e, _⟩ | ⟨a, p, q1, q2, t, e, _⟩
      · rw [e]; omega
      · rw [e, List.length_append]; simp; omega
    refine ⟨_, rfl, pp, rfl, comp_sqV sq (fun j ys H' => Same H H' ∧ Paired (fun v y => ∃ a b zs, v = .ref a ∧ y = V.ref b ∧ SqV H a zs ∧ H' b = some (.lst zs)) (vs.take j) ys) ⟨Same.refl _, .nil⟩ (fun j ys H' q o z => q.1 _ _ z) ?_ ?_⟩
    · rintro j v ys H2 hj ⟨s2, pr⟩
      obtain ⟨a, zs, rfl, sqa⟩ := parts j v hj
      have pl := paired_len pr
      rw [List.length_take] at pl
      refine ⟨Ext.one, alwT ⟨_, rfl, a, zs, rfl, lenV (sqa.same s2), fun b hb => ⟨line _ (by omega), s2.trans (new hb), ?_⟩⟩⟩
      rw [take_snoc hj]
      exact paired_snoc (Paired.mapP pr fun v y ⟨a, b', zs, e1, e2, e3, e4⟩ => ⟨a, b', zs, e1, e2, e3, new hb _ _ e4⟩) ⟨a, b, zs, rfl, rfl, sqa, upd_same⟩
    rintro ys H2 ⟨s2, pr⟩ r hr0
    rw [List.take_length] at pr
    have sR := s2.trans (new (o := .lst ys) hr0)
    have tr : ∀ (v y : V) (l : Ln), (∃ a b zs, v = V.ref a ∧ y = V.ref b ∧ SqV H a zs ∧ H2 b = some (.lst zs)) → LnAt H v l → LnAt (upd H2 r (.lst ys)) y l := fun v y l h g => by
      obtain ⟨a, b, zs, rfl, rfl, e3, e4⟩ := h
      exact ln_list e3 (new hr0 _ _ e4) sR g
    refine k r _ sR ?_
    rcases h4 with ⟨e, o⟩ | ⟨a, p, q1, q2, t, e, sqa, Sp, gt, o⟩
    · rw [e] at pr
      exact ⟨ys, ls, ys, .inl upd_same, paired_c (F := fun _ _ => True) tr pr lns, l8, .inl ⟨rfl, o⟩⟩
    · rw [e] at pr
      obtain ⟨y1, y2, ey, p1, p2⟩ := paired_split pr
      cases p2 with
      | cons h0 t0 =>
        cases t0
        obtain ⟨a', b, zs, e1, e2, e3, e4⟩ := h0
        cases e1
        subst e2
        rw [sqv_one e3 sqa] at e4
        exact ⟨y1, ls, ys, .inl upd_same, paired_c (F := fun _ _ => True) tr p1 lns, l8, .inr ⟨b, p, q1, q2, t, ey, .inl (new hr0 _ _ e4), Sp.same sR, gt, o.mono fun ss' q => ⟨q.1.same sR, q.2.same sR⟩⟩⟩
end
end Hw
namespace Hw
open PySem L2 PyProof.Rows
section
variable {P : Program} {w : World} {K : PySem.W.Frag} {mg : Str → Option Value} {base : Heap}
abbrev sl_added : Stmt := top 35
theorem sc_l_added : FnScope ["_law_lines", "_law_line", "_law_pairs", "_law_number", "_law_weight", "_law_place"] ["_law_lines", "_law_line"] (defScope sl_added) := ⟨rfl, rfl, rfl, by decide +kernel, rfl, by decide +kernel, by decide +kernel⟩
theorem ok_l_added {f C : Addr} {fd : FuncData} {n : Nat} (F : Fun K "_law_added" "_law_added" sl_added f fd) (T : Txt K mg C) (J : TxP K mg)  : FnOk P w K mg base CX0 1 f fd ["_law_lines", "_law_line"] (spLAdded C) := by
  refine F.ok sc_l_added (fun vs H Q E h => ?_) (fun cdv A outer s H vs Q E hr h => ?_)
  · obtain ⟨xs, L, v, us, ss, l, rfl, hL, hS, hx, hg, hv, hr0, k⟩ := h
    rfl
  · obtain ⟨xs, L, v, us, ss, l, rfl, hL, hS, hx, hg, hv, hr0, k⟩ := h
    have hu := hu_of hr
    rw [show defBody sl_added = [_, _, _, _, _] from rfl]
    refine ⟨_, (pss_cons (ps_set (i := 2) sc_l_added.nd rfl (Or.inl rfl) (pe_lst pa_nil))
      (pss_cons (ps_set (i := 3) sc_l_added.nd rfl (Or.inl rfl) pe_int)
      (pss_cons (ps_if (pt_cmpR op_eq (pe_ix ix_seq (pv 1) pe_int (fun _ _ => rfl)) pe_str (nomark _)) (pss_one (ps_ret (pe_tup (pa_cons (pe_comp (compSc_mk ["_law_thing", "_law_times"] ["_law_line"] [1] rfl (by decide +kernel) (by decide +kernel) (by with_unfolding_all rfl) (by exact ⟨rfl, trivial⟩) (by rfl) rfl (by rfl)) rfl (pi_tup (pe_fld (pe_ix ix_list (pv 0) (pe_ix ix_seq (pv 1) pe_int (fun _ _ => rfl)) (fun _ _ => rfl)) rfl)) (fun _ _ _ _ => (pg_tupK (K := K) (n := 2) rfl rfl (pgs_cons (pg_name (i := 0) (show List.Nodup (["_law_thing", "_law_times", "_law_line"] : List Str) by decide +kernel) rfl (Or.inl rfl) (Or.inr rfl)) (pgs_cons (pg_name (i := 1) (show List.Nodup (["_law_thing", "_law_times", "_law_line"] : List Str) by decide +kernel) rfl (Or.inl rfl) (Or.inr rfl)) pgs_nil)))) (fun _ _ _ _ => pts_nil) (fun _ _ _ _ => (pe_tup (pa_cons (pv 0) (pa_cons (pe_op op_fdiv (pv 1) (pe_ix (ix_seqK (K := K) rfl) (pv 2) pe_int (fun _ _ => rfl))) pa_nil))))) (pa_cons (pe_op op_fdiv (pe_fld (pe_ix ix_list (pv 0) (pe_ix ix_seq (pv 1) pe_int (fun _ _ => rfl)) (fun _ _ => rfl)) rfl) (pe_ix ix_seq (pv 1) pe_int (fun _ _ => rfl))) pa_nil))))) pss_nil)
      (pss_cons (ps_for PassesOwn.never rfl (pi_tup (pe_ix ix_seq (pv 1) pe_int (fun _ _ => rfl))) (pg_tup rfl (pgs_cons (pg_name (i := 4) sc_l_added.nd rfl (Or.inr rfl)) (pgs_cons (pg_name (i := 5) sc_l_added.nd rfl (Or.inl rfl)) pgs_nil))) (pss_cons (ps_set (i := 2) sc_l_added.nd rfl (Or.inl rfl) (pe_op op_cat (pv 2) (pe_comp (compSc_mk ["_law_thing", "_law_times"] ["_law_weight"] [4] rfl (by decide +kernel) (by decide +kernel) (by with_unfolding_all rfl) (by exact ⟨rfl, trivial⟩) (by rfl) rfl (by rfl)) rfl (pi_tup (pe_fld (pe_ix ix_list (pv 0) (pv 5) (fun _ _ => rfl)) rfl)) (fun _ _ _ _ => (pg_tupK (K := K) (n := 2) rfl rfl (pgs_cons (pg_name (i := 0) (show List.Nodup (["_law_thing", "_law_times", "_law_weight"] : List Str) by decide +kernel) rfl (Or.inl rfl) (Or.inr rfl)) (pgs_cons (pg_name (i := 1) (show List.Nodup (["_law_thing", "_law_times", "_law_weight"] : List Str) by decide +kernel) rfl (Or.inl rfl) (Or.inr rfl)) pgs_nil)))) (fun _ _ _ _ => pts_nil) (fun _ _ _ _ => (pe_tup (pa_cons (pv 0) (pa_cons (pe_op op_mul (pv 2) (pv 1)) pa_nil)))))))
      (pss_one (ps_aug (i := 3) sc_l_added.nd rfl (Or.inl rfl) (pe_op op_mul (pv 4) (pe_fld (pe_ix ix_list (pv 0) (pv 5) (fun _ _ => rfl)) rfl)) ip_add))))
      (pss_one (ps_ret (pe_tup (pa_cons (pv 2) (pa_cons (pv 3) pa_nil))))))))), ?_⟩
    have hl := paired_len hS
    refine ⟨Nat.zero_le _, fun pr0 hpr0 => ?_⟩
    have s0 := new (o := .lst []) hpr0
    have e0 : (upd H pr0 (.lst [])) pr0 = some (.lst []) := upd_same
    have hL := s0 _ _ hL
    have hS := hS.hard (Hard.of s0)
    have hv := hv.same s0
    have kk := fun (r q : Addr) (ps : Ps) (n : Int) (H' : Hp) (z : Same (upd H pr0 (.lst [])) H') => k r q ps n H' (s0.trans z)
    generalize upd H pr0 (.lst []) = H1 at s0 e0 hL hS hv kk ⊢
    cases l with
    | cut k0 d =>
      obtain ⟨a, rfl, sq⟩ := hv
      obtain ⟨h1, h5, s, es, hm⟩ := hr0
      have hk : k0 < us.length := by rw [hl]; exact (List.getElem?_eq_some_iff.mp es).1
      obtain ⟨p, s', ep, es', S⟩ := sm_at hS hk
      rw [es] at es'
      cases es'
      have gs := hg s (List.mem_of_getElem? es)
      have l3 := gs.len hx
      obtain ⟨dx, t, hp, ht, hz⟩ := S
      refine ⟨_, rfl, ixV sq rfl ⟨rfl, _, rfl, iteDT rfl ?_⟩⟩
      refine ⟨_, rfl, _, rfl, ixV sq rfl ⟨L, _, _, _, rfl, rfl, SqL.of hL, atI_nat ep, p, C, dx, _, _, rfl, hp, T.cl, T.nT, sflds_terms _ _, t, rfl, comp_tp ht (fun i ys H' => Same H1 H' ∧ Prs H' ys ((s.1.take i).map fun q => (q.1, q.2 / d))) ⟨Same.refl _, .nil⟩ (fun i ys H' q => Kp.of q.1) ?_ ?_⟩⟩
      · rintro i v pr ys H' hi ⟨b, rfl, hb⟩ ⟨sm, py⟩
        have hil : i < s.1.length := (List.getElem?_eq_some_iff.mp hi).1
        refine ⟨b, _, rfl, SqT.of hb, rfl, _, _, rfl, _, _, rfl, rfl, Ext.two, alwT ⟨_, rfl, _, rfl, _, rfl, ixV (sq.same sm) rfl ⟨_, _, rfl, rfl, ⟨by omega, by omega⟩, (by show 2 ≤ sizeLine; exact Nat.le_of_lt (line 2 (by decide))), fun q hq => ⟨?_, Same.new sm hq, ?_⟩⟩⟩⟩
        · rw [prs_len py, List.length_map, List.length_take]
          exact line _ (by omega)
        · rw [take_snoc hi, List.map_append]
          exact prs_app (py.keep fun _ _ z => new hq _ _ z) (prs_one ⟨q, rfl, upd_same⟩)
      rintro ys H' ⟨sm, py⟩ q hq
      rw [List.take_length] at py
      have s1 : Same H1 (upd H' q (.lst ys)) := Same.new sm hq
      refine ⟨_, rfl, _, rfl, ixV (sq.same s1) rfl ⟨L, _, _, _, rfl, rfl, SqL.of (s1 _ _ hL), atI_nat ep, p, C, dx, _, _, rfl, s1 _ _ hp, T.cl, T.nN, sflds_number _ _, _, rfl, ixV (sq.same s1) rfl ⟨_, _, rfl, rfl, ⟨by omega, by omega⟩, (by show 2 ≤ sizeLine; exact Nat.le_of_lt (line 2 (by decide))), fun r hr1 => ?_⟩⟩⟩
      have s2 := new (o := .tup [.ref q, .int (s.2 / d)]) hr1
      refine kk r q _ (s.2 / d) _ (s1.trans s2) upd_same ⟨ys, s2 _ _ upd_same, py.keep fun _ _ z => s2 _ _ (new hq _ _ z)⟩ (by rw [List.length_map]; omega) fun s' hI => ?_
      obtain ⟨s2', es2, rfl⟩ := hI
      rw [es] at es2
      cases es2
      exact ⟨rfl, fun ts g => gat_canon (canon_map (f := fun q => q.2 / d) gs.1 fun p hp => div_nz h1 (gs.1.nz p hp) (hm p hp)) g⟩
    | add ws =>
      obtain ⟨a, t, ps, rfl, sq, et, hp⟩ := hv
      obtain ⟨h1, h5, hw⟩ := hr0
      have pl := paired_len hp
      refine ⟨_, rfl, ixV sq rfl ⟨rfl, _, rfl, iteDF (by decide +kernel) ?_⟩⟩
      refine ⟨_, rfl, ixV sq rfl ⟨t, rfl, ⟨ps, SqT.of et⟩, for_tup (xs := ps) (fun i σ H' => ∃ (pr : Addr) (o1 o2 : Option V), σ = [some (.ref L), some (.ref a), some (.ref pr), some (.int (catN ss (ws.take i))), o1, o2] ∧ Same H1 H' ∧ Lp H' pr (catP ss (ws.take i))) ⟨pr0, none, none, rfl, Same.refl _, ⟨[], e0, .nil⟩⟩ ?_ ?_ ?_⟩⟩
      · rintro i σ H' _ ⟨pr, o1, o2, rfl, sN, _⟩
        exact SqT.of (sN _ _ et)
      · rintro i v σ H' hi ⟨pr, o1, o2, rfl, sN, lp⟩
        have hil : i < ps.length := (List.getElem?_eq_some_iff.mp hi).1
        obtain ⟨x, ex, q, rfl, eq⟩ := paired_at hp hi
        obtain ⟨w1, w2, w3⟩ := hw x (List.mem_of_getElem? ex)
        obtain ⟨p, s, ep, es, S⟩ := sm_at (hS.hard (Hard.of sN)) (k := x.2) (by rw [hl]; exact w3)
        obtain ⟨dx, tt, hp1, htt, hz⟩ := S
        have gs := hg s (List.mem_of_getElem? es)
        have s3 := gs.len hx
        have eD := getD_of es
        have hL1 := sN _ _ hL
        have cl := catP_len hx hg (ws := ws.take i) fun p hp => (hw p (List.mem_of_mem_take hp)).2.2
        rw [List.length_take] at cl
        obtain ⟨vs, evs, rvs⟩ := lp
        refine ⟨q, _, rfl, SqT.of (sN _ _ eq), rfl, _, _, rfl, _, _, rfl, rfl, ?_⟩
        refine ⟨_, rfl, _, rfl, _, rfl, L, _, _, _, rfl, rfl, SqL.of hL1, atI_nat ep, p, C, dx, _, _, rfl, hp1, T.cl, T.nT, sflds_terms _ _, tt, rfl, comp_tp htt (fun j ys H2 => Same H' H2 ∧ Prs H2 ys ((s.1.take j).map fun q => (q.1, x.1 * q.2))) ⟨Same.refl _, .nil⟩ (fun j ys H2 q => Kp.of q.1) ?_ ?_⟩
        · rintro j v pr0 ys H2 hj ⟨b, rfl, hb⟩ ⟨sm, py⟩
          have hjl : j < s.1.length := (List.getElem?_eq_some_iff.mp hj).1
          refine ⟨b, _, rfl, SqT.of hb, rfl, _, _, rfl, _, _, rfl, rfl, Ext.two, alwT ⟨_, rfl, _, rfl, _, rfl, _, _, rfl, rfl, .inl ⟨by omega, by omega⟩, (by show 2 ≤ sizeLine; exact Nat.le_of_lt (line 2 (by decide))), fun q hq => ⟨?_, Same.new sm hq, ?_⟩⟩⟩
          · rw [prs_len py, List.length_map, List.length_take]
            exact line _ (by omega)
          · rw [take_snoc hj, List.map_append]
            exact prs_app (py.keep fun _ _ z => new hq _ _ z) (prs_one ⟨q, rfl, upd_same⟩)
        rintro ys H2 ⟨sm, py⟩ lq hlq
        rw [List.take_length] at py
        have s5 : Same H' (upd H2 lq (.lst ys)) := sm.trans (new hlq)
        have pyl := prs_len py
        rw [List.length_map] at pyl
        have rl := prs_len rvs
        refine ⟨pr, lq, _, _, rfl, rfl, s5 _ _ evs, upd_same, (by rw [rl, pyl]; exact Nat.le_of_lt (line _ (by omega))), fun pn hpn => ?_⟩
        have s6 := s5.trans (new (o := .lst (vs ++ ys)) hpn)
        have py5 := py.keep fun _ _ z => new (o := .lst (vs ++ ys)) hpn _ _ (new (o := .lst ys) hlq _ _ z)
        have rv5 := rvs.keep fun _ _ z => s6 _ _ z
        refine ⟨_, rfl, _, rfl, _, rfl, _, rfl, L, _, _, _, rfl, rfl, SqL.of (s6 _ _ hL1), atI_nat ep, p, C, dx, _, _, rfl, s6 _ _ hp1, T.cl, T.nN, sflds_number _ _, _, _, rfl, rfl, .inl ⟨by omega, by omega⟩, _, _, rfl, rfl, ?_⟩
        have et1 : ws.take (i + 1) = ws.take i ++ [x] := take_snoc ex
        refine ⟨pn, some (.int x.1), some (.int x.2), ?_, sN.trans s6, ?_⟩
        · rw [et1, catN_snoc, eD]
          rfl
        · rw [et1, catP_snoc, eD]
          exact ⟨_, upd_same, prs_app rv5 py5⟩
      · rintro σ H' ⟨pr, o1, o2, rfl, sN, lp⟩
        rw [pl, List.take_length] at lp ⊢
        have cl := catP_len hx hg (ws := ws) fun p hp => (hw p hp).2.2
        refine ⟨_, rfl, _, rfl, (by show 2 ≤ sizeLine; exact Nat.le_of_lt (line 2 (by decide))), fun r hr1 => ?_⟩
        have s2 := new (o := .tup [.ref pr, .int (catN ss ws)]) hr1
        exact kk r pr (catP ss ws) (catN ss ws) _ (sN.trans s2) upd_same (lp.same s2) (by omega) fun s' hI => ⟨hI.2, fun ts g => g.same hI.1 fun _ => rfl⟩
end
end Hw
namespace Hw
open PySem L2 PyProof.Rows
section
variable {P : Program} {w : World} {K : PySem.W.Frag} {mg : Str → Option Value} {base : Heap}
abbrev sl_lines_right : Stmt := top 36
theorem sc_l_lines_right : FnScope ["_law_case", "_law_paper", "_law_lines", "_law_line", "_law_found", "_law_pairs", "_law_number"] ["_law_case", "_law_paper"] (defScope sl_lines_right) := ⟨rfl, rfl, rfl, by decide +kernel, rfl, by decide +kernel, by decide +kernel⟩
theorem ok_l_lines_right {f C : Addr} {fd : FuncData} {n : Nat} (F : Fun K "_law_lines_right" "_law_lines_right" sl_lines_right f fd) (T : Txt K mg C) (J : TxP K mg) (d_line_of : Dn P w K mg base 4 "line_of" ["lines", "line"] (spLineOf C)) (d_l_told : Dn P w K mg base 1 "_law_told" ["_law_total"] (spLTold C)) (d_l_added : Dn P w K mg base 1 "_law_added" ["_law_lines", "_law_line"] (spLAdded C)) (d_sum_of : Dn P w K mg base 3 "sum_of" ["pairs", "number"] (spSumOf C)) : FnOk P w K mg base CX0 5 f fd ["_law_case", "_law_paper"] (spLLines C) := by
  obtain ⟨f_line_of, fd_line_of, G_line_of, mg_line_of, kp_line_of, b_line_of⟩ := d_line_of
  obtain ⟨f_l_told, fd_l_told, G_l_told, mg_l_told, kp_l_told, b_l_told⟩ := d_l_told
  obtain ⟨f_l_added, fd_l_added, G_l_added, mg_l_added, kp_l_added, b_l_added⟩ := d_l_added
  obtain ⟨f_sum_of, fd_sum_of, G_sum_of, mg_sum_of, kp_sum_of, b_sum_of⟩ := d_sum_of
  refine F.ok sc_l_lines_right (fun vs H Q E h => ?_) (fun cdv A outer s H vs Q E hr h => ?_)
  · obtain ⟨xs, c, pp, us, ss, rfl, hc, hS, hx, hg, hul, hp, k⟩ := h
    rfl
  · obtain ⟨xs, c, pp, us, ss, rfl, hc, hS, hx, hg, hul, hp, k⟩ := h
    have hu := hu_of hr
    rw [show defBody sl_lines_right = [_, _, _] from rfl]
    refine ⟨_, (pss_cons (ps_set (i := 2) sc_l_lines_right.nd rfl (Or.inl rfl) (pe_callTy call_list_of (by rfl) T.list boot_list (pa_cons (pv 0) pa_nil)))
      (pss_cons (ps_for PassesOwn.never rfl (pi_seq (pv 1)) (pg_name (i := 3) sc_l_lines_right.nd rfl (Or.inl rfl)) (pss_cons (ps_if (pt_cmpR op_eq (pe_ix ix_seq (pv 3) pe_int (fun _ _ => rfl)) pe_str (nomark _)) (pss_one (ps_ret pe_bl)) pss_nil)
      (pss_cons (ps_set (i := 4) sc_l_lines_right.nd rfl (Or.inl rfl) (pe_call G_line_of (hr.mono (by first | decide | omega)) rfl mg_line_of kp_line_of b_line_of .nil pass0 (pa_cons (pv 2) (pa_cons (pv 3) pa_nil))))
      (pss_cons (ps_if (pt_cmpR (op_neL 2 (uL hr)) (pe_call G_l_told (hr.mono (by first | decide | omega)) rfl mg_l_told kp_l_told b_l_told .nil pass0 (pa_cons (pe_call G_line_of (hr.mono (by first | decide | omega)) rfl mg_line_of kp_line_of b_line_of .nil pass0 (pa_cons (pe_callTy call_list_of (by rfl) T.list boot_list (pa_cons (pv 2) pa_nil)) (pa_cons (pe_callTy call_list_of (by rfl) T.list boot_list (pa_cons (pv 3) pa_nil)) pa_nil))) pa_nil)) (pe_call G_l_told (hr.mono (by first | decide | omega)) rfl mg_l_told kp_l_told b_l_told .nil pass0 (pa_cons (pv 4) pa_nil)) (nomark _)) (pss_one (ps_ret pe_bl)) pss_nil)
      (pss_cons (ps_asg (pe_call G_l_added (hr.mono (by first | decide | omega)) rfl mg_l_added kp_l_added b_l_added .nil pass0 (pa_cons (pv 2) (pa_cons (pv 3) pa_nil))) (pg_tup rfl (pgs_cons (pg_name (i := 5) sc_l_lines_right.nd rfl (Or.inl rfl)) (pgs_cons (pg_name (i := 6) sc_l_lines_right.nd rfl (Or.inl rfl)) pgs_nil))))
      (pss_cons (ps_if (PW.pt (pw_or (pt_not (pt_val (pe_callB (call_isi (c := .ref C) trivial) (by rfl) T.isinstance boot_isinstance (pa_cons (pv 4) (pa_cons (pe_glob (v := .ref C) rfl T.mg_Sum rfl) pa_nil))))) (pw_or1 (pt_cmpR (op_neL 2 (uL hr)) (pe_call G_l_told (hr.mono (by first | decide | omega)) rfl mg_l_told kp_l_told b_l_told .nil pass0 (pa_cons (pv 4) pa_nil)) (pe_call G_l_told (hr.mono (by first | decide | omega)) rfl mg_l_told kp_l_told b_l_told .nil pass0 (pa_cons (pe_call G_sum_of (hr.mono (by first | decide | omega)) rfl mg_sum_of kp_sum_of b_sum_of .nil pass0 (pa_cons (pv 5) (pa_cons (pv 6) pa_nil))) pa_nil)) (nomark _))))) (pss_one (ps_ret pe_bl)) pss_nil)
      (pss_one (ps_expr (pe_bm PySem.F.plainAttrs_list PySem.F.slot_list_append PySem.F.type_list_append mt_append (pv 2) (pa_cons (pv 4) pa_nil))))))))))
      (pss_one (ps_ret (pe_and (pe_cmpR (op_eqNil (uN hr)) (pe_fld (pe_ix ix_list (pv 2) (pe_un un_neg pe_int) (fun _ _ => rfl)) rfl) (pe_tup pa_nil) (nomark _)) (pe_one (pe_cmpR op_lt (pe_fld (pe_ix ix_list (pv 2) (pe_un un_neg pe_int) (fun _ _ => rfl)) rfl) pe_int (nomark _)))))))), ?_⟩
    obtain ⟨ls0, ls, vs, sqp, hls, l8, hpp⟩ := hp
    have lls := paired_len hls
    obtain ⟨FF, hok, hend⟩ : ∃ FF : List Sm → Prop, Ok ls ss FF ∧ ((vs = ls0 ∧ ∀ z, FF z → Neg z) ∨ ∃ a ys, vs = ls0 ++ [V.ref a] ∧ SqV H a (.str "split" :: ys)) := by
      rcases hpp with ⟨e, o⟩ | ⟨a, p, q1, q2, t, e, h1, h2, h3, o⟩
      · exact ⟨_, o, .inl ⟨e, fun _ z => z⟩⟩
      · exact ⟨_, o, .inr ⟨a, _, e, h1⟩⟩
    refine ⟨_, rfl, c, us, rfl, .inr (SqT.of hc), fun L hL0 => ?_⟩
    have s1 := new (o := .lst us) hL0
    have eL : (upd H L (.lst us)) L = some (.lst us) := upd_same
    have hS := hS.hard (Hard.of s1)
    have sqp1 := sqp.same s1
    generalize upd H L (.lst us) = H1 at s1 eL hS sqp1 ⊢
    have npL : pp ≠ L := fun z => by rcases sqp with q | q <;> rw [z, hL0] at q <;> cases q
    refine ⟨_, rfl, pp, rfl, for_sqV sqp1 (fun i σ H' => ∃ (o3 o4 o5 o6 : Option V) (us' : List V) (ss' : List Sm), σ = [some (.ref c), some (.ref pp), some (.ref L), o3, o4, o5, o6] ∧ But L H1 H' ∧ H' L = some (.lst us') ∧ Sms C H' us' ss' ∧ (∀ t ∈ ss', Gm xs t) ∧ us'.length ≤ us.length + i ∧ i ≤ ls.length ∧ Ok (ls.drop i) ss' FF) ⟨none, none, none, none, us, ss, rfl, (fun _ _ z _ => z), eL, hS, hg, by omega, Nat.zero_le _, hok⟩ (fun i σ H' q o z => let ⟨_, _, _, _, _, _, _, b, _⟩ := q; b _ _ z npL) ?_ ?_⟩
    · rintro i x σ H2 hi ⟨o3, o4, o5, o6, us', ss', rfl, b2, eL2, hS2, hg2, ul, il, ok2⟩
      have s02 : Same H H2 := fun b o z => b2 _ _ (s1 _ _ z) (ne_of_none z hL0)
      by_cases hc : i < ls.length
      · have hx0 : ls0[i]? = some x := by
          rcases hend with ⟨e, _⟩ | ⟨_, _, e, _⟩
          · rw [← e]; exact hi
          · rw [e, List.getElem?_append_left (by omega)] at hi; exact hi
        obtain ⟨l, el, hln⟩ := paired_at hls hx0
        have hdr : ls.drop i = l :: ls.drop (i + 1) := by
          rw [List.drop_eq_getElem_cons hc]
          rw [List.getElem?_eq_getElem hc] at el
          rw [Option.some.inj el]
        rw [hdr] at ok2
        obtain ⟨rt, ok2⟩ := ok2
        have ln2 := hln.same s02
        obtain ⟨a, z, ys, rfl, sqa, zn⟩ := ln_parts ln2
        refine ⟨_, rfl, ixV sqa (atI_0 _ _) ⟨rfl, _, rfl, iteDF (fun q => zn (V.str.inj q)) ?_⟩⟩
        refine ⟨_, rfl, _, rfl, xs, L, _, us', ss', l, rfl, eL2, hS2, hx, hg2, ln2, rt, fun r sm H3 s3 hIs S3 => ?_⟩
        refine ⟨_, rfl, L, us', rfl, .inl (SqL.of (s3 _ _ eL2)), fun L4 hL4 => ?_⟩
        have s4 := s3.trans (new (o := .lst us') hL4)
        refine ⟨_, rfl, a, _, rfl, lenV (sqa.same s4), fun a5 ha5 => ?_⟩
        have n5 := new (o := .lst (.str z :: ys)) ha5
        have s5 := s4.trans n5
        refine ⟨xs, L4, _, us', ss', l, rfl, n5 _ _ upd_same, hS2.hard (Hard.of s5), hx, hg2, ln_list sqa upd_same s5 ln2, rt, fun r6 sm6 H6 s6 hIs6 S6 => ?_⟩
        have esm : sm6 = sm := is_one hIs6 hIs
        subst esm
        refine ⟨r6, sm6.1, sm6.2, rfl, S6, fun q7 H7 s7 due7 => ⟨_, rfl, r, sm6.1, sm6.2, rfl, ?_, fun q8 H8 s8 due8 => ?_⟩⟩
        · exact ((S3.same ((new hL4).trans n5)).same s6).same s7
        obtain ⟨tt1, tt2, ett1, ett2, lk⟩ := due_likeP (K := K) (due7.same s8) due8
        refine ⟨q7, q8, _, _, rfl, rfl, .inr ⟨SqT.of ett1, SqT.of ett2⟩, lk, _, rfl, ifF rfl ?_⟩
        have s28 : Same H2 H8 := ((s5.trans s6).trans s7).trans s8
        have s38 : Same H3 H8 := ((((new hL4).trans n5).trans s6).trans s7).trans s8
        refine ⟨_, rfl, _, rfl, xs, L, _, us', ss', l, rfl, s28 _ _ eL2, hS2.hard (Hard.of s28), hx, hg2, ln2.same s28, rt, fun r9 q9 ps9 n9 H9 s9 er9 lp9 pl9 hg9 => ?_⟩
        obtain ⟨en9, hg9⟩ := hg9 sm6 hIs
        refine ⟨r9, _, rfl, SqT.of er9, rfl, _, _, rfl, _, _, rfl, rfl, ?_⟩
        have S9 := S3.same (s38.trans s9)
        obtain ⟨dx, t9, ep9, _, _⟩ := id S9
        refine ⟨_, rfl, _, _, _, true, rfl, T.ins ep9, rfl, T.kS, true, rfl, ifF rfl ⟨_, rfl, r, sm6.1, sm6.2, rfl, S9, fun qa Ha sa duea => ?_⟩⟩
        refine ⟨_, rfl, _, rfl, q9, n9, ps9, rfl, .inl (lp9.same sa), pl9, fun rb tsb Hb sb gb _ Sb => ?_⟩
        refine ⟨rb, tsb, n9, rfl, Sb, fun qc Hc sc duec => ?_⟩
        rw [hg9 tsb gb, ← en9] at duec
        obtain ⟨tt3, tt4, ett3, ett4, lk2⟩ := due_likeP (K := K) (duea.same (sb.trans sc)) duec
        refine ⟨qa, qc, _, _, rfl, rfl, .inr ⟨SqT.of ett3, SqT.of ett4⟩, lk2, _, rfl, ifF rfl ?_⟩
        have s2c : Same H2 Hc := (((s28.trans s9).trans sa).trans sb).trans sc
        have eLc := s2c _ _ eL2
        refine ⟨_, rfl, .inl ⟨rfl, _, SqL.of eLc⟩, _, rfl, L, _, _, rfl, rfl, eLc, line _ (by omega), ?_⟩
        have hU := hard_upd (ys := us' ++ [V.ref r]) eLc
        refine ⟨_, _, _, _, us' ++ [V.ref r], ss' ++ [sm6], rfl, (b2.trans (But.of s2c)).trans But.upd, upd_same, paired_snoc ((hS2.hard (Hard.of s2c)).hard hU) ⟨r, rfl, (S9.same ((sa.trans sb).trans sc)).hard hU⟩, fun t ht => ?_, (by rw [List.length_append]; show us'.length + 1 ≤ _; omega), hc, ok2 sm6 hIs⟩
        rcases List.mem_append.mp ht with q | q
        · exact hg2 t q
        · rw [List.mem_singleton.mp q]; exact is_gm hg2 rt hIs
      · have hiv : i < vs.length := (List.getElem?_eq_some_iff.mp hi).1
        rcases hend with ⟨e, _⟩ | ⟨a, ys, e, sqa⟩
        · rw [e] at hiv; omega
        have hxa : x = .ref a := by
          rw [e, List.getElem?_append_right (by omega), show i - ls0.length = 0 by omega] at hi
          exact (Option.some.inj hi).symm
        subst hxa
        exact ⟨_, rfl, ixV (sqa.same s02) (atI_0 _ _) ⟨rfl, _, rfl, iteDT rfl (k _ s02)⟩⟩
    · rintro σ H2 ⟨o3, o4, o5, o6, us', ss', rfl, b2, eL2, hS2, hg2, ul, il, ok2⟩
      have s02 : Same H H2 := fun b o z => b2 _ _ (s1 _ _ z) (ne_of_none z hL0)
      obtain ⟨e, hF⟩ : vs = ls0 ∧ ∀ z, FF z → Neg z := by
        rcases hend with h | ⟨a, ys, e, _⟩
        · exact h
        · rw [e, List.length_append] at il
          simp at il
          omega
      have evl : vs.length = ls0.length := by rw [e]
      have ok3 : FF ss' := by
        rw [List.drop_of_length_le (by omega)] at ok2
        exact ok2
      obtain ⟨nn, egl, hneg⟩ := hF _ ok3
      have lss := paired_len hS2
      have pos : 0 < us'.length := by
        rw [lss]
        cases ss' with
        | nil => cases egl
        | cons _ _ => exact Nat.succ_pos _
      obtain ⟨p, s', ep, es, S⟩ := sm_at hS2 (k := us'.length - 1) (by omega)
      have es2 : s' = ([], nn) := by
        rw [List.getLast?_eq_getElem?, ← lss, es] at egl
        exact Option.some.inj egl
      subst es2
      obtain ⟨dx, t, hp, ⟨ws, et, pr⟩, hz⟩ := S
      cases pr
      refine ⟨_, rfl, _, rfl, L, _, _, _, rfl, rfl, SqL.of eL2, atI_m1 pos ep, p, C, dx, _, _, rfl, hp, T.cl, T.nT, sflds_terms _ _, Nat.zero_le _, fun t2 ht2 => ⟨t, t2, _, rfl, rfl, SqT.of (new ht2 _ _ et), SqT.of upd_same, _, rfl, iteDT rfl ?_⟩⟩
      have n2 := new (o := .tup []) ht2
      refine ⟨_, rfl, _, rfl, L, _, _, _, rfl, rfl, SqL.of (n2 _ _ eL2), atI_m1 pos ep, p, C, dx, _, _, rfl, n2 _ _ hp, T.cl, T.nN, sflds_number _ _, _, _, rfl, rfl, ?_⟩
      show Q (V.bl (decide (nn < 0))) _
      rw [decide_eq_true hneg]
      exact k _ (s02.trans n2)
end
end Hw
namespace Hw
open PySem L2 PyProof.Rows
section
variable {P : Program} {w : World} {K : PySem.W.Frag} {mg : Str → Option Value} {base : Heap}
abbrev sl_built : Stmt := top 30
theorem sc_l_built : FnScope ["_law_draw", "_law_things", "_law_sums_here", "_law_case", "_law_parting", "_law_parted", "_law_ends", "_law_mores", "_law_k", "_law_paper", "_law_places", "_law_inner", "_law_pairs"] ["_law_draw", "_law_things"] (defScope sl_built) := ⟨rfl, rfl, rfl, by decide +kernel, rfl, by decide +kernel, by decide +kernel⟩
theorem ok_l_built {f C : Addr} {fd : FuncData} {n : Nat} (F : Fun K "_law_built" "_law_built" sl_built f fd) (T : Txt K mg C) (J : TxP K mg) (d_l_next : Dn P w K mg base 2 "_law_next" ["_law_draw", "_law_size"] spNext) (d_l_sums : Dn P w K mg base 4 "_law_sums" ["_law_draw", "_law_things", "_law_many"] (spLSums C)) (d_times : Mt P w K mg base 4 C "times" ["self", "number"] (spTimes C)) (d_plus : Mt P w K mg base 4 C "plus" ["self", "other"] (spPlus C)) (d_sum_of : Dn P w K mg base 3 "sum_of" ["pairs", "number"] (spSumOf C)) (d_l_last : Dn P w K mg base 6 "_law_last" ["_law_draw", "_law_sums_here", "_law_more"] (spLLast C)) : FnOk P w K mg base CX0 8 f fd ["_law_draw", "_law_things"] (spLBuilt C) := by
  obtain ⟨f_l_next, fd_l_next, G_l_next, mg_l_next, kp_l_next, b_l_next⟩ := d_l_next
  obtain ⟨f_l_sums, fd_l_sums, G_l_sums, mg_l_sums, kp_l_sums, b_l_sums⟩ := d_l_sums
  obtain ⟨f_times, fd_times, G_Sum_times, m_times, b_Sum_times⟩ := d_times
  obtain ⟨f_plus, fd_plus, G_Sum_plus, m_plus, b_Sum_plus⟩ := d_plus
  obtain ⟨f_sum_of, fd_sum_of, G_sum_of, mg_sum_of, kp_sum_of, b_sum_of⟩ := d_sum_of
  obtain ⟨f_l_last, fd_l_last, G_l_last, mg_l_last, kp_l_last, b_l_last⟩ := d_l_last
  refine F.ok sc_l_built (fun vs H Q E h => ?_) (fun cdv A outer s H vs Q E hr h => ?_)
  · obtain ⟨d, l, xs, rfl, hd, hl, hx, k⟩ := h
    rfl
  · obtain ⟨d, l, xs, rfl, hd, hl, hx, k⟩ := h
    have hu := hu_of hr
    rw [show defBody sl_built = [_, _, _, _, _, _, _, _, _, _, _, _, _, _, _] from rfl]
    refine ⟨_, (pss_cons (ps_set (i := 2) sc_l_built.nd rfl (Or.inl rfl) (pe_call G_l_sums (hr.mono (by first | decide | omega)) rfl mg_l_sums kp_l_sums b_l_sums .nil pass0 (pa_cons (pv 0) (pa_cons (pv 1) (pa_cons (pe_op op_add pe_int (pe_call G_l_next (hr.mono (by first | decide | omega)) rfl mg_l_next kp_l_next b_l_next .nil pass0 (pa_cons (pv 0) (pa_cons pe_int pa_nil)))) pa_nil)))))
      (pss_cons (ps_setC (i := 3) sc_l_built.nd rfl (Or.inl rfl) (compSc_mk ["_law_one", "_law_by", "_law_rest"] [] [] rfl (by decide +kernel) (by decide +kernel) (by with_unfolding_all rfl) (by exact trivial) (by rfl) rfl (by rfl)) rfl (pi_list (pv 2)) (fun _ _ _ _ => (pg_tupK (K := K) (n := 3) rfl rfl (pgs_cons (pg_name (i := 0) (show List.Nodup (["_law_one", "_law_by", "_law_rest"] : List Str) by decide +kernel) rfl (Or.inl rfl) (Or.inr rfl)) (pgs_cons (pg_name (i := 1) (show List.Nodup (["_law_one", "_law_by", "_law_rest"] : List Str) by decide +kernel) rfl (Or.inl rfl) (Or.inr rfl)) (pgs_cons (pg_name (i := 2) (show List.Nodup (["_law_one", "_law_by", "_law_rest"] : List Str) by decide +kernel) rfl (Or.inl rfl) (Or.inr rfl)) pgs_nil))))) (fun _ _ _ _ => pts_nil) (fun _ _ _ _ => (pe_meth (pe_meth (pv 0) T.cl m_times G_Sum_times (hr.mono (by first | decide | omega)) b_Sum_times .nil pass0 (pa_cons (pv 1) pa_nil)) T.cl m_plus G_Sum_plus (hr.mono (by first | decide | omega)) b_Sum_plus .nil pass0 (pa_cons (pe_call G_sum_of (hr.mono (by first | decide | omega)) rfl mg_sum_of kp_sum_of b_sum_of .nil pass0 (pa_cons (pe_tup pa_nil) (pa_cons (pv 2) pa_nil))) pa_nil))))
      (pss_cons (ps_set (i := 4) sc_l_built.nd rfl (Or.inl rfl) (pe_ix ix_tup (pe_ix ix_list (pe_call G_l_sums (hr.mono (by first | decide | omega)) rfl mg_l_sums kp_l_sums b_l_sums .nil pass0 (pa_cons (pv 0) (pa_cons (pv 1) (pa_cons pe_int pa_nil)))) pe_int (fun _ _ => rfl)) pe_int (fun _ _ => rfl)))
      (pss_cons (ps_set (i := 5) sc_l_built.nd rfl (Or.inl rfl) (pe_cmpR op_eq (pe_call G_l_next (hr.mono (by first | decide | omega)) rfl mg_l_next kp_l_next b_l_next .nil pass0 (pa_cons (pv 0) (pa_cons pe_int pa_nil))) pe_int (nomark _)))
      (pss_cons (ps_set (i := 6) sc_l_built.nd rfl (Or.inr rfl) (pe_lst pa_nil))
      (pss_cons (ps_set (i := 7) sc_l_built.nd rfl (Or.inl rfl) (pe_lst (pa_cons (pv 4) (pa_cons (pe_meth (pe_meth (pv 4) T.cl m_times G_Sum_times (hr.mono (by first | decide | omega)) b_Sum_times .nil pass0 (pa_cons (pe_un un_neg pe_int) pa_nil)) T.cl m_plus G_Sum_plus (hr.mono (by first | decide | omega)) b_Sum_plus .nil pass0 (pa_cons (pe_call G_sum_of (hr.mono (by first | decide | omega)) rfl mg_sum_of kp_sum_of b_sum_of .nil pass0 (pa_cons (pe_tup pa_nil) (pa_cons (pe_un un_neg pe_int) pa_nil))) pa_nil)) pa_nil))))
      (pss_cons (ps_for PassesOwn.never rfl (pi_range1 rfl T.range (pa_cons (pe_op op_add pe_int (pe_callTy call_int1 (by rfl) T.int boot_int (pa_cons (pv 5) pa_nil))) pa_nil)) (pg_name (i := 8) sc_l_built.nd rfl (Or.inr rfl)) (pss_one (ps_expr (pe_bm PySem.F.plainAttrs_list PySem.F.slot_list_append PySem.F.type_list_append mt_append (pv 6) (pa_cons (pe_call G_l_last (hr.mono (by first | decide | omega)) rfl mg_l_last kp_l_last b_l_last .nil pass0 (pa_cons (pv 0) (pa_cons (pv 2) (pa_cons (pe_ix ix_list (pe_lst (pa_cons (pe_call G_sum_of (hr.mono (by first | decide | omega)) rfl mg_sum_of kp_sum_of b_sum_of .nil pass0 (pa_cons (pe_tup pa_nil) (pa_cons pe_int pa_nil))) (pa_cons (pe_ix ix_list (pv 7) (pv 8) (fun _ _ => rfl)) pa_nil))) (pe_callTy call_int1 (by rfl) T.int boot_int (pa_cons (pv 5) pa_nil)) (fun _ _ => rfl)) pa_nil)))) pa_nil)))))
      (pss_cons (ps_set (i := 3) sc_l_built.nd rfl (Or.inl rfl) (pe_op op_cat (pv 3) (pe_comp (compSc_mk ["_law_end"] [] [] rfl (by decide +kernel) (by decide +kernel) (by with_unfolding_all rfl) (by exact trivial) (by rfl) rfl (by rfl)) rfl (pi_list (pv 6)) (fun _ _ _ _ => (pg_name (i := 0) (show List.Nodup (["_law_end"] : List Str) by decide +kernel) rfl (Or.inl rfl) (Or.inr rfl))) (fun _ _ _ _ => pts_nil) (fun _ _ _ _ => (pe_ix (ix_tupK (K := K) rfl) (pv 0) pe_int (fun _ _ => rfl))))))
      (pss_cons (ps_set (i := 9) sc_l_built.nd rfl (Or.inl rfl) (pe_lst pa_nil))
      (pss_cons (ps_set (i := 10) sc_l_built.nd rfl (Or.inr rfl) (pe_lst pa_nil))
      (pss_cons (ps_for PassesOwn.never rfl (pi_range1 rfl T.range (pa_cons (pe_callB call_len_seq (by rfl) T.len PySem.boot_len (pa_cons (pv 2) pa_nil)) pa_nil)) (pg_name (i := 8) sc_l_built.nd rfl (Or.inr rfl)) (pss_cons (ps_expr (pe_bm PySem.F.plainAttrs_list PySem.F.slot_list_append PySem.F.type_list_append mt_append (pv 10) (pa_cons (pv 8) pa_nil)))
      (pss_one (ps_if (pt_cmpR op_gt (pe_ix ix_tup (pe_ix ix_list (pv 2) (pv 8) (fun _ _ => rfl)) pe_int (fun _ _ => rfl)) pe_int (nomark _)) (pss_cons (ps_asg (pe_op op_add (pe_callB call_len_seq (by rfl) T.len PySem.boot_len (pa_cons (pv 3) pa_nil)) (pe_callB call_len_seq (by rfl) T.len PySem.boot_len (pa_cons (pv 9) pa_nil))) (pg_sub (pv 10) (pv 8) set_list))
      (pss_one (ps_expr (pe_bm PySem.F.plainAttrs_list PySem.F.slot_list_append PySem.F.type_list_append mt_append (pv 9) (pa_cons (pe_tup (pa_cons pe_str (pa_cons (pv 8) (pa_cons (pe_ix ix_tup (pe_ix ix_list (pv 2) (pv 8) (fun _ _ => rfl)) pe_int (fun _ _ => rfl)) pa_nil)))) pa_nil))))) pss_nil))))
      (pss_cons (ps_set (i := 11) sc_l_built.nd rfl (Or.inl rfl) (pe_lst pa_nil))
      (pss_cons (ps_for PassesOwn.never rfl (pi_range1 rfl T.range (pa_cons (pe_callB call_len_seq (by rfl) T.len PySem.boot_len (pa_cons (pv 6) pa_nil)) pa_nil)) (pg_name (i := 8) sc_l_built.nd rfl (Or.inr rfl)) (pss_cons (ps_set (i := 12) sc_l_built.nd rfl (Or.inl rfl) (pe_op op_cat (pe_comp (compSc_mk ["_law_j"] ["_law_places", "_law_ends", "_law_k"] [10, 6, 8] rfl (by decide +kernel) (by decide +kernel) (by with_unfolding_all rfl) (by exact ⟨rfl, rfl, rfl, trivial⟩) (by rfl) rfl (by rfl)) rfl (pi_range1 rfl T.range (pa_cons (pe_callB call_len_seq (by rfl) T.len PySem.boot_len (pa_cons (pv 2) pa_nil)) pa_nil)) (fun _ _ _ _ => (pg_name (i := 0) (show List.Nodup (["_law_j", "_law_places", "_law_ends", "_law_k"] : List Str) by decide +kernel) rfl (Or.inl rfl) (Or.inr rfl))) (fun _ _ _ _ => pts_nil) (fun _ _ _ _ => (pe_tup (pa_cons (pe_ix (ix_listK (K := K) rfl) (pe_ix (ix_tupK (K := K) rfl) (pe_ix (ix_listK (K := K) rfl) (pv 2) (pv 3) (fun _ _ => rfl)) pe_int (fun _ _ => rfl)) (pv 0) (fun _ _ => rfl)) (pa_cons (pe_ix (ix_listK (K := K) rfl) (pv 1) (pv 0) (fun _ _ => rfl)) pa_nil))))) (pe_lst (pa_cons (pe_tup (pa_cons pe_int (pa_cons (pe_op op_add (pe_callB call_len_seq (by rfl) T.len PySem.boot_len (pa_cons (pv 2) pa_nil)) (pv 8)) pa_nil))) pa_nil))))
      (pss_cons (ps_if (pt_val (pv 5)) (pss_one (ps_expr (pe_bm PySem.F.plainAttrs_list PySem.F.slot_list_append PySem.F.type_list_append mt_append (pv 12) (pa_cons (pe_tup (pa_cons pe_int (pa_cons (pe_op op_add (pe_callB call_len_seq (by rfl) T.len PySem.boot_len (pa_cons (pv 3) pa_nil)) (pe_callB call_len_seq (by rfl) T.len PySem.boot_len (pa_cons (pv 9) pa_nil))) pa_nil))) pa_nil)))) pss_nil)
      (pss_one (ps_expr (pe_bm PySem.F.plainAttrs_list PySem.F.slot_list_append PySem.F.type_list_append mt_append (pv 11) (pa_cons (pe_tup (pa_cons (pe_tup (pa_cons pe_str (pa_cons (pe_callTy call_tuple_of (by rfl) T.tuple boot_tuple (pa_cons (pv 12) pa_nil)) pa_nil))) pa_nil)) pa_nil)))))))
      (pss_cons (ps_if (pt_val (pv 5)) (pss_one (ps_ret (pe_tup (pa_cons (pe_callTy call_tuple_of (by rfl) T.tuple boot_tuple (pa_cons (pv 3) pa_nil)) (pa_cons (pe_op op_catU (pe_callTy call_tuple_of (by rfl) T.tuple boot_tuple (pa_cons (pv 9) pa_nil)) (pe_tup (pa_cons (pe_tup (pa_cons pe_str (pa_cons (pv 4) (pa_cons (pe_ix ix_list (pv 11) pe_int (fun _ _ => rfl)) (pa_cons (pe_ix ix_list (pv 11) pe_int (fun _ _ => rfl)) pa_nil))))) pa_nil))) pa_nil))))) pss_nil)
      (pss_one (ps_ret (pe_tup (pa_cons (pe_callTy call_tuple_of (by rfl) T.tuple boot_tuple (pa_cons (pv 3) pa_nil)) (pa_cons (pe_op op_catU (pe_callTy call_tuple_of (by rfl) T.tuple boot_tuple (pa_cons (pv 9) pa_nil)) (pe_ix ix_list (pv 11) pe_int (fun _ _ => rfl))) pa_nil))))))))))))))))))), ?_⟩
    have nld : l ≠ d := by
      obtain ⟨x0, y0, ed⟩ := id hd
      refine ne_of hl ed fun z => ?_
      cases xs with
      | nil => cases z
      | cons a b => cases z
    refine ⟨_, rfl, _, rfl, _, rfl, d, 3, rfl, hd, (by decide), fun r0 H1 h0 b1 d1 => ⟨_, _, rfl, rfl, ?_⟩⟩
    have l1 := b1 _ _ hl nld
    refine ⟨d, l, xs, 1 + r0, congrArg (fun z => [V.ref d, V.ref l, V.int z]) (show (1 + (r0 : Int)) = ((1 + r0 : Nat) : Int) by omega), d1, l1, hx, by omega, fun rs us ds H2 b2 d2 hrs1 ers dws dl dok => ?_⟩
    have n1 : 1 ≤ ds.length ∧ ds.length ≤ 3 := by omega
    have nrd : rs ≠ d := d1.ne hrs1
    have F2 : But d H H2 := b1.trans b2
    have l2 := b2 _ _ l1 nld
    have lus := paired_len dws
    clear b1 b2 d1 l1 dl h0 hrs1
    refine ⟨_, rfl, rs, rfl, ⟨us, SqL.of ers⟩, comp_list (xs := us) (fun j ys H' => Same H2 H' ∧ Sms C H' ys ((ds.take j).map mulS)) ⟨Same.refl _, .nil⟩ (fun j ys H' _ q => SqL.of (q.1 _ _ ers)) ?_ ?_⟩
    · rintro j v ys H3 hj ⟨s3, sy⟩
      obtain ⟨x, ex, q, p, rfl, eq, S⟩ := paired_at dws hj
      have jl : j < us.length := (List.getElem?_eq_some_iff.mp hj).1
      obtain ⟨gx, x1, x5, y0, yl⟩ := dok x (List.mem_of_getElem? ex)
      have lx := gx.len hx
      have S3 := S.same s3
      obtain ⟨dx, t, ep, _, _⟩ := id S3
      have sl := paired_len sy
      rw [List.length_map, List.length_take] at sl
      refine ⟨q, _, rfl, SqT.of (s3 _ _ eq), rfl, _, _, rfl, _, _, rfl, _, _, rfl, rfl, Ext.three, alwT ?_⟩
      refine ⟨_, rfl, p, dx, _, rfl, ep, sflds_no _ _ (by decide +kernel) (by decide +kernel), _, rfl, p, x.1.1, x.1.2, x.2.1, rfl, S3, by omega, ⟨by omega, by omega⟩, fun r4 t4 H4 s4 g4 tl4 S4 => ?_⟩
      obtain ⟨dx4, tt4, ep4, _, _⟩ := id S4
      refine ⟨r4, dx4, _, rfl, ep4, sflds_no _ _ (by decide +kernel) (by decide +kernel), Nat.zero_le _, fun t0 ht0 => ⟨_, rfl, t0, x.2.2, [], rfl, .inr ⟨[], upd_same, .nil⟩, by decide, fun r5 t5 H5 s5 g5 tl5 S5 => ?_⟩⟩
      have e5 : t5 = [] := (gm_num (xs := xs) (n := x.2.2) g5).1
      subst e5
      have sT := new (o := .tup []) ht0
      refine ⟨r4, r5, t4, [], _, _, rfl, (S4.same sT).same s5, S5, (by show t4.length + 0 < 64; omega), fun r6 t6 H6 s6 g6 tl6 S6 => ⟨line _ (by omega), (((s3.trans s4).trans sT).trans s5).trans s6, ?_⟩⟩
      have e6 : t6 = _ := case_is gx.1 (by omega) g4 g6
      subst e6
      rw [take_snoc ex, List.map_append]
      exact paired_snoc (sy.hard (Hard.of (((s4.trans sT).trans s5).trans s6))) ⟨r6, rfl, S6⟩
    rintro ys H3 ⟨s3, sy⟩ ca hca
    rw [lus, List.take_length] at sy
    have sC := new (o := .lst ys) hca
    have s23 := s3.trans sC
    have FA : But d H (upd H3 ca (.lst ys)) := F2.trans (But.of s23)
    have dA := d2.same s23
    have lA := s23 _ _ l2
    have ersA := s23 _ _ ers
    have dwsA := dws.hard (Hard.of s23)
    have ecaA : (upd H3 ca (.lst ys)) ca = some (.lst ys) := upd_same
    have syA := sy.hard (Hard.of sC)
    have nca : ca ≠ d := (d2.same s3).ne hca
    generalize upd H3 ca (.lst ys) = HA at sC s23 FA dA lA ersA dwsA ecaA syA ⊢
    clear s3 sy sC s23 F2 d2 l2 ers dws hca
    have lys := paired_len syA
    rw [List.length_map] at lys
    refine ⟨_, rfl, _, rfl, d, l, xs, 1, rfl, dA, lA, hx, by decide, fun rq vq dq HB bB dB hrq erq dwq dql dqok => ?_⟩
    obtain ⟨v0, xq, rfl, rfl, hq0⟩ : ∃ v x, vq = [v] ∧ dq = [x] ∧ DwAt C HB v x := by
      cases dwq with
      | nil => cases dql
      | cons h t => cases t with
        | nil => exact ⟨_, _, rfl, rfl, h⟩
        | cons _ _ => simp at dql
    obtain ⟨tq, pq, rfl, etq, Spq⟩ := hq0
    have gpq : Gm xs xq.1 := (dqok xq (List.mem_singleton.mpr rfl)).1
    refine ⟨rq, _, 0, _, rfl, rfl, SqL.of erq, atI_0 _ _, tq, _, 0, _, rfl, rfl, SqT.of etq, rfl, ?_⟩
    refine ⟨_, rfl, d, 2, rfl, dB, (by decide), fun r1 HC h1 bC dC => ⟨rfl, ?_⟩⟩
    generalize decide (V.int (r1 : Int) = V.int 1) = B
    have bBC := bB.trans bC
    have FC := FA.trans bBC
    have lC := bBC _ _ lA nld
    have ersC := bBC _ _ ersA nrd
    have hBC := dA.soft bBC
    have dwsC := dwsA.hard hBC
    have ecaC := bBC _ _ ecaA nca
    have syC := syA.hard hBC
    have SpC := Spq.hard (dB.soft bC)
    clear bB bC bBC hBC FA dA lA ersA dwsA ecaA syA dB erq etq Spq dqok hrq dwq h1
    refine ⟨Nat.zero_le _, fun en hen => ?_⟩
    have sE := new (o := .lst []) hen
    have ned : en ≠ d := dC.ne hen
    have nre : rs ≠ en := ne_of_none ersC hen
    have nce : ca ≠ en := ne_of_none ecaC hen
    have hen0 : H en = none := none_but FC dC hen
    have SpE := SpC.same sE
    obtain ⟨dxq, tq2, epq, _, _⟩ := id SpE
    have lpq := gpq.len hx
    refine ⟨_, rfl, _, rfl, pq, dxq, _, rfl, epq, sflds_no _ _ (by decide +kernel) (by decide +kernel), _, rfl, pq, xq.1.1, xq.1.2, -1, rfl, SpE, by omega, ⟨by decide, by decide⟩, fun r5 t5 H5 s5 g5 tl5 S5 => ?_⟩
    obtain ⟨dx5, tt5, ep5, _, _⟩ := id S5
    refine ⟨r5, dx5, _, rfl, ep5, sflds_no _ _ (by decide +kernel) (by decide +kernel), Nat.zero_le _, fun t0 ht0 => ⟨_, rfl, t0, _, [], rfl, .inr ⟨[], upd_same, .nil⟩, by decide, fun r6 t6 H6 s6 g6 tl6 S6 => ?_⟩⟩
    obtain ⟨e6, g6m, ev6⟩ := gm_num (xs := xs) (n := (-1 : Int)) g6
    subst e6
    have sT := new (o := .tup []) ht0
    obtain ⟨gm5, ev5⟩ := gm_times gpq g5
    refine ⟨r5, r6, t5, [], _, _, rfl, (S5.same sT).same s6, S6, (by show t5.length + 0 < 64; omega), fun r7 t7 H7 s7 g7 tl7 S7 => ⟨(by show 2 ≤ sizeLine; exact Nat.le_of_lt (line 2 (by decide))), fun mo hmo => ?_⟩⟩
    obtain ⟨gm7, ev7⟩ := gm_plus gm5 g6m g7
    have hm1 : ∀ f, ev (t7, xq.1.2 * -1 + -1) f = -ev xq.1 f - 1 := fun f => by
      rw [ev7, ev5, ev6]
      show ev xq.1 f * -1 + -1 = _
      omega
    have sM := new (o := .lst [V.ref pq, V.ref r7]) hmo
    have sCD : Same HC (upd H7 mo (.lst [V.ref pq, V.ref r7])) := ((((sE.trans s5).trans sT).trans s6).trans s7).trans sM
    have sED : Same (upd HC en (.lst [])) (upd H7 mo (.lst [V.ref pq, V.ref r7])) := (((s5.trans sT).trans s6).trans s7).trans sM
    have eenD := sED _ _ (upd_same (H := HC) (a := en) (o := .lst []))
    have emoD : (upd H7 mo (.lst [V.ref pq, V.ref r7])) mo = some (.lst [V.ref pq, V.ref r7]) := upd_same
    have nmo : mo ≠ d := ((dC.same (((((sE.trans s5).trans sT).trans s6).trans s7)))).ne hmo
    have nme : mo ≠ en := (ne_of_none (((((s5.trans sT).trans s6).trans s7)) _ _ (upd_same (H := HC) (a := en) (o := .lst []))) hmo).symm
    have S7D := S7.same sM
    generalize hm : ((t7, xq.1.2 * -1 + -1) : Sm) = m1 at gm7 hm1
    have S7D : SumAt C (upd H7 mo (.lst [V.ref pq, V.ref r7])) r7 m1.1 m1.2 := by rw [← hm]; exact S7D
    have FD := FC.trans (But.of sCD)
    have dD := dC.same sCD
    have ersD := sCD _ _ ersC
    have dwsD := dwsC.hard (Hard.of sCD)
    have ecaD := sCD _ _ ecaC
    have syD := syC.hard (Hard.of sCD)
    have SpD := SpC.same sCD
    generalize upd H7 mo (.lst [V.ref pq, V.ref r7]) = HD at sCD sED eenD emoD S7D FD dD ersD dwsD ecaD syD SpD sM ⊢
    clear S5 S6 S7 SpE SpC dwsC syC ersC ecaC lC FC dC sCD sED sM hmo s5 s6 s7 sT sE g5 g6 g7 gm5 ev5 ev6 ev7 g6m epq ep5 hen ht0 hm
    refine ⟨_, rfl, .inr ⟨B, rfl, _, _, rfl, rfl, ?_⟩⟩
    have hB2 : ((1 + (if B = true then 1 else 0) : Int) = 1 ∧ B = false) ∨ ((1 + (if B = true then 1 else 0) : Int) = 2 ∧ B = true) := by cases B; exact .inl ⟨rfl, rfl⟩; exact .inr ⟨rfl, rfl⟩
    refine ⟨1 + (if B = true then 1 else 0), rfl, by omega, by omega, for_range (n := (1 + (if B = true then 1 else 0) : Int).toNat) (fun i σ H' => ∃ (o8 : Option V) (es : List V) (Es : List Ed), σ = [some (.ref d), some (.ref l), some (.ref rs), some (.ref ca), some (.ref pq), some (.bl B), some (.ref en), some (.ref mo), o8, none, none, none, none] ∧ (∀ b o, HD b = some o → b ≠ d → b ≠ en → H' b = some o) ∧ Hard HD H' ∧ Dr H' d ∧ H' en = some (.lst es) ∧ Paired (EdAt C d en H') es Es ∧ Es.length = i ∧ ∀ j e, Es[j]? = some e → EdOk xs ds (if B = true then (if j = 0 then xq.1 else m1) else s0) e) ⟨none, [], [], rfl, (fun _ _ z _ _ => z), Hard.of (Same.refl _), dD, eenD, .nil, rfl, (fun j e h => by simp at h)⟩ ?_ ?_⟩
    · rintro i σ HE hi ⟨o8, es, Es, rfl, KE, HdE, dE, een, pE, El, eok⟩
      have i2 : i < 2 ∧ (B = false → i = 0) := by
        rcases hB2 with ⟨a, b⟩ | ⟨a, b⟩
        · rw [a] at hi; have : i < 1 := hi; exact ⟨by omega, fun _ => by omega⟩
        · rw [a] at hi; have : i < 2 := hi; exact ⟨this, fun z => by rw [b] at z; cases z⟩
      refine ⟨_, rfl, .inl ⟨rfl, _, SqL.of een⟩, _, rfl, _, rfl, Nat.zero_le _, fun t0 ht0 => ⟨t0, 0, [], rfl, .inr ⟨[], upd_same, .nil⟩, by decide, fun rz tz HF sF gF tlF SF => ?_⟩⟩
      obtain ⟨etz, gz, _⟩ := gm_num (xs := xs) (n := (0 : Int)) gF
      subst etz
      have sEF := (new (o := .tup []) ht0).trans sF
      have SpF := (SpD.hard HdE).same sEF
      have SmF := (S7D.hard HdE).same sEF
      obtain ⟨pm, hmk, Spm⟩ : ∃ pm, ([V.ref pq, V.ref r7] : List V)[i]? = some (V.ref pm) ∧ SumAt C HF pm (if i = 0 then xq.1 else m1).1 (if i = 0 then xq.1 else m1).2 := by
        have : i = 0 ∨ i = 1 := by omega
        rcases this with e | e <;> subst e
        · exact ⟨pq, rfl, SpF⟩
        · exact ⟨r7, rfl, SmF⟩
      refine ⟨_, rfl, _, rfl, mo, _, _, _, rfl, rfl, SqL.of (sEF _ _ (KE _ _ emoD nmo nme)), atI_z hmk, (by show 2 ≤ sizeLine; exact Nat.le_of_lt (line 2 (by decide))), fun q hq => ?_⟩
      have sQ := new (o := .lst [V.ref rz, V.ref pm]) hq
      have hsel : atI [V.ref rz, V.ref pm] (if B = true then 1 else 0) = some (V.ref (if B = true then pm else rz)) := by cases B <;> rfl
      refine ⟨_, rfl, .inr ⟨B, rfl, q, _, _, _, rfl, rfl, SqL.of upd_same, hsel, ?_⟩⟩
      have sEQ := sEF.trans sQ
      have Ssel : SumAt C (upd HF q (.lst [V.ref rz, V.ref pm])) (if B = true then pm else rz) (if B = true then (if i = 0 then xq.1 else m1) else s0).1 (if B = true then (if i = 0 then xq.1 else m1) else s0).2 := by
        cases B
        · exact SF.same sQ
        · exact Spm.same sQ
      have Gsel : Gm xs (if B = true then (if i = 0 then xq.1 else m1) else s0) := by
        cases B
        · exact gz
        · by_cases e : i = 0
          · rw [if_pos rfl, if_pos e]; exact gpq
          · rw [if_pos rfl, if_neg e]; exact gm7
      have dQ := dE.same sEQ
      have eenQ := sEQ _ _ een
      refine ⟨d, rs, (if B = true then pm else rz), xs, us, ds, (if B = true then (if i = 0 then xq.1 else m1) else s0), rfl, dQ, sEQ _ _ (KE _ _ ersD nrd nre), (dwsD.hard HdE).hard (Hard.of sEQ), by omega, dok, hx, Ssel, Gsel, fun q8 r8 wl t8 ws8 c8 HG bG dG hq8 eq8 hwl ewl S8 g8 w8 hc8 hev => ?_⟩
      have eenG := bG _ _ eenQ ned
      have lpE := paired_len pE
      refine ⟨en, _, _, rfl, rfl, eenG, line _ (by omega), ?_⟩
      have hU := hard_upd (ys := es ++ [V.ref q8]) eenG
      have hQG := dQ.soft bG
      have hEU : Hard HE (upd HG en (.lst (es ++ [V.ref q8]))) := ((Hard.of sEQ).trans hQG).trans hU
      have kEU : ∀ b o, HE b = some o → b ≠ d → b ≠ en → (upd HG en (.lst (es ++ [V.ref q8]))) b = some o := fun b o z n1 n2 => by rw [upd_ne n2]; exact bG _ _ (sEQ _ _ z) n1
      have nwe : wl ≠ en := (ne_of_none eenQ hwl).symm
      refine ⟨_, es ++ [V.ref q8], Es ++ [(t8, ws8)], rfl, fun b o z n1 n2 => kEU _ _ (KE _ _ z n1 n2) n1 n2, HdE.trans hEU, ?_, upd_same, paired_snoc (Paired.mapP pE fun _ _ h => h.keep hEU kEU) ⟨q8, r8, wl, rfl, hU.t _ _ eq8, S8.hard hU, by rw [upd_ne nwe]; exact ewl, dQ.ne hwl, nwe⟩, (by rw [List.length_append, El]; rfl), fun j e he => ?_⟩
      · obtain ⟨x8, y8, z8⟩ := dG
        exact ⟨x8, y8, by rw [upd_ne ned.symm]; exact z8⟩
      · by_cases hj : j < Es.length
        · rw [List.getElem?_append_left hj] at he
          exact eok j e he
        · have hj2 : j = i := by
            have := (List.getElem?_eq_some_iff.mp he).1
            rw [List.length_append] at this
            simp at this
            omega
          rw [List.getElem?_append_right (by omega), show j - Es.length = 0 by omega] at he
          cases he
          rw [hj2]
          exact ⟨g8, w8, c8, hc8, hev⟩
    rintro σ HE ⟨o8, es, Es, rfl, KE, HdE, dE, een, pE, El, eok⟩
    have El2 : (Es.length = 1 ∧ B = false) ∨ (Es.length = 2 ∧ B = true) := by
      rcases hB2 with ⟨a, b⟩ | ⟨a, b⟩
      · rw [a] at El; exact .inl ⟨El, b⟩
      · rw [a] at El; exact .inr ⟨El, b⟩
    have lpE := paired_len pE
    have ecaE := KE _ _ ecaD nca nce
    have ersE := KE _ _ ersD nrd nre
    have dwsE := dwsD.hard HdE
    have syE := syD.hard HdE
    have SpE := SpD.hard HdE
    have FE : But d H HE := fun b o z n => KE _ _ (FD _ _ z n) n (ne_of_none z hen0)
    refine ⟨_, rfl, _, rfl, en, rfl, ⟨es, SqL.of een⟩, comp_list (xs := es) (fun j zs H' => H' = HE ∧ Sms C HE zs ((Es.take j).map (·.1))) ⟨rfl, .nil⟩ (fun j zs H' _ q => SqL.of (q.1 ▸ een)) ?_ ?_⟩
    · rintro j v zs H' hj ⟨rfl, sy2⟩
      obtain ⟨e, ee, q, r, wl, rfl, eq, Sr, _⟩ := paired_at pE hj
      have jl : j < es.length := (List.getElem?_eq_some_iff.mp hj).1
      have sl := paired_len sy2
      rw [List.length_map, List.length_take] at sl
      refine ⟨Ext.one, alwT ⟨_, rfl, q, _, 0, _, rfl, rfl, SqT.of eq, rfl, line _ (by omega), rfl, ?_⟩⟩
      rw [take_snoc ee, List.map_append]
      exact paired_snoc sy2 ⟨r, rfl, Sr⟩
    rintro ys2 H' ⟨rfl, sy2⟩ qc hqc
    rw [lpE, List.take_length] at sy2
    have ly2 := paired_len sy2
    rw [List.length_map] at ly2
    refine ⟨ca, qc, ys, ys2, rfl, rfl, new hqc _ _ ecaE, upd_same, Nat.le_of_lt (line _ (by omega)), fun cb hcb => ?_⟩
    have sH := (new (o := .lst ys2) hqc).trans (new (o := .lst (ys ++ ys2)) hcb)
    have ecb : (upd (upd H' qc (.lst ys2)) cb (.lst (ys ++ ys2))) cb = some (.lst (ys ++ ys2)) := upd_same
    have FH := FE.trans (But.of sH)
    have dH := dE.same sH
    have ersH := sH _ _ ersE
    have eenH := sH _ _ een
    have dwsH := dwsE.hard (Hard.of sH)
    have SpH := SpE.same sH
    have pH : Paired (EdAt C d en (upd (upd H' qc (.lst ys2)) cb (.lst (ys ++ ys2)))) es Es := Paired.mapP pE fun _ _ h => h.same sH
    have smH : Sms C (upd (upd H' qc (.lst ys2)) cb (.lst (ys ++ ys2))) (ys ++ ys2) (ds.map mulS ++ Es.map (·.1)) := paired_app (syE.hard (Hard.of sH)) (sy2.hard (Hard.of sH))
    generalize upd (upd H' qc (.lst ys2)) cb (.lst (ys ++ ys2)) = HH at sH ecb FH dH ersH eenH dwsH SpH pH smH ⊢
    clear sH FE dE ersE een dwsE SpE pE syE sy2 ecaE KE HdE hqc hcb FD dD ersD dwsD ecaD syD SpD eenD emoD S7D
    generalize hSS : ds.map mulS ++ Es.map (·.1) = SS at smH
    have hgS : ∀ s ∈ SS, Gm xs s := fun s hs => by
      rw [← hSS] at hs
      rcases List.mem_append.mp hs with h | h
      · obtain ⟨x, hx', rfl⟩ := List.mem_map.mp h
        exact gm_mul (dok x hx')
      · obtain ⟨e, he, rfl⟩ := List.mem_map.mp h
        obtain ⟨j, hj⟩ := List.getElem?_of_mem he
        exact (eok j e hj).1
    have lcb : (ys ++ ys2).length = SS.length := paired_len smH
    have lSS : SS.length = ds.length + Es.length := by rw [← hSS, List.length_append, List.length_map, List.length_map]
    have atS : ∀ j x, ds[j]? = some x → SS[j]? = some (mulS x) := fun j x h => by
      rw [← hSS]
      refine get_left ?_
      rw [List.getElem?_map, h]
      rfl
    refine ⟨Nat.zero_le _, fun pa hpa => ⟨Nat.zero_le _, fun pl hpl => ?_⟩⟩
    have hpl0 : HH pl = none := none_of_new hpl
    have npp : pa ≠ pl := ne_of_none upd_same hpl
    have sP := (new (o := .lst []) hpa).trans (new (o := .lst []) hpl)
    refine ⟨_, rfl, rs, _, rfl, .inl (SqL.of (sP _ _ ersH)), (us.length : Int), rfl, by omega, by omega, for_range (n := (us.length : Int).toNat) (fun i σ H' => ∃ (o8 : Option V) (pas : List V) (cs : List (Nat × Int)) (pls : List Nat), σ = [some (.ref d), some (.ref l), some (.ref rs), some (.ref cb), some (.ref pq), some (.bl B), some (.ref en), some (.ref mo), o8, some (.ref pa), some (.ref pl), none, none] ∧ Same HH H' ∧ H' pa = some (.lst pas) ∧ H' pl = some (.lst (pls.map zi)) ∧ Paired (CutT H') pas cs ∧ pls.length = i ∧ cs.length ≤ i ∧ Ok (cutL cs) SS (Plc xs ds SS i cs.length pls)) ⟨_, [], [], [], rfl, sP, new hpl _ _ upd_same, upd_same, .nil, rfl, Nat.le_refl _, ⟨[], by rw [List.append_nil], rfl, (fun _ h => nomatch h), (fun _ _ h => absurd h (Nat.not_lt_zero _))⟩⟩ ?_ ?_⟩
    · rintro i σ HI hi ⟨o8, pas, cs, pls, rfl, sI, epa, epl, pc, pll, csl, hok⟩
      have iu : i < us.length := hi
      have ersI := sI _ _ ersH
      obtain ⟨x, ex, tq, p, rfl', etq, Sx⟩ := paired_at (dwsH.hard (Hard.of sI)) (List.getElem?_eq_getElem iu)
      have eu : us[i]? = some (.ref tq) := by rw [List.getElem?_eq_getElem iu, rfl']
      have okx := dok x (List.mem_of_getElem? ex)
      obtain ⟨gx, x1, x5, y0, yl⟩ := id okx
      have lpc := paired_len pc
      refine ⟨_, rfl, .inl ⟨rfl, _, SqL.of epl⟩, _, rfl, pl, _, _, rfl, rfl, epl, (by rw [List.length_map]; exact line _ (by omega)), ?_⟩
      have n1' : ∀ {b : Addr} {o : HO}, HI b = some o → b ≠ pl → (upd HI pl (.lst (pls.map zi ++ [V.int (0 + (i : Int))]))) b = some o := fun z n => by rw [upd_ne n]; exact z
      have ersI2 := n1' ersI (ne_of_none ersH hpl0)
      have h12 : Hard HI (upd HI pl (.lst (pls.map zi ++ [V.int (0 + (i : Int))]))) := hard_upd epl
      have epa2 := n1' epa npp
      have epl2 : (upd HI pl (.lst (pls.map zi ++ [V.int (0 + (i : Int))]))) pl = some (.lst (pls.map zi ++ [V.int (0 + (i : Int))])) := upd_same
      have sI2 : Same HH (upd HI pl (.lst (pls.map zi ++ [V.int (0 + (i : Int))]))) := fun b o z => n1' (sI _ _ z) (ne_of_none z hpl0)
      have pc2 := Paired.mapP pc fun _ _ h => h.hard h12
      generalize upd HI pl (.lst (pls.map zi ++ [V.int (0 + (i : Int))])) = HJ at h12 ersI2 epa2 epl2 sI2 pc2 ⊢
      clear n1' epa epl pc sI ersI
      have etq := h12.t _ _ etq
      refine ⟨_, rfl, _, rfl, rs, _, _, _, rfl, rfl, SqL.of ersI2, atI_z eu, tq, _, 1, _, rfl, rfl, SqT.of etq, rfl, _, _, rfl, rfl, _, rfl, ite2 (fun hb => ?_) (fun hb => ?_)⟩
      · refine ⟨_, rfl, cb, _, rfl, .inl (SqL.of (sI2 _ _ ecb)), _, rfl, pa, _, rfl, .inl (SqL.of epa2), _, _, rfl, rfl, ?_⟩
        have zl : (pls.map zi).length = i := by rw [List.length_map, pll]
        refine ⟨_, rfl, _, rfl, pl, _, _, i, rfl, rfl, epl2, ixN_z (by rw [List.length_append, zl]; exact Nat.lt_succ_self _), ?_⟩
        have eset : (pls.map zi ++ [V.int (0 + (i : Int))]).set i (V.int (((ys ++ ys2).length : Int) + (pas.length : Int))) = (pls ++ [SS.length + cs.length]).map zi := by
          have := set_last (pls.map zi) (V.int (0 + (i : Int))) (V.int (((ys ++ ys2).length : Int) + (pas.length : Int)))
          rw [zl] at this
          rw [this, List.map_append, lcb, lpc]
          show _ = _ ++ [V.int ((SS.length + cs.length : Nat) : Int)]
          rw [Int.natCast_add]
        show _
        have hU := hard_upd (ys := (pls.map zi ++ [V.int (0 + (i : Int))]).set i (V.int (((ys ++ ys2).length : Int) + (pas.length : Int)))) epl2
        have epl3 : (upd HJ pl (.lst ((pls.map zi ++ [V.int (0 + (i : Int))]).set i (V.int (((ys ++ ys2).length : Int) + (pas.length : Int)))))) pl = some (.lst ((pls ++ [SS.length + cs.length]).map zi)) := by rw [upd_same, eset]
        have keep3 : ∀ {b : Addr} {o : HO}, HJ b = some o → b ≠ pl → (upd HJ pl (.lst ((pls.map zi ++ [V.int (0 + (i : Int))]).set i (V.int (((ys ++ ys2).length : Int) + (pas.length : Int)))))) b = some o := fun z n => by rw [upd_ne n]; exact z
        have epa3 := keep3 epa2 npp
        have ers3 := keep3 ersI2 (ne_of_none ersH hpl0)
        have s3 : Same HH _ := fun b o z => keep3 (sI2 _ _ z) (ne_of_none z hpl0)
        have pc3 := Paired.mapP pc2 fun _ _ h => h.hard hU
        have etq3 := hU.t _ _ etq
        generalize upd HJ pl (.lst ((pls.map zi ++ [V.int (0 + (i : Int))]).set i (V.int (((ys ++ ys2).length : Int) + (pas.length : Int))))) = HK at hU epl3 epa3 ers3 s3 pc3 etq3 ⊢
        refine ⟨_, rfl, .inl ⟨rfl, _, SqL.of epa3⟩, _, rfl, _, rfl, _, rfl, rs, _, _, _, rfl, rfl, SqL.of ers3, atI_z eu, tq, _, 1, _, rfl, rfl, SqT.of etq3, rfl, (by show 3 ≤ sizeLine; exact Nat.le_of_lt (line 3 (by decide))), fun t ht => ?_⟩
        have sT := new (o := .tup [.str "cut", .int (0 + (i : Int)), .int x.2.1]) ht
        have epa4 := sT _ _ epa3
        have npt : t ≠ pa := (ne_of_none epa3 ht).symm
        refine ⟨pa, _, _, rfl, rfl, epa4, line _ (by omega), ?_⟩
        have hV := hard_upd (ys := pas ++ [V.ref t]) epa4
        refine ⟨_, pas ++ [V.ref t], cs ++ [(i, x.2.1)], pls ++ [SS.length + cs.length], rfl, fun b o z => ?_, upd_same, ?_, paired_snoc (Paired.mapP pc3 fun _ _ h => (h.hard (Hard.of sT)).hard hV) ⟨t, rfl, ?_⟩, (by rw [List.length_append, pll]; rfl), (by rw [List.length_append]; show cs.length + 1 ≤ _; omega), ?_⟩
        · rw [upd_ne (ne_of_none z hpa)]
          exact sT _ _ (s3 _ _ z)
        · rw [upd_ne npp.symm]
          exact sT _ _ epl3
        · rw [upd_ne npt, upd_same, Int.zero_add]
        · have ecl : cutL (cs ++ [(i, x.2.1)]) = cutL cs ++ [.cut i x.2.1] := by unfold cutL; rw [List.map_append]; rfl
          rw [ecl]
          refine Ok.snoc (hok.mono fun ss' h => ?_)
          obtain ⟨ad, e1, al, ag, pj⟩ := h
          have eat : ss'[i]? = some (mulS x) := by rw [e1]; exact get_left (atS i x ex)
          refine ⟨rt_mul okx eat, fun s hs => ?_⟩
          have es : s = x.1 := cut_mul x1 y0 yl eat hs
          subst es
          refine ⟨ad ++ [x.1], by rw [e1, List.append_assoc], by rw [List.length_append, List.length_append, al]; rfl, fun s hs => ?_, fun j y hj hy => ?_⟩
          · rcases List.mem_append.mp hs with z | z
            · exact ag s z
            · rw [List.mem_singleton.mp z]; exact gx
          · by_cases hji : j = i
            · rw [hji, ex] at hy
              cases hy
              refine ⟨SS.length + cs.length, ?_, ?_⟩
              · rw [hji, List.getElem?_append_right (by omega), pll]; simp
              · rw [e1, List.getElem?_append_right (by rw [List.length_append]; omega), List.length_append, al]; simp
            · obtain ⟨k0, a, b⟩ := pj j y (by omega) hy
              exact ⟨k0, get_left a, get_left b⟩
      · have hx1 : x.2.1 = 1 := by
          have : ¬ (1 < x.2.1) := fun z => hb (decide_eq_true z)
          omega
        refine ⟨_, pas, cs, pls ++ [i], rfl, sI2, epa2, ?_, pc2, (by rw [List.length_append, pll]; rfl), by omega, hok.mono fun ss' h => ?_⟩
        · rw [epl2, List.map_append]
          show _ = some (HO.lst (pls.map zi ++ [V.int (i : Int)]))
          rw [Int.zero_add]
        · obtain ⟨ad, e1, al, ag, pj⟩ := h
          refine ⟨ad, e1, al, ag, fun j y hj hy => ?_⟩
          by_cases hji : j = i
          · rw [hji, ex] at hy
            cases hy
            refine ⟨i, ?_, ?_⟩
            · rw [hji, List.getElem?_append_right (by omega), pll]; simp
            · rw [e1, ← mul_one hx1 y0 yl]; exact get_left (atS i x ex)
          · obtain ⟨k0, a, b⟩ := pj j y (by omega) hy
            exact ⟨k0, get_left a, b⟩
    rintro σ HI ⟨o8, pas, cs, pls, rfl, sI, epa, epl, pc, pll, csl, hok⟩
    rw [show ((us.length : Int)).toNat = us.length from rfl, lus] at pll csl hok
    have lpc := paired_len pc
    have ersI := sI _ _ ersH
    have eenI := sI _ _ eenH
    have ecbI := sI _ _ ecb
    have pI := Paired.mapP pH fun _ _ h => h.same sI
    have SpI := SpH.same sI
    have smI := smH.hard (Hard.of sI)
    have FI := FH.trans (But.of sI)
    have dI := dH.same sI
    refine ⟨Nat.zero_le _, fun inn hin => ?_⟩
    have sN := new (o := .lst []) hin
    refine ⟨_, rfl, en, _, rfl, .inl (SqL.of (sN _ _ eenI)), (es.length : Int), rfl, by omega, by omega, for_range (n := (es.length : Int).toNat) (fun i σ H' => ∃ (o8 o12 : Option V) (ivs : List V) (iw : List (List (Int × Nat))), σ = [some (.ref d), some (.ref l), some (.ref rs), some (.ref cb), some (.ref pq), some (.bl B), some (.ref en), some (.ref mo), o8, some (.ref pa), some (.ref pl), some (.ref inn), o12] ∧ Same HI H' ∧ H' inn = some (.lst ivs) ∧ Paired (InAt H') ivs iw ∧ iw.length = i ∧ ∀ j e, j < i → Es[j]? = some e → iw[j]? = some (zipW e.2 pls ++ [(1, ds.length + j)] ++ (if B = true then [(1, SS.length + cs.length)] else []))) ⟨_, none, [], [], rfl, sN, upd_same, .nil, rfl, (fun _ _ h => absurd h (Nat.not_lt_zero _))⟩ ?_ ?_⟩
    · rintro i σ HJ hi ⟨o8, o12, ivs, iw, rfl, sJ, ein, pin, iwl, hiw⟩
      have ie : i < es.length := hi
      obtain ⟨e, ee, q, r, wl, rfl', eq, Sr, ewl, _, _⟩ := paired_at pI (List.getElem?_eq_getElem ie)
      have eek : es[i]? = some (.ref q) := by rw [List.getElem?_eq_getElem ie, rfl']
      obtain ⟨_, ⟨wl3, wb⟩, _⟩ := eok i e ee
      have zl : (zipW e.2 pls).length = ds.length := by rw [zipW_len (by omega), wl3]
      refine ⟨_, rfl, rs, _, rfl, .inl (SqL.of (sJ _ _ ersI)), (us.length : Int), rfl, by omega, by omega, comp_range (n := (us.length : Int).toNat) (fun j zs H' => Same HJ H' ∧ Paired (WkAt H') zs ((zipW e.2 pls).take j)) ⟨Same.refl _, .nil⟩ ?_ ?_⟩
      · rintro j zs HK hj ⟨sK, pk⟩
        have ju : j < us.length := hj
        have jw : j < e.2.length := by omega
        have jp : j < pls.length := by omega
        have ewj := List.getElem?_eq_getElem jw
        have epj := List.getElem?_eq_getElem jp
        have sJK := sJ.trans sK
        have lk := paired_len pk
        rw [List.length_take] at lk
        refine ⟨Ext.one, alwT ⟨_, rfl, _, rfl, en, _, _, _, rfl, rfl, SqL.of (sJK _ _ eenI), atI_z eek, q, _, 1, _, rfl, rfl, SqT.of (sJK _ _ eq), rfl, _, rfl, wl, _, _, _, rfl, rfl, SqL.of (sJK _ _ ewl), atI_z (by rw [List.getElem?_map, ewj]; rfl), _, rfl, _, rfl, pl, _, _, _, rfl, rfl, SqL.of (sJK _ _ epl), atI_z (zi_at epj), (by show 2 ≤ sizeLine; exact Nat.le_of_lt (line 2 (by decide))), fun t ht => ⟨line _ (by omega), sK.trans (new ht), ?_⟩⟩⟩
        rw [take_snoc (zipW_at ewj epj)]
        exact paired_snoc (Paired.mapP pk fun _ _ h => h.same (new ht)) ⟨t, rfl, upd_same⟩
      rintro zs HK ⟨sK, pk⟩ lq hlq
      rw [List.take_of_length_le (by rw [zl, ← lus]; exact Nat.le_refl _)] at pk
      have lk := paired_len pk
      have s1 := sK.trans (new (o := .lst zs) hlq)
      have pk := Paired.mapP pk fun _ _ h => h.same (new (o := .lst zs) hlq)
      have elq : (upd HK lq (.lst zs)) lq = some (.lst zs) := upd_same
      generalize upd HK lq (.lst zs) = HL at s1 pk elq ⊢
      have sJL := sJ.trans s1
      refine ⟨_, rfl, rs, _, rfl, .inl (SqL.of (sJL _ _ ersI)), _, rfl, _, _, rfl, rfl, (by show 2 ≤ sizeLine; exact Nat.le_of_lt (line 2 (by decide))), fun t ht => ⟨(Nat.le_of_lt (line 1 (by decide))), fun lr hlr => ?_⟩⟩
      have s2 := (new (o := .tup [.int 1, .int ((us.length : Int) + (0 + (i : Int)))]) ht).trans (new (o := .lst [V.ref t]) hlr)
      have ett := new (o := .lst [V.ref t]) hlr _ _ (upd_same (H := HL) (a := t) (o := .tup [.int 1, .int ((us.length : Int) + (0 + (i : Int)))]))
      refine ⟨lq, lr, _, _, rfl, rfl, s2 _ _ elq, upd_same, Nat.le_of_lt (line _ (by show zs.length + 1 ≤ 100000; omega)), fun pp hpp => ?_⟩
      have sP3 := new (o := .lst (zs ++ [V.ref t])) hpp
      have s3 := s2.trans sP3
      have wk1 : Paired (WkAt (upd (upd (upd HL t (.tup [.int 1, .int ((us.length : Int) + (0 + (i : Int)))])) lr (.lst [V.ref t])) pp (.lst (zs ++ [V.ref t])))) (zs ++ [V.ref t]) (zipW e.2 pls ++ [(1, ds.length + i)]) := by
        refine paired_snoc (Paired.mapP pk fun _ _ h => h.same s3) ⟨t, rfl, ?_⟩
        rw [sP3 _ _ ett]
        show _ = some (HO.tup [V.int 1, V.int ((ds.length + i : Nat) : Int)])
        rw [Int.zero_add, ← Int.natCast_add, lus]
      have epp : (upd (upd (upd HL t (.tup [.int 1, .int ((us.length : Int) + (0 + (i : Int)))])) lr (.lst [V.ref t])) pp (.lst (zs ++ [V.ref t]))) pp = some (.lst (zs ++ [V.ref t])) := upd_same
      have sJM := sJL.trans s3
      have sjm := s1.trans s3
      have npp2 : pp ≠ inn := fun z => by
        have := (s1.trans s2) _ _ ein
        rw [← z, hpp] at this
        cases this
      generalize upd (upd (upd HL t (.tup [.int 1, .int ((us.length : Int) + (0 + (i : Int)))])) lr (.lst [V.ref t])) pp (.lst (zs ++ [V.ref t])) = HM at s3 wk1 epp sJM sjm sP3 ⊢
      have hpI : ∀ {b : Addr} {o : HO}, HJ b = some o → b ≠ pp := fun {b} {o} z w => by
        have := (s1.trans s2) _ _ z
        rw [w, hpp] at this
        cases this
      clear s2 ett sP3 hpp hlr ht s3 pk elq
      refine ⟨_, rfl, _, rfl, ite2 (fun hb => ?_) (fun hb => ?_)⟩
      · refine ⟨_, rfl, .inl ⟨rfl, _, SqL.of epp⟩, _, rfl, cb, _, rfl, .inl (SqL.of (sJM _ _ ecbI)), _, rfl, pa, _, rfl, .inl (SqL.of (sJM _ _ epa)), _, _, rfl, rfl, (by show 2 ≤ sizeLine; exact Nat.le_of_lt (line 2 (by decide))), fun u hu2 => ?_⟩
        have sU := new (o := .tup [.int 1, .int (((ys ++ ys2).length : Int) + (pas.length : Int))]) hu2
        have eppU := sU _ _ epp
        refine ⟨pp, _, _, rfl, rfl, eppU, line _ (by rw [List.length_append]; show zs.length + 1 ≤ 100000; omega), ?_⟩
        have hW := hard_upd (ys := zs ++ [V.ref t] ++ [V.ref u]) eppU
        have nup : u ≠ pp := (ne_of_none epp hu2).symm
        have wk2 : Paired (WkAt (upd (upd HM u (.tup [.int 1, .int (((ys ++ ys2).length : Int) + (pas.length : Int))])) pp (.lst (zs ++ [V.ref t] ++ [V.ref u])))) (zs ++ [V.ref t] ++ [V.ref u]) (zipW e.2 pls ++ [(1, ds.length + i)] ++ [(1, SS.length + cs.length)]) := by
          refine paired_snoc (Paired.mapP wk1 fun _ _ h => (h.same sU).hard hW) ⟨u, rfl, ?_⟩
          rw [upd_ne nup, upd_same]
          show _ = some (HO.tup [V.int 1, V.int ((SS.length + cs.length : Nat) : Int)])
          rw [Int.natCast_add, ← lcb, ← lpc]
        have xepp : (upd (upd HM u (.tup [.int 1, .int (((ys ++ ys2).length : Int) + (pas.length : Int))])) pp (.lst (zs ++ [V.ref t] ++ [V.ref u]))) pp = some (.lst (zs ++ [V.ref t] ++ [V.ref u])) := upd_same
        have xk : ∀ {b : Addr} {o : HO}, HJ b = some o → (upd (upd HM u (.tup [.int 1, .int (((ys ++ ys2).length : Int) + (pas.length : Int))])) pp (.lst (zs ++ [V.ref t] ++ [V.ref u]))) b = some o := fun z => by
          rw [upd_ne (hpI z)]
          exact sU _ _ (sjm _ _ z)
        have xein := xk ein
        have xhx : Hard HJ (upd (upd HM u (.tup [.int 1, .int (((ys ++ ys2).length : Int) + (pas.length : Int))])) pp (.lst (zs ++ [V.ref t] ++ [V.ref u]))) := ⟨fun _ _ z => xk z, fun _ _ _ _ z => xk z⟩
        have xsx : Same HI (upd (upd HM u (.tup [.int 1, .int (((ys ++ ys2).length : Int) + (pas.length : Int))])) pp (.lst (zs ++ [V.ref t] ++ [V.ref u]))) := fun b o z => xk (sJ _ _ z)
        generalize upd (upd HM u (.tup [.int 1, .int (((ys ++ ys2).length : Int) + (pas.length : Int))])) pp (.lst (zs ++ [V.ref t] ++ [V.ref u])) = xHX at hW wk2 xepp xk xein xhx xsx ⊢
        refine ⟨_, rfl, .inl ⟨rfl, _, SqL.of xein⟩, _, rfl, pp, _, rfl, .inl ⟨SqL.of xepp, fun tp htp => ⟨(by show 2 ≤ sizeLine; exact Nat.le_of_lt (line 2 (by decide))), fun tb htb => ⟨(Nat.le_of_lt (line 1 (by decide))), fun ta hta => ?_⟩⟩⟩⟩
        have sZ := ((new (o := .tup (zs ++ [V.ref t] ++ [V.ref u])) htp).trans (new (o := .tup [.str "add", .ref tp]) htb)).trans (new (o := .tup [V.ref tb]) hta)
        have etp := new (o := .tup [V.ref tb]) hta _ _ (new (o := .tup [.str "add", .ref tp]) htb _ _ (upd_same (a := tp) (o := .tup (zs ++ [V.ref t] ++ [V.ref u]))))
        have etb := new (o := .tup [V.ref tb]) hta _ _ (upd_same (a := tb) (o := .tup [.str "add", .ref tp]))
        have eta : (upd (upd (upd xHX tp (.tup (zs ++ [V.ref t] ++ [V.ref u]))) tb (.tup [.str "add", .ref tp])) ta (.tup [V.ref tb])) ta = some (.tup [V.ref tb]) := upd_same
        have einZ := sZ _ _ xein
        have lpin := paired_len pin
        refine ⟨inn, _, _, rfl, rfl, einZ, line _ (by omega), ?_⟩
        have hV := hard_upd (ys := ivs ++ [V.ref ta]) einZ
        have wkZ := Paired.mapP wk2 fun _ _ h => (h.same sZ).hard hV
        refine ⟨_, _, ivs ++ [V.ref ta], iw ++ [zipW e.2 pls ++ [(1, ds.length + i)] ++ [(1, SS.length + cs.length)]], rfl, fun b o z => ?_, upd_same, paired_snoc (Paired.mapP pin fun _ _ h => ((h.hard xhx).hard (Hard.of sZ)).hard hV) ⟨ta, tb, tp, _, rfl, hV.t _ _ eta, hV.t _ _ etb, hV.t _ _ etp, wkZ⟩, (by rw [List.length_append, iwl]; rfl), fun j e' hj he' => ?_⟩
        · rw [upd_ne (ne_of_none z hin)]
          exact sZ _ _ (xsx _ _ z)
        · by_cases hji : j = i
          · rw [hji, ee] at he'
            cases he'
            rw [hji, List.getElem?_append_right (by omega), iwl, show i - i = 0 by omega]
            rw [if_pos hb]
            first
              | rfl
              | (rw [List.append_nil]; rfl)
          · exact get_left (hiw j e' (by omega) he')
      · have xein := sjm _ _ ein
        have xepp := epp
        have xhx := Hard.of sjm
        have xsx := sJM
        generalize HM = xHX at *
        refine ⟨_, rfl, .inl ⟨rfl, _, SqL.of xein⟩, _, rfl, pp, _, rfl, .inl ⟨SqL.of xepp, fun tp htp => ⟨(by show 2 ≤ sizeLine; exact Nat.le_of_lt (line 2 (by decide))), fun tb htb => ⟨(Nat.le_of_lt (line 1 (by decide))), fun ta hta => ?_⟩⟩⟩⟩
        have sZ := ((new (o := .tup (zs ++ [V.ref t])) htp).trans (new (o := .tup [.str "add", .ref tp]) htb)).trans (new (o := .tup [V.ref tb]) hta)
        have etp := new (o := .tup [V.ref tb]) hta _ _ (new (o := .tup [.str "add", .ref tp]) htb _ _ (upd_same (a := tp) (o := .tup (zs ++ [V.ref t]))))
        have etb := new (o := .tup [V.ref tb]) hta _ _ (upd_same (a := tb) (o := .tup [.str "add", .ref tp]))
        have eta : (upd (upd (upd xHX tp (.tup (zs ++ [V.ref t]))) tb (.tup [.str "add", .ref tp])) ta (.tup [V.ref tb])) ta = some (.tup [V.ref tb]) := upd_same
        have einZ := sZ _ _ xein
        have lpin := paired_len pin
        refine ⟨inn, _, _, rfl, rfl, einZ, line _ (by omega), ?_⟩
        have hV := hard_upd (ys := ivs ++ [V.ref ta]) einZ
        have wkZ := Paired.mapP wk1 fun _ _ h => (h.same sZ).hard hV
        refine ⟨_, _, ivs ++ [V.ref ta], iw ++ [zipW e.2 pls ++ [(1, ds.length + i)]], rfl, fun b o z => ?_, upd_same, paired_snoc (Paired.mapP pin fun _ _ h => ((h.hard xhx).hard (Hard.of sZ)).hard hV) ⟨ta, tb, tp, _, rfl, hV.t _ _ eta, hV.t _ _ etb, hV.t _ _ etp, wkZ⟩, (by rw [List.length_append, iwl]; rfl), fun j e' hj he' => ?_⟩
        · rw [upd_ne (ne_of_none z hin)]
          exact sZ _ _ (xsx _ _ z)
        · by_cases hji : j = i
          · rw [hji, ee] at he'
            cases he'
            rw [hji, List.getElem?_append_right (by omega), iwl, show i - i = 0 by omega]
            rw [if_neg hb, List.append_nil]
            first
              | rfl
              | (rw [List.append_nil]; rfl)
          · exact get_left (hiw j e' (by omega) he')
    rintro σ HJ ⟨o8, o12, ivs, iw, rfl, sJ, ein, pin, iwl, hiw⟩
    rw [show ((es.length : Int)).toNat = es.length from rfl, lpE] at iwl hiw
    have lin0 := paired_len pin
    have FJ := FI.trans (But.of sJ)
    have dJ := dI.same sJ
    have smJ := smI.hard (Hard.of sJ)
    have ecbJ := sJ _ _ ecbI
    have epaJ := sJ _ _ epa
    have pcJ := Paired.mapP pc fun _ _ h => h.hard (Hard.of sJ)
    have SpJ := SpI.same sJ
    have nm : ∀ f, ∃ s ∈ SS, ev s f < 0 := fun f => by
      rw [← hSS]
      refine no_meet dok eok f ?_
      rcases El2 with ⟨a, b⟩ | ⟨a, b⟩
      · exact .inl ⟨Es[0], List.getElem?_eq_getElem (by omega), by rw [b]; rfl⟩
      · refine .inr ⟨Es[0], Es[1], List.getElem?_eq_getElem (by omega), List.getElem?_eq_getElem (by omega), ?_⟩
        rw [b]
        exact hm1 f
    clear FI dI smI ecbI epa pc SpI pI ersI eenI epl
    rcases El2 with ⟨eB, hB⟩ | ⟨eB, hB⟩
    · subst hB
      refine ⟨_, rfl, _, rfl, ifF rfl ?_⟩
      obtain ⟨e0, ee0⟩ : ∃ e, Es[0]? = some e := ⟨Es[0], List.getElem?_eq_getElem (by omega)⟩
      have w0 := hiw 0 e0 (by omega) ee0
      obtain ⟨v0, hv0⟩ : ∃ v, ivs[0]? = some v := ⟨ivs[0], List.getElem?_eq_getElem (by omega)⟩
      obtain ⟨ws0, ew0, a0, b0, t0, us0, rfl, ea0, eb0, et0, pr0⟩ := paired_at pin hv0
      rw [w0] at ew0
      have ews : ws0 = zipW e0.2 pls ++ [(1, ds.length + 0)] ++ [] := (Option.some.inj ew0).symm
      refine ⟨_, rfl, cb, _, rfl, .inl ⟨SqL.of ecbJ, fun tc htc => ?_⟩⟩
      have s1 := new (o := .tup (ys ++ ys2)) htc
      refine ⟨_, rfl, pa, _, rfl, .inl ⟨SqL.of (s1 _ _ epaJ), fun tp htp => ?_⟩⟩
      have s12 := new (o := .tup pas) htp
      have s2 := s1.trans s12
      refine ⟨_, rfl, inn, _, 0, _, rfl, rfl, SqL.of (s2 _ _ ein), atI_nat (j := 0) hv0, ?_⟩
      have fin : ∀ (z : Addr) (Hz : Hp), Same HJ Hz → Hz z = some (.tup (pas ++ [V.ref b0])) → PapAt C xs 2 Hz z SS := fun z Hz sz ez =>
        pap_plain (a := z) n1.2 (.inr ez) (Paired.mapP pcJ fun _ _ h => h.hard (Hard.of sz)) (by omega) ⟨b0, t0, us0, rfl, .inr (sz _ _ eb0), sz _ _ et0, Paired.mapP pr0 fun _ _ h => h.same sz⟩ hok hSS.symm hgS ee0 (eok 0 e0 ee0) pll ews
      refine ⟨tp, a0, pas, [V.ref b0], rfl, rfl, SqT.of upd_same, SqT.of (s2 _ _ ea0), Nat.le_of_lt (line _ (by show pas.length + 1 ≤ 100000; omega)), fun h0 => ?_, fun _ h => absurd h (by simp), fun _ _ pz hpz => ?_⟩
      · refine ⟨(by show 2 ≤ sizeLine; exact Nat.le_of_lt (line 2 (by decide))), fun r hr1 => ?_⟩
        have sR := new (o := .tup [.ref tc, .ref a0]) hr1
        have sF := (s2).trans sR
        refine k r tc a0 (ys ++ ys2) SS _ (FJ.trans (But.of sF)) (dJ.same sF) upd_same ((s12.trans sR) _ _ (upd_same (a := tc) (o := .tup (ys ++ ys2)))) (smJ.hard (Hard.of sF)) (by rw [lcb, lSS]; omega) hgS ?_ nm
        exact fin a0 _ sF (by rw [show pas ++ [V.ref b0] = [V.ref b0] by rw [h0]; rfl]; exact sF _ _ ea0)
      · have s3 := s2.trans (new (o := .tup (pas ++ [V.ref b0])) hpz)
        refine ⟨(by show 2 ≤ sizeLine; exact Nat.le_of_lt (line 2 (by decide))), fun r hr1 => ?_⟩
        have sR := new (o := .tup [.ref tc, .ref pz]) hr1
        have sF := (s3).trans sR
        refine k r tc pz (ys ++ ys2) SS _ (FJ.trans (But.of sF)) (dJ.same sF) upd_same (((s12.trans (new (o := .tup (pas ++ [V.ref b0])) hpz)).trans sR) _ _ (upd_same (a := tc) (o := .tup (ys ++ ys2)))) (smJ.hard (Hard.of sF)) (by rw [lcb, lSS]; omega) hgS ?_ nm
        exact fin pz _ sF (sR _ _ upd_same)
    · subst hB
      refine ⟨_, rfl, _, rfl, ifT rfl ?_⟩
      obtain ⟨e0, ee0⟩ : ∃ e, Es[0]? = some e := ⟨Es[0], List.getElem?_eq_getElem (by omega)⟩
      obtain ⟨e1, ee1⟩ : ∃ e, Es[1]? = some e := ⟨Es[1], List.getElem?_eq_getElem (by omega)⟩
      have w0 := hiw 0 e0 (by omega) ee0
      have w1 := hiw 1 e1 (by omega) ee1
      obtain ⟨v0, hv0⟩ : ∃ v, ivs[0]? = some v := ⟨ivs[0], List.getElem?_eq_getElem (by omega)⟩
      obtain ⟨v1, hv1⟩ : ∃ v, ivs[1]? = some v := ⟨ivs[1], List.getElem?_eq_getElem (by omega)⟩
      obtain ⟨ws0, ew0, in0⟩ := paired_at pin hv0
      obtain ⟨ws1, ew1, in1⟩ := paired_at pin hv1
      rw [w0] at ew0
      rw [w1] at ew1
      obtain ⟨a0, ev0⟩ : ∃ a, v0 = V.ref a := let ⟨a, _, _, _, e, _⟩ := in0; ⟨a, e⟩
      obtain ⟨a1, ev1⟩ : ∃ a, v1 = V.ref a := let ⟨a, _, _, _, e, _⟩ := in1; ⟨a, e⟩
      subst ev0
      subst ev1
      refine ⟨_, rfl, cb, _, rfl, .inl ⟨SqL.of ecbJ, fun tc htc => ?_⟩⟩
      have s1 := new (o := .tup (ys ++ ys2)) htc
      refine ⟨_, rfl, pa, _, rfl, .inl ⟨SqL.of (s1 _ _ epaJ), fun tp htp => ?_⟩⟩
      have s12 := new (o := .tup pas) htp
      have s2 := s1.trans s12
      refine ⟨_, rfl, _, rfl, inn, _, 0, _, rfl, rfl, SqL.of (s2 _ _ ein), atI_nat (j := 0) hv0, _, rfl, inn, _, 1, _, rfl, rfl, SqL.of (s2 _ _ ein), atI_nat (j := 1) hv1, (by show 4 ≤ sizeLine; exact Nat.le_of_lt (line 4 (by decide))), fun ts hts => ⟨(Nat.le_of_lt (line 1 (by decide))), fun tz htz => ?_⟩⟩
      have s23 := (new (o := .tup [.str "split", .ref pq, .ref a0, .ref a1]) hts).trans (new (o := .tup [V.ref ts]) htz)
      have s3 := s2.trans s23
      have ets := new (o := .tup [V.ref ts]) htz _ _ (upd_same (a := ts) (o := .tup [.str "split", .ref pq, .ref a0, .ref a1]))
      have etp3 := s23 _ _ (upd_same (a := tp) (o := .tup pas))
      have etz : (upd (upd (upd (upd HJ tc (.tup (ys ++ ys2))) tp (.tup pas)) ts (.tup [.str "split", .ref pq, .ref a0, .ref a1])) tz (.tup [V.ref ts])) tz = some (.tup [V.ref ts]) := upd_same
      have etc3 := (s12.trans s23) _ _ (upd_same (a := tc) (o := .tup (ys ++ ys2)))
      generalize upd (upd (upd (upd HJ tc (.tup (ys ++ ys2))) tp (.tup pas)) ts (.tup [.str "split", .ref pq, .ref a0, .ref a1])) tz (.tup [V.ref ts]) = HQ at s3 ets etp3 etz etc3 ⊢
      have fin : ∀ (z : Addr) (Hz : Hp), Same HQ Hz → Hz z = some (.tup (pas ++ [V.ref ts])) → PapAt C xs 2 Hz z SS := fun z Hz sq ez =>
        have sz := s3.trans sq
        pap_split (m := xq.1) (m1 := m1) n1.2 (.inr ez) (Paired.mapP pcJ fun _ _ h => h.hard (Hard.of sz)) (by omega) (sq _ _ ets) (SpJ.same sz) gpq (in0.hard (Hard.of sz)) (in1.hard (Hard.of sz)) hok hSS.symm hgS ee0 (eok 0 e0 ee0) ee1 (eok 1 e1 ee1) hm1 pll (Option.some.inj ew0).symm (Option.some.inj ew1).symm
      refine ⟨tp, tz, pas, [V.ref ts], rfl, rfl, SqT.of etp3, SqT.of etz, Nat.le_of_lt (line _ (by show pas.length + 1 ≤ 100000; omega)), fun h0 => ?_, fun _ h => absurd h (by simp), fun _ _ pz hpz => ?_⟩
      · refine ⟨(by show 2 ≤ sizeLine; exact Nat.le_of_lt (line 2 (by decide))), fun r hr1 => ?_⟩
        have sR := new (o := .tup [.ref tc, .ref tz]) hr1
        have sF := s3.trans sR
        exact k r tc tz (ys ++ ys2) SS _ (FJ.trans (But.of sF)) (dJ.same sF) upd_same (sR _ _ etc3) (smJ.hard (Hard.of sF)) (by rw [lcb, lSS]; omega) hgS (fin tz _ sR (by rw [show pas ++ [V.ref ts] = [V.ref ts] by rw [h0]; rfl]; exact sR _ _ etz)) nm
      · have s4 := new (o := .tup (pas ++ [V.ref ts])) hpz
        refine ⟨(by show 2 ≤ sizeLine; exact Nat.le_of_lt (line 2 (by decide))), fun r hr1 => ?_⟩
        have sR := new (o := .tup [.ref tc, .ref pz]) hr1
        have sF := (s3.trans s4).trans sR
        exact k r tc pz (ys ++ ys2) SS _ (FJ.trans (But.of sF)) (dJ.same sF) upd_same ((s4.trans sR) _ _ etc3) (smJ.hard (Hard.of sF)) (by rw [lcb, lSS]; omega) hgS (fin pz _ (s4.trans sR) (sR _ _ upd_same)) nm
end
end Hw
namespace Hw
open PySem L2 PyProof.Rows
section
variable {P : Program} {w : World} {K : PySem.W.Frag} {mg : Str → Option Value} {base : Heap}
abbrev slaw : Stmt := top 38
theorem sc_law : FnScope ["_law_script", "_law_draw", "_law_things", "_law_built_here", "_law_k", "_law_case", "_law_paper", "_law_handed"] ["_law_script"] (defScope slaw) := ⟨rfl, rfl, rfl, by decide +kernel, rfl, by decide +kernel, by decide +kernel⟩
theorem ok_law {f C : Addr} {fd : FuncData} {n : Nat} (F : Fun K "law" "law" slaw f fd) (T : Txt K mg C) (J : TxP K mg) (d_l_cell_at : Dn P w K mg base 2 "_law_cell_at" ["_law_script", "_law_k"] (spCell K)) (d_l_next : Dn P w K mg base 2 "_law_next" ["_law_draw", "_law_size"] spNext) (d_l_built : Dn P w K mg base 8 "_law_built" ["_law_draw", "_law_things"] (spLBuilt C)) (d_refutes : Dn P w K mg base 36 "refutes" ["case", "paper"] (spRefutes C)) (d_l_listed : Dn P w K mg base 1 "_law_listed" ["_law_paper"] (spLListed C)) (d_l_lines_right : Dn P w K mg base 5 "_law_lines_right" ["_law_case", "_law_paper"] (spLLines C)) (d_l_met : Dn P w K mg base 2 "_law_met" ["_law_case", "_law_things", "_law_most"] (spLMet C)) : FnOk P w K mg base CX0 40 f fd ["_law_script"] (spLaw K) := by
  obtain ⟨f_l_cell_at, fd_l_cell_at, G_l_cell_at, mg_l_cell_at, kp_l_cell_at, b_l_cell_at⟩ := d_l_cell_at
  obtain ⟨f_l_next, fd_l_next, G_l_next, mg_l_next, kp_l_next, b_l_next⟩ := d_l_next
  obtain ⟨f_l_built, fd_l_built, G_l_built, mg_l_built, kp_l_built, b_l_built⟩ := d_l_built
  obtain ⟨f_refutes, fd_refutes, G_refutes, mg_refutes, kp_refutes, b_refutes⟩ := d_refutes
  obtain ⟨f_l_listed, fd_l_listed, G_l_listed, mg_l_listed, kp_l_listed, b_l_listed⟩ := d_l_listed
  obtain ⟨f_l_lines_right, fd_l_lines_right, G_l_lines_right, mg_l_lines_right, kp_l_lines_right, b_l_lines_right⟩ := d_l_lines_right
  obtain ⟨f_l_met, fd_l_met, G_l_met, mg_l_met, kp_l_met, b_l_met⟩ := d_l_met
  refine F.ok sc_law (fun vs H Q E h => ?_) (fun cdv A outer s H vs Q E hr h => ?_)
  · obtain ⟨a, ns, rfl, hs, hn, k⟩ := h
    rfl
  · obtain ⟨a, ns, rfl, hs, hn, k⟩ := h
    have hu := hu_of hr
    rw [show defBody slaw = [_, _, _, _, _] from rfl]
    refine ⟨_, (pss_cons (ps_set (i := 1) sc_law.nd rfl (Or.inl rfl) (pe_lst (pa_cons (pe_call G_l_cell_at (hr.mono (by first | decide | omega)) rfl mg_l_cell_at kp_l_cell_at b_l_cell_at .nil pass0 (pa_cons (pv 0) (pa_cons pe_int pa_nil))) (pa_cons pe_int pa_nil))))
      (pss_cons (ps_set (i := 2) sc_law.nd rfl (Or.inr rfl) (pe_slice sl_list (pe_lst (pa_strs (xs := ["?0", "?1", "?2"]) rfl)) po_none (po_some (pe_op op_add pe_int (pe_call G_l_next (hr.mono (by first | decide | omega)) rfl mg_l_next kp_l_next b_l_next .nil pass0 (pa_cons (pv 1) (pa_cons pe_int pa_nil)))))))
      (pss_cons (ps_setC (i := 3) sc_law.nd rfl (Or.inl rfl) (compSc_mk ["_law_k"] ["_law_things", "_law_script"] [2, 0] rfl (by decide +kernel) (by decide +kernel) (by with_unfolding_all rfl) (by exact ⟨rfl, rfl, trivial⟩) (by rfl) rfl (by rfl)) rfl (pi_range1 rfl T.range (pa_cons pe_int pa_nil)) (fun _ _ _ _ => (pg_name (i := 0) (show List.Nodup (["_law_k", "_law_things", "_law_script"] : List Str) by decide +kernel) rfl (Or.inl rfl) (Or.inr rfl))) (fun _ _ _ _ => pts_nil) (fun _ _ _ _ => (pe_call G_l_built (hr.mono (by first | decide | omega)) rfl mg_l_built kp_l_built b_l_built .nil pass0 (pa_cons (pe_lst (pa_cons (pe_call G_l_cell_at (hr.mono (by first | decide | omega)) rfl mg_l_cell_at kp_l_cell_at b_l_cell_at .nil pass0 (pa_cons (pv 2) (pa_cons (pe_op op_add pe_int (pv 0)) pa_nil))) (pa_cons pe_int pa_nil))) (pa_cons (pv 1) pa_nil)))))
      (pss_cons (ps_for PassesOwn.never rfl (pi_list (pe_lst (pa_cons pe_int (pa_cons pe_int (pa_cons pe_int pa_nil))))) (pg_name (i := 4) sc_law.nd rfl (Or.inl rfl)) (pss_cons (ps_asg (pe_ix ix_list (pv 3) (pv 4) (fun _ _ => rfl)) (pg_tup rfl (pgs_cons (pg_name (i := 5) sc_law.nd rfl (Or.inl rfl)) (pgs_cons (pg_name (i := 6) sc_law.nd rfl (Or.inl rfl)) pgs_nil))))
      (pss_cons (ps_set (i := 7) sc_law.nd rfl (Or.inl rfl) (pe_callTy call_list_of (by rfl) T.list boot_list (pa_cons (pv 5) pa_nil)))
      (pss_cons (ps_if (PW.pt (pw_or (pt_cmpR op_notT (pe_call G_refutes (hr.mono (by first | decide | omega)) rfl mg_refutes kp_refutes b_refutes .nil pass0 (pa_cons (pv 5) (pa_cons (pv 6) pa_nil))) pe_bl (nomark _)) (pw_or1 (pt_cmpR op_notT (pe_call G_refutes (hr.mono (by first | decide | omega)) rfl mg_refutes kp_refutes b_refutes .nil pass0 (pa_cons (pv 7) (pa_cons (pe_call G_l_listed (hr.mono (by first | decide | omega)) rfl mg_l_listed kp_l_listed b_l_listed .nil pass0 (pa_cons (pv 6) pa_nil)) pa_nil))) pe_bl (nomark _))))) (pss_one (ps_ret pe_bl)) pss_nil)
      (pss_cons (ps_if (PW.pt (pw_or (pt_cmpR op_notT (pe_call G_refutes (hr.mono (by first | decide | omega)) rfl mg_refutes kp_refutes b_refutes .nil pass0 (pa_cons (pv 7) (pa_cons (pv 6) pa_nil))) pe_bl (nomark _)) (pw_or1 (pt_cmpR (op_neS (uL (n := 0) hr)) (pv 7) (pe_callTy call_list_of (by rfl) T.list boot_list (pa_cons (pv 5) pa_nil)) (nomark _))))) (pss_one (ps_ret pe_bl)) pss_nil)
      (pss_one (ps_if (PW.pt (pw_or (pt_not (pt_val (pe_call G_l_lines_right (hr.mono (by first | decide | omega)) rfl mg_l_lines_right kp_l_lines_right b_l_lines_right .nil pass0 (pa_cons (pv 5) (pa_cons (pv 6) pa_nil))))) (pw_or1 (pt_val (pe_call G_l_met (hr.mono (by first | decide | omega)) rfl mg_l_met kp_l_met b_l_met .nil pass0 (pa_cons (pv 5) (pa_cons (pv 2) (pa_cons pe_int pa_nil)))))))) (pss_one (ps_ret pe_bl)) pss_nil)))))))
      (pss_one (ps_ret pe_bl)))))), ?_⟩
    refine ⟨_, rfl, a, ns, 0, rfl, hs, fun r0 => ⟨(by show 2 ≤ sizeLine; exact Nat.le_of_lt (line 2 (by decide))), fun d hd => ?_⟩⟩
    have s0 := new (o := .lst [V.int r0, V.int 0]) hd
    have D0 : Dr (upd H d (.lst [V.int r0, V.int 0])) d := ⟨r0, 0, upd_same⟩
    generalize upd H d (.lst [V.int r0, V.int 0]) = H0 at s0 D0 ⊢
    refine ⟨(by show 3 ≤ sizeLine; exact Nat.le_of_lt (line 3 (by decide))), fun q hq => ⟨_, rfl, d, 3, rfl, D0.same (new hq), (by decide), fun r1 H1 h1 b1 d1 => ⟨_, _, rfl, rfl, _, rfl, ?_⟩⟩⟩
    have nq : q ≠ d := D0.ne hq
    refine ⟨q, _, rfl, SqL.of (b1 _ _ upd_same nq), fun th hth => ?_⟩
    obtain ⟨xs, exs, nd, l3⟩ : ∃ xs : List Str, cutV ([("?0" : Str), "?1", "?2"].map V.str) none (some (1 + (r1 : Int))) = xs.map V.str ∧ xs.Nodup ∧ xs.length ≤ 3 := by
      have : r1 = 0 ∨ r1 = 1 ∨ r1 = 2 := by omega
      rcases this with e | e | e <;> subst e
      · exact ⟨["?0"], rfl, by decide +kernel, by decide⟩
      · exact ⟨["?0", "?1"], rfl, by decide +kernel, by decide⟩
      · exact ⟨["?0", "?1", "?2"], rfl, by decide +kernel, by decide⟩
    have sA : Same H H1 := fun b o z => b1 _ _ (new hq _ _ (s0 _ _ z)) (ne_of_none z hd)
    have sT := new (o := .lst (cutV ([("?0" : Str), "?1", "?2"].map V.str) none (some (1 + (r1 : Int))))) hth
    have eth : (upd H1 th (.lst (cutV ([("?0" : Str), "?1", "?2"].map V.str) none (some (1 + (r1 : Int)))))) th = some (.lst (xs.map V.str)) := by rw [upd_same, exs]
    have hs2 : SqL K (upd H1 th (.lst (cutV ([("?0" : Str), "?1", "?2"].map V.str) none (some (1 + (r1 : Int)))))) a (ns.map V.int) := sqL_same hs (sA.trans sT)
    generalize upd H1 th (.lst (cutV ([("?0" : Str), "?1", "?2"].map V.str) none (some (1 + (r1 : Int))))) = H2 at sT eth hs2 ⊢
    clear hs s0 D0 hq h1 b1 d1 sA hth exs nq sT
    refine ⟨2, rfl, by decide, by decide, comp_range (n := (2 : Int).toNat) (fun j ys H' => Same H2 H' ∧ ys.length = j ∧ ∀ v ∈ ys, BtAt C xs H' v) ⟨Same.refl _, rfl, (fun _ h => nomatch h)⟩ ?_ ?_⟩
    · rintro j ys H3 hj ⟨s3, yl, hb⟩
      have j2 : j < 2 := hj
      refine ⟨Ext.one, alwT ⟨_, rfl, _, rfl, _, _, rfl, rfl, a, ns, j + 1, congrArg (fun z => [V.ref a, V.int z]) (show (1 + (0 + (j : Int))) = ((j + 1 : Nat) : Int) by omega), sqL_same hs2 s3, fun r4 => ⟨(by show 2 ≤ sizeLine; exact Nat.le_of_lt (line 2 (by decide))), fun d4 hd4 => ?_⟩⟩⟩
      have s4 := new (o := .lst [V.int r4, V.int 0]) hd4
      refine ⟨_, rfl, d4, th, xs, rfl, ⟨r4, 0, upd_same⟩, s4 _ _ (s3 _ _ eth), l3, fun r c pp us ss H5 b5 d5 er ec sm ul gs pap nm => ?_⟩
      have s5 : Same H3 H5 := fun b o z => b5 _ _ (s4 _ _ z) (ne_of_none z hd4)
      refine ⟨line _ (by omega), s3.trans s5, (by rw [List.length_append, yl]; rfl), fun v hv => ?_⟩
      rcases List.mem_append.mp hv with z | z
      · exact (hb v z).same s5
      · rw [List.mem_singleton.mp z]
        exact ⟨r, c, pp, us, ss, rfl, er, ec, sm, ul, gs, pap, nm⟩
    rintro ys H3 ⟨s3, yl, hb⟩ bh hbh
    have yl : ys.length = 2 := yl
    have sB := new (o := .lst ys) hbh
    have ebh : (upd H3 bh (.lst ys)) bh = some (.lst ys) := upd_same
    have eth := sB _ _ (s3 _ _ eth)
    have hb : ∀ v ∈ ys, BtAt C xs (upd H3 bh (.lst ys)) v := fun v hv => (hb v hv).same sB
    generalize upd H3 bh (.lst ys) = H4 at sB ebh eth hb ⊢
    refine ⟨(by show 3 ≤ sizeLine; exact Nat.le_of_lt (line 3 (by decide))), fun lq hlq => ⟨lq, rfl, ⟨_, SqL.of upd_same⟩, for_list (xs := [V.int 0, V.int 1, V.int 0]) (fun i σ H' => ∃ o4 o5 o6 o7 : Option V, σ = [some (.ref a), some (.ref d), some (.ref th), some (.ref bh), o4, o5, o6, o7] ∧ Same (upd H4 lq (.lst [V.int 0, V.int 1, V.int 0])) H') ⟨none, none, none, none, rfl, Same.refl _⟩ (fun i σ H' _ ⟨_, _, _, _, _, q⟩ => SqL.of (q _ _ upd_same)) ?_ ?_⟩⟩
    · rintro i v σ H5 hi ⟨o4, o5, o6, o7, rfl, s5⟩
      obtain ⟨m, m2, rfl⟩ : ∃ m : Nat, m < 2 ∧ v = V.int (m : Int) := by
        match i, hi with
        | 0, hi => cases hi; exact ⟨0, by decide, rfl⟩
        | 1, hi => cases hi; exact ⟨1, by decide, rfl⟩
        | 2, hi => cases hi; exact ⟨0, by decide, rfl⟩
      have s45 : Same H4 H5 := (new hlq).trans s5
      have mu : m < ys.length := by omega
      obtain ⟨r, c, pp, us, ss, ev', er, ec, sm, ul, gs, pap, nm⟩ := (hb _ (List.getElem_mem mu)).same s45
      have ey : ys[m]? = some (.ref r) := by rw [List.getElem?_eq_getElem mu, ev']
      refine ⟨_, rfl, _, rfl, bh, _, _, _, rfl, rfl, SqL.of (s45 _ _ ebh), atI_nat ey, r, _, rfl, SqT.of er, rfl, _, _, rfl, _, _, rfl, rfl, ?_⟩
      refine ⟨_, rfl, c, us, rfl, .inr (SqT.of ec), fun hh hhh => ?_⟩
      have sH := new (o := .lst us) hhh
      have ehh : (upd H5 hh (.lst us)) hh = some (.lst us) := upd_same
      have s5h := s5.trans sH
      have ec := sH _ _ ec
      have sm := sm.hard (Hard.of sH)
      have pap := pap.same sH
      have eth5 := sH _ _ (s45 _ _ eth)
      generalize upd H5 hh (.lst us) = H6 at sH ehh s5h ec sm pap eth5 ⊢
      have ul12 : us.length ≤ 12 := by omega
      refine ⟨_, rfl, _, rfl, xs, c, pp, us, ss, rfl, .inr ec, sm, l3, gs, ul12, pap, fun H7 s7 => ⟨true, rfl, rfl, _, rfl, ifF rfl ?_⟩⟩
      refine ⟨_, rfl, _, rfl, xs, pp, ss, rfl, pap.same s7, fun r8 H8 s8 pap8 => ?_⟩
      have s78 := s7.trans s8
      refine ⟨xs, hh, r8, us, ss, rfl, .inl (s78 _ _ ehh), sm.hard (Hard.of s78), l3, gs, ul12, pap8, fun H9 s9 => ⟨true, rfl, rfl, _, rfl, ifF rfl ?_⟩⟩
      have sB9 := s78.trans s9
      refine ⟨_, rfl, _, rfl, xs, hh, pp, us, ss, rfl, .inl (sB9 _ _ ehh), sm.hard (Hard.of sB9), l3, gs, ul12, pap.same sB9, fun Ha sa => ⟨true, rfl, rfl, _, rfl, ifF rfl ?_⟩⟩
      have sBa := sB9.trans sa
      obtain ⟨ps, eps⟩ := sms_refs sm
      refine ⟨_, rfl, _, rfl, c, us, rfl, .inr (SqT.of (sBa _ _ ec)), fun hc hhc => ?_⟩
      have sC := new (o := .lst us) hhc
      have sBc := sBa.trans sC
      refine ⟨hh, hc, ps, rfl, rfl, (by rw [← eps]; exact SqL.of (sBc _ _ ehh)), (by rw [← eps]; exact SqL.of upd_same), _, rfl, ifF rfl ?_⟩
      refine ⟨_, rfl, _, rfl, xs, c, pp, us, ss, rfl, sBc _ _ ec, sm.hard (Hard.of sBc), l3, gs, ul12, pap.same sBc, fun Hd sd => ⟨true, rfl, ifF rfl ?_⟩⟩
      have sBd := sBc.trans sd
      refine ⟨_, rfl, _, rfl, c, th, xs, us, ss, rfl, sBd _ _ ec, sm.hard (Hard.of sBd), ul, gs, sBd _ _ eth5, nd, l3, nm, fun He se => ⟨false, rfl, ifF rfl ?_⟩⟩
      exact ⟨_, _, _, _, rfl, s5h.trans (sBd.trans se)⟩
    · rintro σ H' ⟨o4, o5, o6, o7, rfl, _⟩
      exact k _
end
end Hw
namespace Hw
open PySem L2 PyProof.Rows
theorem zzu1 {A : FuncData} {B : List Str} (us : List Value) (hl : us.length = 1) (k : ∀ a, bindArgs A ⟨[a], []⟩ = pure (B.zip [a])) : bindArgs A ⟨us, []⟩ = pure (B.zip us) := match us, hl with | [a], _ => k a
theorem zzu2 {A : FuncData} {B : List Str} (us : List Value) (hl : us.length = 2) (k : ∀ a b, bindArgs A ⟨[a, b], []⟩ = pure (B.zip [a, b])) : bindArgs A ⟨us, []⟩ = pure (B.zip us) := match us, hl with | [a, b], _ => k a b
theorem zzu3 {A : FuncData} {B : List Str} (us : List Value) (hl : us.length = 3) (k : ∀ a b c, bindArgs A ⟨[a, b, c], []⟩ = pure (B.zip [a, b, c])) : bindArgs A ⟨us, []⟩ = pure (B.zip us) := match us, hl with | [a, b, c], _ => k a b c
theorem ew0 (C : Addr) : ∀ vs H Q E, ¬ spEW C 0 vs H Q E := fun _ _ _ _ h => by
  obtain ⟨_, _, _, _, _, _, _, _, _, _, _, _, _, _, _, _, z, _⟩ := h
  exact z
theorem all_mk {l : PySem.W.OpenLaw} {w : World} {K : PySem.W.Frag} {h : Heap} {mg : Str → Option Value} {fa Cs f1 f2 f3 f4 f5 f6 f7 f8 f9 f10 f11 f12 f13 f14 f15 f16 f17 f18 f19 f20 f21 f22 f23 f24 f25 f26 f27 f28 f29 f30 f31 f32 f33 f34 f35 f36 f37 : Addr} {tM : Tok} (X : K.In h) (G : h.Ns mainGlobals mg) (hfa : mg "law" = some (.ref fa))
    {od1 an1 od2 an2 od3 an3 od4 an4 od5 an5 od6 an6 od7 an7 od8 an8 od9 an9 od10 an10 od11 an11 od12 an12 od13 an13 od14 an14 od15 an15 od16 an16 od17 an17 od18 an18 od19 an19 od20 an20 od21 an21 od22 an22 od23 an23 od24 an24 od25 an25 od26 an26 od27 an27 od28 an28 od29 an29 od30 an30 od31 an31 od32 an32 od33 an33 od34 an34 od35 an35 od36 an36 od37 an37 : Option Addr} {sl1 sl2 sl3 sl4 sl5 sl6 sl7 sl8 sl9 sl10 sl11 sl12 sl13 sl14 sl15 sl16 sl17 sl18 sl19 sl20 sl21 sl22 sl23 sl24 sl25 sl26 sl27 sl28 sl29 sl30 sl31 sl32 sl33 sl34 sl35 sl36 sl37 : Array (Option Value)} {oc1 kV1 dc1 pm1 cd1 ct1 oc2 kV2 dc2 pm2 cd2 ct2 oc3 kV3 dc3 pm3 cd3 ct3 oc4 kV4 dc4 pm4 cd4 ct4 oc5 kV5 dc5 pm5 cd5 ct5 oc6 kV6 dc6 pm6 cd6 ct6 oc7 kV7 dc7 pm7 cd7 ct7 oc8 kV8 dc8 pm8 cd8 ct8 oc9 kV9 dc9 pm9 cd9 ct9 oc10 kV10 dc10 pm10 cd10 ct10 oc11 kV11 dc11 pm11 cd11 ct11 oc12 kV12 dc12 pm12 cd12 ct12 oc13 kV13 dc13 pm13 cd13 ct13 oc14 kV14 dc14 pm14 cd14 ct14 oc15 kV15 dc15 pm15 cd15 ct15 oc16 kV16 dc16 pm16 cd16 ct16 oc17 kV17 dc17 pm17 cd17 ct17 oc18 kV18 dc18 pm18 cd18 ct18 oc19 kV19 dc19 pm19 cd19 ct19 oc20 kV20 dc20 pm20 cd20 ct20 oc21 kV21 dc21 pm21 cd21 ct21 oc22 kV22 dc22 pm22 cd22 ct22 oc23 kV23 dc23 pm23 cd23 ct23 oc24 kV24 dc24 pm24 cd24 ct24 oc25 kV25 dc25 pm25 cd25 ct25 oc26 kV26 dc26 pm26 cd26 ct26 oc27 kV27 dc27 pm27 cd27 ct27 oc28 kV28 dc28 pm28 cd28 ct28 oc29 kV29 dc29 pm29 cd29 ct29 oc30 kV30 dc30 pm30 cd30 ct30 oc31 kV31 dc31 pm31 cd31 ct31 oc32 kV32 dc32 pm32 cd32 ct32 oc33 kV33 dc33 pm33 cd33 ct33 oc34 kV34 dc34 pm34 cd34 ct34 oc35 kV35 dc35 pm35 cd35 ct35 oc36 kV36 dc36 pm36 cd36 ct36 oc37 kV37 dc37 pm37 cd37 ct37 : Value}
    (g_Cs : PySem.W.nsIn K mainGlobals "Sum" = some (some (.ref Cs))) (pg_Cs : PySem.W.plainGet K Cs Str.empty = true) (hd_Cs : PySem.W.hasDictIn K Cs = true) (po_Cs : PySem.W.plainOver K Cs = true) (sa_Cs : PySem.W.findIn K (.ref Cs) "__setattr__" = some (some (.builtin "object.__setattr__"))) (mk_Cs : PySem.W.makesIn K Cs = true) (kc_Cs : PySem.W.keepIn K (.ref Cs) = true)
    (a1 : PySem.W.findIn K (.ref Cs) "__init__" = some (some (.ref f1))) (i1 : PySem.W.isFn K (.ref f1) = true)
    (l1 : K.lookup f1 = some ⟨oc1, od1, .func (PySem.W.fnOf "__init__" "Sum.__init__" (defArgs sInit) (defBody sInit) (defScope sInit) .none kV1 dc1 pm1 an1 cd1 ct1), sl1⟩) (c1 : PySem.W.codeIn K cd1 "Sum.__init__" = true) (k1 : PySem.W.keepIn K (.ref f1) = true)
    (a2 : PySem.W.findIn K (.ref Cs) "plus" = some (some (.ref f2))) (i2 : PySem.W.isFn K (.ref f2) = true)
    (l2 : K.lookup f2 = some ⟨oc2, od2, .func (PySem.W.fnOf "plus" "Sum.plus" (defArgs sPlus) (defBody sPlus) (defScope sPlus) .none kV2 dc2 pm2 an2 cd2 ct2), sl2⟩) (c2 : PySem.W.codeIn K cd2 "Sum.plus" = true) (k2 : PySem.W.keepIn K (.ref f2) = true)
    (a3 : PySem.W.findIn K (.ref Cs) "less" = some (some (.ref f3))) (i3 : PySem.W.isFn K (.ref f3) = true)
    (l3 : K.lookup f3 = some ⟨oc3, od3, .func (PySem.W.fnOf "less" "Sum.less" (defArgs sLess) (defBody sLess) (defScope sLess) .none kV3 dc3 pm3 an3 cd3 ct3), sl3⟩) (c3 : PySem.W.codeIn K cd3 "Sum.less" = true) (k3 : PySem.W.keepIn K (.ref f3) = true)
    (a4 : PySem.W.findIn K (.ref Cs) "times" = some (some (.ref f4))) (i4 : PySem.W.isFn K (.ref f4) = true)
    (l4 : K.lookup f4 = some ⟨oc4, od4, .func (PySem.W.fnOf "times" "Sum.times" (defArgs sTimes) (defBody sTimes) (defScope sTimes) .none kV4 dc4 pm4 an4 cd4 ct4), sl4⟩) (c4 : PySem.W.codeIn K cd4 "Sum.times" = true) (k4 : PySem.W.keepIn K (.ref f4) = true)
    (a5 : PySem.W.nsIn K mainGlobals "sum_of" = some (some (.ref f5)))
    (l5 : K.lookup f5 = some ⟨oc5, od5, .func (PySem.W.fnOf "sum_of" "sum_of" (defArgs sSumOf) (defBody sSumOf) (defScope sSumOf) .none kV5 dc5 pm5 an5 cd5 ct5), sl5⟩) (c5 : PySem.W.codeIn K cd5 "sum_of" = true) (k5 : PySem.W.keepIn K (.ref f5) = true)
    (a6 : PySem.W.nsIn K mainGlobals "_law_mixed" = some (some (.ref f6)))
    (l6 : K.lookup f6 = some ⟨oc6, od6, .func (PySem.W.fnOf "_law_mixed" "_law_mixed" (defArgs sMixed) (defBody sMixed) (defScope sMixed) .none kV6 dc6 pm6 an6 cd6 ct6), sl6⟩) (c6 : PySem.W.codeIn K cd6 "_law_mixed" = true) (k6 : PySem.W.keepIn K (.ref f6) = true)
    (a7 : PySem.W.nsIn K mainGlobals "_law_cell_at" = some (some (.ref f7)))
    (l7 : K.lookup f7 = some ⟨oc7, od7, .func (PySem.W.fnOf "_law_cell_at" "_law_cell_at" (defArgs sCellAt) (defBody sCellAt) (defScope sCellAt) .none kV7 dc7 pm7 an7 cd7 ct7), sl7⟩) (c7 : PySem.W.codeIn K cd7 "_law_cell_at" = true) (k7 : PySem.W.keepIn K (.ref f7) = true)
    (a8 : PySem.W.nsIn K mainGlobals "_law_next" = some (some (.ref f8)))
    (l8 : K.lookup f8 = some ⟨oc8, od8, .func (PySem.W.fnOf "_law_next" "_law_next" (defArgs sNext) (defBody sNext) (defScope sNext) .none kV8 dc8 pm8 an8 cd8 ct8), sl8⟩) (c8 : PySem.W.codeIn K cd8 "_law_next" = true) (k8 : PySem.W.keepIn K (.ref f8) = true)
    (a9 : PySem.W.nsIn K mainGlobals "is_several" = some (some (.ref f9)))
    (l9 : K.lookup f9 = some ⟨oc9, od9, .func (PySem.W.fnOf "is_several" "is_several" (defArgs sis_several) (defBody sis_several) (defScope sis_several) .none kV9 dc9 pm9 an9 cd9 ct9), sl9⟩) (c9 : PySem.W.codeIn K cd9 "is_several" = true) (k9 : PySem.W.keepIn K (.ref f9) = true)
    (a10 : PySem.W.nsIn K mainGlobals "is_number" = some (some (.ref f10)))
    (l10 : K.lookup f10 = some ⟨oc10, od10, .func (PySem.W.fnOf "is_number" "is_number" (defArgs sis_number) (defBody sis_number) (defScope sis_number) .none kV10 dc10 pm10 an10 cd10 ct10), sl10⟩) (c10 : PySem.W.codeIn K cd10 "is_number" = true) (k10 : PySem.W.keepIn K (.ref f10) = true)
    (a11 : PySem.W.nsIn K mainGlobals "is_from_one" = some (some (.ref f11)))
    (l11 : K.lookup f11 = some ⟨oc11, od11, .func (PySem.W.fnOf "is_from_one" "is_from_one" (defArgs sis_from_one) (defBody sis_from_one) (defScope sis_from_one) .none kV11 dc11 pm11 an11 cd11 ct11), sl11⟩) (c11 : PySem.W.codeIn K cd11 "is_from_one" = true) (k11 : PySem.W.keepIn K (.ref f11) = true)
    (a12 : PySem.W.nsIn K mainGlobals "is_ahead" = some (some (.ref f12)))
    (l12 : K.lookup f12 = some ⟨oc12, od12, .func (PySem.W.fnOf "is_ahead" "is_ahead" (defArgs sis_ahead) (defBody sis_ahead) (defScope sis_ahead) .none kV12 dc12 pm12 an12 cd12 ct12), sl12⟩) (c12 : PySem.W.codeIn K cd12 "is_ahead" = true) (k12 : PySem.W.keepIn K (.ref f12) = true)
    (a13 : PySem.W.nsIn K mainGlobals "is_weighed" = some (some (.ref f13)))
    (l13 : K.lookup f13 = some ⟨oc13, od13, .func (PySem.W.fnOf "is_weighed" "is_weighed" (defArgs sis_weighed) (defBody sis_weighed) (defScope sis_weighed) .none kV13 dc13 pm13 an13 cd13 ct13), sl13⟩) (c13 : PySem.W.codeIn K cd13 "is_weighed" = true) (k13 : PySem.W.keepIn K (.ref f13) = true)
    (a14 : PySem.W.nsIn K mainGlobals "can_be_divided" = some (some (.ref f14)))
    (l14 : K.lookup f14 = some ⟨oc14, od14, .func (PySem.W.fnOf "can_be_divided" "can_be_divided" (defArgs scan_be_divided) (defBody scan_be_divided) (defScope scan_be_divided) .none kV14 dc14 pm14 an14 cd14 ct14), sl14⟩) (c14 : PySem.W.codeIn K cd14 "can_be_divided" = true) (k14 : PySem.W.keepIn K (.ref f14) = true)
    (a15 : PySem.W.nsIn K mainGlobals "is_term" = some (some (.ref f15)))
    (l15 : K.lookup f15 = some ⟨oc15, od15, .func (PySem.W.fnOf "is_term" "is_term" (defArgs sis_term) (defBody sis_term) (defScope sis_term) .none kV15 dc15 pm15 an15 cd15 ct15), sl15⟩) (c15 : PySem.W.codeIn K cd15 "is_term" = true) (k15 : PySem.W.keepIn K (.ref f15) = true)
    (a16 : PySem.W.nsIn K mainGlobals "is_sum" = some (some (.ref f16)))
    (l16 : K.lookup f16 = some ⟨oc16, od16, .func (PySem.W.fnOf "is_sum" "is_sum" (defArgs sis_sum) (defBody sis_sum) (defScope sis_sum) .none kV16 dc16 pm16 an16 cd16 ct16), sl16⟩) (c16 : PySem.W.codeIn K cd16 "is_sum" = true) (k16 : PySem.W.keepIn K (.ref f16) = true)
    (a17 : PySem.W.nsIn K mainGlobals "is_never" = some (some (.ref f17)))
    (l17 : K.lookup f17 = some ⟨oc17, od17, .func (PySem.W.fnOf "is_never" "is_never" (defArgs sis_never) (defBody sis_never) (defScope sis_never) .none kV17 dc17 pm17 an17 cd17 ct17), sl17⟩) (c17 : PySem.W.codeIn K cd17 "is_never" = true) (k17 : PySem.W.keepIn K (.ref f17) = true)
    (a18 : PySem.W.nsIn K mainGlobals "is_split" = some (some (.ref f18)))
    (l18 : K.lookup f18 = some ⟨oc18, od18, .func (PySem.W.fnOf "is_split" "is_split" (defArgs sis_split) (defBody sis_split) (defScope sis_split) .none kV18 dc18 pm18 an18 cd18 ct18), sl18⟩) (c18 : PySem.W.codeIn K cd18 "is_split" = true) (k18 : PySem.W.keepIn K (.ref f18) = true)
    (a19 : PySem.W.nsIn K mainGlobals "is_right" = some (some (.ref f19)))
    (l19 : K.lookup f19 = some ⟨oc19, od19, .func (PySem.W.fnOf "is_right" "is_right" (defArgs sis_right) (defBody sis_right) (defScope sis_right) .none kV19 dc19 pm19 an19 cd19 ct19), sl19⟩) (c19 : PySem.W.codeIn K cd19 "is_right" = true) (k19 : PySem.W.keepIn K (.ref f19) = true)
    (a20 : PySem.W.nsIn K mainGlobals "turned_terms" = some (some (.ref f20)))
    (l20 : K.lookup f20 = some ⟨oc20, od20, .func (PySem.W.fnOf "turned_terms" "turned_terms" (defArgs sturned_terms) (defBody sturned_terms) (defScope sturned_terms) .none kV20 dc20 pm20 an20 cd20 ct20), sl20⟩) (c20 : PySem.W.codeIn K cd20 "turned_terms" = true) (k20 : PySem.W.keepIn K (.ref f20) = true)
    (a21 : PySem.W.nsIn K mainGlobals "other_side" = some (some (.ref f21)))
    (l21 : K.lookup f21 = some ⟨oc21, od21, .func (PySem.W.fnOf "other_side" "other_side" (defArgs sother_side) (defBody sother_side) (defScope sother_side) .none kV21 dc21 pm21 an21 cd21 ct21), sl21⟩) (c21 : PySem.W.codeIn K cd21 "other_side" = true) (k21 : PySem.W.keepIn K (.ref f21) = true)
    (a22 : PySem.W.nsIn K mainGlobals "divided" = some (some (.ref f22)))
    (l22 : K.lookup f22 = some ⟨oc22, od22, .func (PySem.W.fnOf "divided" "divided" (defArgs sdivided) (defBody sdivided) (defScope sdivided) .none kV22 dc22 pm22 an22 cd22 ct22), sl22⟩) (c22 : PySem.W.codeIn K cd22 "divided" = true) (k22 : PySem.W.keepIn K (.ref f22) = true)
    (a23 : PySem.W.nsIn K mainGlobals "line_of" = some (some (.ref f23)))
    (l23 : K.lookup f23 = some ⟨oc23, od23, .func (PySem.W.fnOf "line_of" "line_of" (defArgs sline_of) (defBody sline_of) (defScope sline_of) .none kV23 dc23 pm23 an23 cd23 ct23), sl23⟩) (c23 : PySem.W.codeIn K cd23 "line_of" = true) (k23 : PySem.W.keepIn K (.ref f23) = true)
    (a24 : PySem.W.nsIn K mainGlobals "both_end_well" = some (some (.ref f24)))
    (l24 : K.lookup f24 = some ⟨oc24, od24, .func (PySem.W.fnOf "both_end_well" "both_end_well" (defArgs sboth_end_well) (defBody sboth_end_well) (defScope sboth_end_well) .none kV24 dc24 pm24 an24 cd24 ct24), sl24⟩) (c24 : PySem.W.codeIn K cd24 "both_end_well" = true) (k24 : PySem.W.keepIn K (.ref f24) = true)
    (a25 : PySem.W.nsIn K mainGlobals "ends_well" = some (some (.ref f25)))
    (l25 : K.lookup f25 = some ⟨oc25, od25, .func (PySem.W.fnOf "ends_well" "ends_well" (defArgs sends_well) (defBody sends_well) (defScope sends_well) .none kV25 dc25 pm25 an25 cd25 ct25), sl25⟩) (c25 : PySem.W.codeIn K cd25 "ends_well" = true) (k25 : PySem.W.keepIn K (.ref f25) = true)
    (a26 : PySem.W.nsIn K mainGlobals "refutes" = some (some (.ref f26)))
    (l26 : K.lookup f26 = some ⟨oc26, od26, .func (PySem.W.fnOf "refutes" "refutes" (defArgs srefutes) (defBody srefutes) (defScope srefutes) .none kV26 dc26 pm26 an26 cd26 ct26), sl26⟩) (c26 : PySem.W.codeIn K cd26 "refutes" = true) (k26 : PySem.W.keepIn K (.ref f26) = true)
    (a27 : PySem.W.nsIn K mainGlobals "_law_sums" = some (some (.ref f27)))
    (l27 : K.lookup f27 = some ⟨oc27, od27, .func (PySem.W.fnOf "_law_sums" "_law_sums" (defArgs sl_sums) (defBody sl_sums) (defScope sl_sums) .none kV27 dc27 pm27 an27 cd27 ct27), sl27⟩) (c27 : PySem.W.codeIn K cd27 "_law_sums" = true) (k27 : PySem.W.keepIn K (.ref f27) = true)
    (a28 : PySem.W.nsIn K mainGlobals "_law_last" = some (some (.ref f28)))
    (l28 : K.lookup f28 = some ⟨oc28, od28, .func (PySem.W.fnOf "_law_last" "_law_last" (defArgs sl_last) (defBody sl_last) (defScope sl_last) .none kV28 dc28 pm28 an28 cd28 ct28), sl28⟩) (c28 : PySem.W.codeIn K cd28 "_law_last" = true) (k28 : PySem.W.keepIn K (.ref f28) = true)
    (a29 : PySem.W.nsIn K mainGlobals "_law_value" = some (some (.ref f29)))
    (l29 : K.lookup f29 = some ⟨oc29, od29, .func (PySem.W.fnOf "_law_value" "_law_value" (defArgs sl_value) (defBody sl_value) (defScope sl_value) .none kV29 dc29 pm29 an29 cd29 ct29), sl29⟩) (c29 : PySem.W.codeIn K cd29 "_law_value" = true) (k29 : PySem.W.keepIn K (.ref f29) = true)
    (a30 : PySem.W.nsIn K mainGlobals "_law_told" = some (some (.ref f30)))
    (l30 : K.lookup f30 = some ⟨oc30, od30, .func (PySem.W.fnOf "_law_told" "_law_told" (defArgs sl_told) (defBody sl_told) (defScope sl_told) .none kV30 dc30 pm30 an30 cd30 ct30), sl30⟩) (c30 : PySem.W.codeIn K cd30 "_law_told" = true) (k30 : PySem.W.keepIn K (.ref f30) = true)
    (a31 : PySem.W.nsIn K mainGlobals "_law_boxes" = some (some (.ref f31)))
    (l31 : K.lookup f31 = some ⟨oc31, od31, .func (PySem.W.fnOf "_law_boxes" "_law_boxes" (defArgs sl_boxes) (defBody sl_boxes) (defScope sl_boxes) .none kV31 dc31 pm31 an31 cd31 ct31), sl31⟩) (c31 : PySem.W.codeIn K cd31 "_law_boxes" = true) (k31 : PySem.W.keepIn K (.ref f31) = true)
    (a32 : PySem.W.nsIn K mainGlobals "_law_met" = some (some (.ref f32)))
    (l32 : K.lookup f32 = some ⟨oc32, od32, .func (PySem.W.fnOf "_law_met" "_law_met" (defArgs sl_met) (defBody sl_met) (defScope sl_met) .none kV32 dc32 pm32 an32 cd32 ct32), sl32⟩) (c32 : PySem.W.codeIn K cd32 "_law_met" = true) (k32 : PySem.W.keepIn K (.ref f32) = true)
    (a33 : PySem.W.nsIn K mainGlobals "_law_listed" = some (some (.ref f33)))
    (l33 : K.lookup f33 = some ⟨oc33, od33, .func (PySem.W.fnOf "_law_listed" "_law_listed" (defArgs sl_listed) (defBody sl_listed) (defScope sl_listed) .none kV33 dc33 pm33 an33 cd33 ct33), sl33⟩) (c33 : PySem.W.codeIn K cd33 "_law_listed" = true) (k33 : PySem.W.keepIn K (.ref f33) = true)
    (a34 : PySem.W.nsIn K mainGlobals "_law_added" = some (some (.ref f34)))
    (l34 : K.lookup f34 = some ⟨oc34, od34, .func (PySem.W.fnOf "_law_added" "_law_added" (defArgs sl_added) (defBody sl_added) (defScope sl_added) .none kV34 dc34 pm34 an34 cd34 ct34), sl34⟩) (c34 : PySem.W.codeIn K cd34 "_law_added" = true) (k34 : PySem.W.keepIn K (.ref f34) = true)
    (a35 : PySem.W.nsIn K mainGlobals "_law_lines_right" = some (some (.ref f35)))
    (l35 : K.lookup f35 = some ⟨oc35, od35, .func (PySem.W.fnOf "_law_lines_right" "_law_lines_right" (defArgs sl_lines_right) (defBody sl_lines_right) (defScope sl_lines_right) .none kV35 dc35 pm35 an35 cd35 ct35), sl35⟩) (c35 : PySem.W.codeIn K cd35 "_law_lines_right" = true) (k35 : PySem.W.keepIn K (.ref f35) = true)
    (a36 : PySem.W.nsIn K mainGlobals "_law_built" = some (some (.ref f36)))
    (l36 : K.lookup f36 = some ⟨oc36, od36, .func (PySem.W.fnOf "_law_built" "_law_built" (defArgs sl_built) (defBody sl_built) (defScope sl_built) .none kV36 dc36 pm36 an36 cd36 ct36), sl36⟩) (c36 : PySem.W.codeIn K cd36 "_law_built" = true) (k36 : PySem.W.keepIn K (.ref f36) = true)
    (a37 : PySem.W.nsIn K mainGlobals "law" = some (some (.ref f37)))
    (l37 : K.lookup f37 = some ⟨oc37, od37, .func (PySem.W.fnOf "law" "law" (defArgs slaw) (defBody slaw) (defScope slaw) .none kV37 dc37 pm37 an37 cd37 ct37), sl37⟩) (c37 : PySem.W.codeIn K cd37 "law" = true) (k37 : PySem.W.keepIn K (.ref f37) = true)
    (n_Cs_terms : PySem.W.findIn K (.ref Cs) "terms" = some none)
    (n_Cs_number : PySem.W.findIn K (.ref Cs) "number" = some none)
    (z_len : PySem.W.nsIn K mainGlobals "len" = some none)
    (z_sum : PySem.W.nsIn K mainGlobals "sum" = some none)
    (z_sorted : PySem.W.nsIn K mainGlobals "sorted" = some none)
    (z_list : PySem.W.nsIn K mainGlobals "list" = some none)
    (z_tuple : PySem.W.nsIn K mainGlobals "tuple" = some none)
    (z_isinstance : PySem.W.nsIn K mainGlobals "isinstance" = some none)
    (z_range : PySem.W.nsIn K mainGlobals "range" = some none)
    (z_abs : PySem.W.nsIn K mainGlobals "abs" = some none)
    (z_str : PySem.W.nsIn K mainGlobals "str" = some none)
    (z_int : PySem.W.nsIn K mainGlobals "int" = some none)
    (z_dict : PySem.W.nsIn K mainGlobals "dict" = some none)
    (z_all : PySem.W.nsIn K mainGlobals "all" = some none)
    (z_set : PySem.W.nsIn K mainGlobals "set" = some none)
    (z_enumerate : PySem.W.nsIn K mainGlobals "enumerate" = some none)
    (z_bool : PySem.W.nsIn K mainGlobals "bool" = some none)
    (x_cg : PySem.W.specialIn K (.builtin "object.__class__") "__get__" = some (some (.builtin "getset_descriptor.__get__")))
    (x_ct : PySem.W.takesIn K (.builtin "object.__class__") = some true)
    (x_ca : PySem.W.findIn K (.ref Cs) "__class__" = some (some (.builtin "object.__class__")))
    (x_cm : PySem.W.mroIn K Cs (.type "object") = some true)
    (x_ib : PySem.W.kitOne K (.type "int") (.type "bool") = some false)
    (x_tl : PySem.W.kitOne K (.type "tuple") (.type "list") = some false)
    (x_ms : PySem.W.nsIn K mainGlobals "MOST_SPLITS" = some (some (.int 20 tM)))
    : ∃ fd : FuncData, (∀ (s : Shared) (v : Value), BindsTo s fd ⟨[v], []⟩ [("_law_script", v)]) ∧ ∀ base : Heap, K.In base → base.Ns mainGlobals mg → FnOk l.prog w K mg base CX0 40 fa fd ["_law_script"] (spLaw K) := by
  have e := hfa.symm.trans (PySem.W.mg_of X G a37)
  cases e
  have T : Txt K mg Cs := ⟨⟨pg_Cs, hd_Cs, po_Cs, sa_Cs⟩, n_Cs_terms, n_Cs_number, PySem.W.mg_of X G g_Cs, PySem.W.mg_none_of X G z_len, PySem.W.mg_none_of X G z_sum, PySem.W.mg_none_of X G z_sorted, PySem.W.mg_none_of X G z_list, PySem.W.mg_none_of X G z_tuple, PySem.W.mg_none_of X G z_isinstance, PySem.W.mg_none_of X G z_range, PySem.W.mg_none_of X G z_abs, PySem.W.mg_none_of X G z_str, PySem.W.mg_none_of X G z_int, PySem.W.mg_none_of X G z_dict, x_ca, x_cg, x_ct, x_cm, kit_ref K Cs, kit_tup K⟩
  have J : TxP K mg := ⟨PySem.W.mg_none_of X G z_all, PySem.W.mg_none_of X G z_set, PySem.W.mg_none_of X G z_enumerate, PySem.W.mg_none_of X G z_bool, x_ib, x_tl, ⟨_, PySem.W.mg_of X G x_ms⟩⟩
  have F1 := fun_mk (st := sInit) l1 c1 k1
  have b1 := F1.binds (ps := ["self", "terms", "number"]) fun _ _ _ _ _ _ us hl => zzu3 us hl fun _ _ _ => rfl
  have F2 := fun_mk (st := sPlus) l2 c2 k2
  have b2 := F2.binds (ps := ["self", "other"]) fun _ _ _ _ _ _ us hl => zzu2 us hl fun _ _ => rfl
  have F3 := fun_mk (st := sLess) l3 c3 k3
  have b3 := F3.binds (ps := ["self", "other"]) fun _ _ _ _ _ _ us hl => zzu2 us hl fun _ _ => rfl
  have F4 := fun_mk (st := sTimes) l4 c4 k4
  have b4 := F4.binds (ps := ["self", "number"]) fun _ _ _ _ _ _ us hl => zzu2 us hl fun _ _ => rfl
  have F5 := fun_mk (st := sSumOf) l5 c5 k5
  have b5 := F5.binds (ps := ["pairs", "number"]) fun _ _ _ _ _ _ us hl => zzu2 us hl fun _ _ => rfl
  have F6 := fun_mk (st := sMixed) l6 c6 k6
  have b6 := F6.binds (ps := ["_law_cell", "_law_k"]) fun _ _ _ _ _ _ us hl => zzu2 us hl fun _ _ => rfl
  have F7 := fun_mk (st := sCellAt) l7 c7 k7
  have b7 := F7.binds (ps := ["_law_script", "_law_k"]) fun _ _ _ _ _ _ us hl => zzu2 us hl fun _ _ => rfl
  have F8 := fun_mk (st := sNext) l8 c8 k8
  have b8 := F8.binds (ps := ["_law_draw", "_law_size"]) fun _ _ _ _ _ _ us hl => zzu2 us hl fun _ _ => rfl
  have F9 := fun_mk (st := sis_several) l9 c9 k9
  have b9 := F9.binds (ps := ["what"]) fun _ _ _ _ _ _ us hl => zzu1 us hl fun _ => rfl
  have F10 := fun_mk (st := sis_number) l10 c10 k10
  have b10 := F10.binds (ps := ["what"]) fun _ _ _ _ _ _ us hl => zzu1 us hl fun _ => rfl
  have F11 := fun_mk (st := sis_from_one) l11 c11 k11
  have b11 := F11.binds (ps := ["what"]) fun _ _ _ _ _ _ us hl => zzu1 us hl fun _ => rfl
  have F12 := fun_mk (st := sis_ahead) l12 c12 k12
  have b12 := F12.binds (ps := ["lines", "what"]) fun _ _ _ _ _ _ us hl => zzu2 us hl fun _ _ => rfl
  have F13 := fun_mk (st := sis_weighed) l13 c13 k13
  have b13 := F13.binds (ps := ["lines", "pair"]) fun _ _ _ _ _ _ us hl => zzu2 us hl fun _ _ => rfl
  have F14 := fun_mk (st := scan_be_divided) l14 c14 k14
  have b14 := F14.binds (ps := ["total", "divisor"]) fun _ _ _ _ _ _ us hl => zzu2 us hl fun _ _ => rfl
  have F15 := fun_mk (st := sis_term) l15 c15 k15
  have b15 := F15.binds (ps := ["pair"]) fun _ _ _ _ _ _ us hl => zzu1 us hl fun _ => rfl
  have F16 := fun_mk (st := sis_sum) l16 c16 k16
  have b16 := F16.binds (ps := ["what"]) fun _ _ _ _ _ _ us hl => zzu1 us hl fun _ => rfl
  have F17 := fun_mk (st := sis_never) l17 c17 k17
  have b17 := F17.binds (ps := ["total"]) fun _ _ _ _ _ _ us hl => zzu1 us hl fun _ => rfl
  have F18 := fun_mk (st := sis_split) l18 c18 k18
  have b18 := F18.binds (ps := ["line"]) fun _ _ _ _ _ _ us hl => zzu1 us hl fun _ => rfl
  have F19 := fun_mk (st := sis_right) l19 c19 k19
  have b19 := F19.binds (ps := ["lines", "line"]) fun _ _ _ _ _ _ us hl => zzu2 us hl fun _ _ => rfl
  have F20 := fun_mk (st := sturned_terms) l20 c20 k20
  have b20 := F20.binds (ps := ["terms"]) fun _ _ _ _ _ _ us hl => zzu1 us hl fun _ => rfl
  have F21 := fun_mk (st := sother_side) l21 c21 k21
  have b21 := F21.binds (ps := ["total"]) fun _ _ _ _ _ _ us hl => zzu1 us hl fun _ => rfl
  have F22 := fun_mk (st := sdivided) l22 c22 k22
  have b22 := F22.binds (ps := ["total", "divisor"]) fun _ _ _ _ _ _ us hl => zzu2 us hl fun _ _ => rfl
  have F23 := fun_mk (st := sline_of) l23 c23 k23
  have b23 := F23.binds (ps := ["lines", "line"]) fun _ _ _ _ _ _ us hl => zzu2 us hl fun _ _ => rfl
  have F24 := fun_mk (st := sboth_end_well) l24 c24 k24
  have b24 := F24.binds (ps := ["lines", "line", "splits"]) fun _ _ _ _ _ _ us hl => zzu3 us hl fun _ _ _ => rfl
  have F25 := fun_mk (st := sends_well) l25 c25 k25
  have b25 := F25.binds (ps := ["lines", "paper", "splits"]) fun _ _ _ _ _ _ us hl => zzu3 us hl fun _ _ _ => rfl
  have F26 := fun_mk (st := srefutes) l26 c26 k26
  have b26 := F26.binds (ps := ["case", "paper"]) fun _ _ _ _ _ _ us hl => zzu2 us hl fun _ _ => rfl
  have F27 := fun_mk (st := sl_sums) l27 c27 k27
  have b27 := F27.binds (ps := ["_law_draw", "_law_things", "_law_many"]) fun _ _ _ _ _ _ us hl => zzu3 us hl fun _ _ _ => rfl
  have F28 := fun_mk (st := sl_last) l28 c28 k28
  have b28 := F28.binds (ps := ["_law_draw", "_law_sums_here", "_law_more"]) fun _ _ _ _ _ _ us hl => zzu3 us hl fun _ _ _ => rfl
  have F29 := fun_mk (st := sl_value) l29 c29 k29
  have b29 := F29.binds (ps := ["_law_total", "_law_numbers"]) fun _ _ _ _ _ _ us hl => zzu2 us hl fun _ _ => rfl
  have F30 := fun_mk (st := sl_told) l30 c30 k30
  have b30 := F30.binds (ps := ["_law_total"]) fun _ _ _ _ _ _ us hl => zzu1 us hl fun _ => rfl
  have F31 := fun_mk (st := sl_boxes) l31 c31 k31
  have b31 := F31.binds (ps := ["_law_things", "_law_least", "_law_most"]) fun _ _ _ _ _ _ us hl => zzu3 us hl fun _ _ _ => rfl
  have F32 := fun_mk (st := sl_met) l32 c32 k32
  have b32 := F32.binds (ps := ["_law_case", "_law_things", "_law_most"]) fun _ _ _ _ _ _ us hl => zzu3 us hl fun _ _ _ => rfl
  have F33 := fun_mk (st := sl_listed) l33 c33 k33
  have b33 := F33.binds (ps := ["_law_paper"]) fun _ _ _ _ _ _ us hl => zzu1 us hl fun _ => rfl
  have F34 := fun_mk (st := sl_added) l34 c34 k34
  have b34 := F34.binds (ps := ["_law_lines", "_law_line"]) fun _ _ _ _ _ _ us hl => zzu2 us hl fun _ _ => rfl
  have F35 := fun_mk (st := sl_lines_right) l35 c35 k35
  have b35 := F35.binds (ps := ["_law_case", "_law_paper"]) fun _ _ _ _ _ _ us hl => zzu2 us hl fun _ _ => rfl
  have F36 := fun_mk (st := sl_built) l36 c36 k36
  have b36 := F36.binds (ps := ["_law_draw", "_law_things"]) fun _ _ _ _ _ _ us hl => zzu2 us hl fun _ _ => rfl
  have F37 := fun_mk (st := slaw) l37 c37 k37
  refine ⟨PySem.W.fnOf "law" "law" (defArgs slaw) (defBody slaw) (defScope slaw) .none kV37 dc37 pm37 an37 cd37 ct37, fun s v => .of_eq rfl, fun base _ _ => ?_⟩
  have D_init : Mr l.prog w K mg base 1 Cs ["self", "terms", "number"] (spInit Cs) := ⟨f1, _, ok_init F1 T , ⟨mk_Cs, a1, i1, kc_Cs⟩, b1⟩
  have D_sum_of : Dn l.prog w K mg base 3 "sum_of" ["pairs", "number"] (spSumOf Cs) := ⟨f5, _, ok_sum_of F5 T D_init, PySem.W.mg_of X G a5, k5, b5⟩
  have D_plus : Mt l.prog w K mg base 4 Cs "plus" ["self", "other"] (spPlus Cs) := ⟨f2, _, ok_plus F2 T D_sum_of, ⟨a2, i2, k2⟩, b2⟩
  have D_times : Mt l.prog w K mg base 4 Cs "times" ["self", "number"] (spTimes Cs) := ⟨f4, _, ok_times F4 T D_sum_of, ⟨a4, i4, k4⟩, b4⟩
  have D_less : Mt l.prog w K mg base 5 Cs "less" ["self", "other"] (spLess Cs) := ⟨f3, _, ok_less F3 T D_plus D_times, ⟨a3, i3, k3⟩, b3⟩
  have D_l_mixed : Dn l.prog w K mg base 1 "_law_mixed" ["_law_cell", "_law_k"] spMixed := ⟨f6, _, ok_mixed F6 T , PySem.W.mg_of X G a6, k6, b6⟩
  have D_l_cell_at : Dn l.prog w K mg base 2 "_law_cell_at" ["_law_script", "_law_k"] (spCell K) := ⟨f7, _, ok_cell_at F7 T D_l_mixed, PySem.W.mg_of X G a7, k7, b7⟩
  have D_l_next : Dn l.prog w K mg base 2 "_law_next" ["_law_draw", "_law_size"] spNext := ⟨f8, _, ok_next F8 T D_l_mixed, PySem.W.mg_of X G a8, k8, b8⟩
  have D_is_several : Dn l.prog w K mg base 1 "is_several" ["what"] spSev := ⟨f9, _, ok_is_several (n := 0) F9 T J , PySem.W.mg_of X G a9, k9, b9⟩
  have D_is_number : Dn l.prog w K mg base 1 "is_number" ["what"] spIsNum := ⟨f10, _, ok_is_number (n := 0) F10 T J , PySem.W.mg_of X G a10, k10, b10⟩
  have D_is_from_one : Dn l.prog w K mg base 2 "is_from_one" ["what"] spFrom1 := ⟨f11, _, ok_is_from_one (n := 0) F11 T J D_is_number, PySem.W.mg_of X G a11, k11, b11⟩
  have D_is_ahead : Dn l.prog w K mg base 2 "is_ahead" ["lines", "what"] spAhd := ⟨f12, _, ok_is_ahead (n := 0) F12 T J D_is_number, PySem.W.mg_of X G a12, k12, b12⟩
  have D_is_weighed : Dn l.prog w K mg base 3 "is_weighed" ["lines", "pair"] spWeighed := ⟨f13, _, ok_is_weighed (n := 0) F13 T J D_is_several D_is_from_one D_is_ahead, PySem.W.mg_of X G a13, k13, b13⟩
  have D_can_be_divided : Dn l.prog w K mg base 1 "can_be_divided" ["total", "divisor"] (spCanDiv Cs) := ⟨f14, _, ok_can_be_divided (n := 0) F14 T J , PySem.W.mg_of X G a14, k14, b14⟩
  have D_is_term : Dn l.prog w K mg base 2 "is_term" ["pair"] spIsTerm := ⟨f15, _, ok_is_term (n := 0) F15 T J D_is_number, PySem.W.mg_of X G a15, k15, b15⟩
  have D_is_sum : Dn l.prog w K mg base 3 "is_sum" ["what"] (spIsSum Cs) := ⟨f16, _, ok_is_sum (n := 0) F16 T J D_is_number D_is_term, PySem.W.mg_of X G a16, k16, b16⟩
  have D_is_never : Dn l.prog w K mg base 1 "is_never" ["total"] (spNever Cs) := ⟨f17, _, ok_is_never (n := 0) F17 T J , PySem.W.mg_of X G a17, k17, b17⟩
  have D_is_split : Dn l.prog w K mg base 4 "is_split" ["line"] (spIsSplit Cs) := ⟨f18, _, ok_is_split (n := 0) F18 T J D_is_several D_is_sum, PySem.W.mg_of X G a18, k18, b18⟩
  have D_is_right : Dn l.prog w K mg base 5 "is_right" ["lines", "line"] (spIsRight Cs) := ⟨f19, _, ok_is_right (n := 0) F19 T J D_is_several D_is_weighed D_is_ahead D_is_from_one D_can_be_divided, PySem.W.mg_of X G a19, k19, b19⟩
  have D_turned_terms : Dn l.prog w K mg base 1 "turned_terms" ["terms"] spTurnT := ⟨f20, _, ok_turned_terms (n := 0) F20 T J , PySem.W.mg_of X G a20, k20, b20⟩
  have D_other_side : Dn l.prog w K mg base 3 "other_side" ["total"] (spOther Cs) := ⟨f21, _, ok_other_side (n := 0) F21 T J D_init D_turned_terms, PySem.W.mg_of X G a21, k21, b21⟩
  have D_divided : Dn l.prog w K mg base 3 "divided" ["total", "divisor"] (spDivided Cs) := ⟨f22, _, ok_divided (n := 0) F22 T J D_init, PySem.W.mg_of X G a22, k22, b22⟩
  have D_line_of : Dn l.prog w K mg base 4 "line_of" ["lines", "line"] (spLineOf Cs) := ⟨f23, _, ok_line_of (n := 0) F23 T J D_sum_of D_divided, PySem.W.mg_of X G a23, k23, b23⟩
  have AL_ew := dn_rec (P := l.prog) (w := w) (base := base) (lv := fun n => 14 * n + 5) (sp := fun n => spEW Cs n) (PySem.W.mg_of X G a25) k25 b25 (ew0 Cs) fun n R => by
    have D_both_end_well : Dn l.prog w K mg base (14 * n + 6) "both_end_well" ["lines", "line", "splits"] (spBoth2 Cs n) := ⟨f24, _, ok_both_end_well (n := n) F24 T J D_other_side R, PySem.W.mg_of X G a24, k24, b24⟩
    exact (show (14 * n + 19) = 14 * (n + 1) + 5 by omega) ▸ (ok_ends_well (n := n) F25 T J D_is_several D_is_split D_both_end_well D_is_right D_line_of D_is_never)
  have D_ends_well2 := AL_ew 2
  have D_refutes : Dn l.prog w K mg base 36 "refutes" ["case", "paper"] (spRefutes Cs) := ⟨f26, _, ok_refutes (n := 0) F26 T J D_is_several D_is_sum D_ends_well2, PySem.W.mg_of X G a26, k26, b26⟩
  have D_l_sums : Dn l.prog w K mg base 4 "_law_sums" ["_law_draw", "_law_things", "_law_many"] (spLSums Cs) := ⟨f27, _, ok_l_sums (n := 0) F27 T J D_l_next D_sum_of, PySem.W.mg_of X G a27, k27, b27⟩
  have D_l_last : Dn l.prog w K mg base 6 "_law_last" ["_law_draw", "_law_sums_here", "_law_more"] (spLLast Cs) := ⟨f28, _, ok_l_last (n := 0) F28 T J D_l_next D_sum_of D_less D_times, PySem.W.mg_of X G a28, k28, b28⟩
  have D_l_value : Dn l.prog w K mg base 1 "_law_value" ["_law_total", "_law_numbers"] (spLValue Cs) := ⟨f29, _, ok_l_value (n := 0) F29 T J , PySem.W.mg_of X G a29, k29, b29⟩
  have D_l_told : Dn l.prog w K mg base 1 "_law_told" ["_law_total"] (spLTold Cs) := ⟨f30, _, ok_l_told (n := 0) F30 T J , PySem.W.mg_of X G a30, k30, b30⟩
  have D_l_boxes : Dn l.prog w K mg base 1 "_law_boxes" ["_law_things", "_law_least", "_law_most"] spLBoxes := ⟨f31, _, ok_l_boxes (n := 0) F31 T J , PySem.W.mg_of X G a31, k31, b31⟩
  have D_l_met : Dn l.prog w K mg base 2 "_law_met" ["_law_case", "_law_things", "_law_most"] (spLMet Cs) := ⟨f32, _, ok_l_met (n := 0) F32 T J D_l_boxes D_l_value, PySem.W.mg_of X G a32, k32, b32⟩
  have D_l_listed : Dn l.prog w K mg base 1 "_law_listed" ["_law_paper"] (spLListed Cs) := ⟨f33, _, ok_l_listed (n := 0) F33 T J , PySem.W.mg_of X G a33, k33, b33⟩
  have D_l_added : Dn l.prog w K mg base 1 "_law_added" ["_law_lines", "_law_line"] (spLAdded Cs) := ⟨f34, _, ok_l_added (n := 0) F34 T J , PySem.W.mg_of X G a34, k34, b34⟩
  have D_l_lines_right : Dn l.prog w K mg base 5 "_law_lines_right" ["_law_case", "_law_paper"] (spLLines Cs) := ⟨f35, _, ok_l_lines_right (n := 0) F35 T J D_line_of D_l_told D_l_added D_sum_of, PySem.W.mg_of X G a35, k35, b35⟩
  have D_l_built : Dn l.prog w K mg base 8 "_law_built" ["_law_draw", "_law_things"] (spLBuilt Cs) := ⟨f36, _, ok_l_built (n := 0) F36 T J D_l_next D_l_sums D_times D_plus D_sum_of D_l_last, PySem.W.mg_of X G a36, k36, b36⟩
  exact ok_law (n := 0) F37 T J D_l_cell_at D_l_next D_l_built D_refutes D_l_listed D_l_lines_right D_l_met
theorem walk {l : PySem.W.OpenLaw} {q : Program} {loose : List Str} {XP : (Str → Option Value) → Heap → Prop} {YP : World → Heap → Prop} {d : DefRec} {K : Params → PySem.W.Frag} (hn : l.most = some 63) (hdf : d.params.defaults = [])
    (hY : ∀ (w : World) (h : Heap), YP w h → (K w.params).In h)
    (F : ∀ (w : World) (mg : Str → Option Value) (fa : Addr) (h : Heap), (K w.params).In h → h.Ns mainGlobals mg → mg d.name = some (.ref fa) →
      ∃ fd : FuncData, (∀ (s : Shared) (u : Value), BindsTo s fd ⟨[u], []⟩ [("_law_script", u)]) ∧ ∀ base : Heap, (K w.params).In base → base.Ns mainGlobals mg → FnOk l.prog w (K w.params) mg base CX0 40 fa fd ["_law_script"] (spLaw (K w.params))) :
    PySem.W.WalkO q loose XP YP l.row.toRowW d [] (fun f vs => PySem.call f vs) :=
  L2.walk_of (n := 63) (k := 40) (x := "_law_script") (CX := fun _ => CX0) (sp := fun w => spLaw (K w.params)) hn (by decide) hdf ⟨rfl, by decide, by decide⟩ hY F (fun _ _ a ns hl _ hS => ⟨a, ns, rfl, hS, hl, fun _ => rfl⟩) fun _ _ _ _ _ z => z
end Hw
open PySem PySem.W PyProof.Rows
def PySem.W.Fast.tw3622197833247750055 : Nat := 0
def PySem.W.Fast.tw3905491234276654486 : Nat := 0
def PySem.W.Fast.tw15893391364725078786 : Nat := 0
def PySem.W.Fast.tw14061163687722682094 : Nat := 0
def PySem.W.Fast.tw9664118487764177753 : Nat := 0
def PySem.W.Fast.tw12642931974011701485 : Nat := 0
def PySem.W.Fast.tw12960424502703012265 : Nat := 0
def PySem.W.Fast.tw5294873568851106448 : Nat := 0
def PySem.W.Fast.tw2724334508747672055 : Nat := 0
def PySem.W.Fast.tw13590218030897417495 : Nat := 0
def PySem.W.Fast.tw2450075582732135270 : Nat := 0
def PySem.W.Fast.tw8565957349190615532 : Nat := 0
def PySem.W.Fast.tw1848429587312455507 : Nat := 0
def PySem.W.Fast.tw11727865136749453495 : Nat := 0
def PySem.W.Fast.tw6688057362021824949 : Nat := 0
def PySem.W.Fast.tw10318837633576741414 : Nat := 0
def PySem.W.Fast.tw4598461770593181582 : Nat := 0
def PySem.W.Fast.tw8929209579560335067 : Nat := 0
def PySem.W.Fast.tw11849430653912613128 : Nat := 0
def PySem.W.Fast.tw6498575791670895723 : Nat := 0
def PySem.W.Fast.tw9216130344908931697 : Nat := 0
def PySem.W.Fast.tw9858152557465929280 : Nat := 0
def PySem.W.Fast.tw718736096765837556 : Nat := 0
def PySem.W.Fast.tw15087014933191720370 : Nat := 0
def PySem.W.Fast.tw6968373296606925382 : Nat := 0
def PySem.W.Fast.tw3457834831476869380 : Nat := 0
def PySem.W.Fast.tw4918579598163452821 : Nat := 0
def PySem.W.Fast.tw5911576088567071398 : Nat := 0
def PySem.W.Fast.tw13104243243287741811 : Nat := 0
def PySem.W.Fast.tw4069403999387527823 : Nat := 0
def PySem.W.Fast.tw14749130598189319542 : Nat := 0
def PySem.W.Fast.tw12193816058119170208 : Nat := 0
def PySem.W.Fast.tw17793690594838699219 : Nat := 0
def PySem.W.Fast.tw14210993179719082779 : Nat := 0
def PySem.W.Fast.tw16627536760363390360 : Nat := 0
def PySem.W.Fast.tw3702225620244785360 : Nat := 0
def PySem.W.Fast.tw8538251640690540139 : Nat := 0
def PySem.W.Fast.tw1618342276911494896 : Nat := 0
def PySem.W.Fast.tw2778984204265357007 : Nat := 0
def PySem.W.Fast.tw4362031941989639311 : Nat := 0
set_option maxRecDepth 100000 in
set_option maxHeartbeats 0 in
theorem PySem.Challenge.cw_holdwright_k37_papers_refute_holds : PySem.Challenge.rw_holdwright_k37_papers_refute.Holds := by
  w_on; o_law; k_head; (case hw => w_witness2)
  k_fill
  refine Hw.walk (l := PySem.Challenge.rw_holdwright_k37_papers_refute) rfl rfl (fun w h Y => PySem.W.kIn_of Y) ?F
  case F =>
    intro w mg fa h KX G hmg
    refine' Hw.all_mk KX G hmg ?g_Cs ?pg_Cs ?hd_Cs ?po_Cs ?sa_Cs ?mk_Cs ?kc_Cs ?a1 ?i1 ?l1 ?c1 ?k1 ?a2 ?i2 ?l2 ?c2 ?k2 ?a3 ?i3 ?l3 ?c3 ?k3 ?a4 ?i4 ?l4 ?c4 ?k4 ?a5 ?l5 ?c5 ?k5 ?a6 ?l6 ?c6 ?k6 ?a7 ?l7 ?c7 ?k7 ?a8 ?l8 ?c8 ?k8 ?a9 ?l9 ?c9 ?k9 ?a10 ?l10 ?c10 ?k10 ?a11 ?l11 ?c11 ?k11 ?a12 ?l12 ?c12 ?k12 ?a13 ?l13 ?c13 ?k13 ?a14 ?l14 ?c14 ?k14 ?a15 ?l15 ?c15 ?k15 ?a16 ?l16 ?c16 ?k16 ?a17 ?l17 ?c17 ?k17 ?a18 ?l18 ?c18 ?k18 ?a19 ?l19 ?c19 ?k19 ?a20 ?l20 ?c20 ?k20 ?a21 ?l21 ?c21 ?k21 ?a22 ?l22 ?c22 ?k22 ?a23 ?l23 ?c23 ?k23 ?a24 ?l24 ?c24 ?k24 ?a25 ?l25 ?c25 ?k25 ?a26 ?l26 ?c26 ?k26 ?a27 ?l27 ?c27 ?k27 ?a28 ?l28 ?c28 ?k28 ?a29 ?l29 ?c29 ?k29 ?a30 ?l30 ?c30 ?k30 ?a31 ?l31 ?c31 ?k31 ?a32 ?l32 ?c32 ?k32 ?a33 ?l33 ?c33 ?k33 ?a34 ?l34 ?c34 ?k34 ?a35 ?l35 ?c35 ?k35 ?a36 ?l36 ?c36 ?k36 ?a37 ?l37 ?c37 ?k37 ?n_Cs_terms ?n_Cs_number ?z_len ?z_sum ?z_sorted ?z_list ?z_tuple ?z_isinstance ?z_range ?z_abs ?z_str ?z_int ?z_dict ?z_all ?z_set ?z_enumerate ?z_bool ?x_cg ?x_ct ?x_ca ?x_cm ?x_ib ?x_tl ?x_ms
    (case g_Cs => k_is)
    (case pg_Cs => k_is)
    (case hd_Cs => k_is)
    (case po_Cs => k_is)
    (case sa_Cs => k_is)
    (case mk_Cs => k_is)
    (case kc_Cs => k_is)
    (case a1 => k_is)
    (case i1 => k_is)
    (case l1 => k_is)
    (case c1 => k_is)
    (case k1 => k_is)
    (case a2 => k_is)
    (case i2 => k_is)
    (case l2 => k_is)
    (case c2 => k_is)
    (case k2 => k_is)
    (case a3 => k_is)
    (case i3 => k_is)
    (case l3 => k_is)
    (case c3 => k_is)
    (case k3 => k_is)
    (case a4 => k_is)
    (case i4 => k_is)
    (case l4 => k_is)
    (case c4 => k_is)
    (case k4 => k_is)
    (case a5 => k_is)
    (case l5 => k_is)
    (case c5 => k_is)
    (case k5 => k_is)
    (case a6 => k_is)
    (case l6 => k_is)
    (case c6 => k_is)
    (case k6 => k_is)
    (case a7 => k_is)
    (case l7 => k_is)
    (case c7 => k_is)
    (case k7 => k_is)
    (case a8 => k_is)
    (case l8 => k_is)
    (case c8 => k_is)
    (case k8 => k_is)
    (case a9 => k_is)
    (case l9 => k_is)
    (case c9 => k_is)
    (case k9 => k_is)
    (case a10 => k_is)
    (case l10 => k_is)
    (case c10 => k_is)
    (case k10 => k_is)
    (case a11 => k_is)
    (case l11 => k_is)
    (case c11 => k_is)
    (case k11 => k_is)
    (case a12 => k_is)
    (case l12 => k_is)
    (case c12 => k_is)
    (case k12 => k_is)
    (case a13 => k_is)
    (case l13 => k_is)
    (case c13 => k_is)
    (case k13 => k_is)
    (case a14 => k_is)
    (case l14 => k_is)
    (case c14 => k_is)
    (case k14 => k_is)
    (case a15 => k_is)
    (case l15 => k_is)
    (case c15 => k_is)
    (case k15 => k_is)
    (case a16 => k_is)
    (case l16 => k_is)
    (case c16 => k_is)
    (case k16 => k_is)
    (case a17 => k_is)
    (case l17 => k_is)
    (case c17 => k_is)
    (case k17 => k_is)
    (case a18 => k_is)
    (case l18 => k_is)
    (case c18 => k_is)
    (case k18 => k_is)
    (case a19 => k_is)
    (case l19 => k_is)
    (case c19 => k_is)
    (case k19 => k_is)
    (case a20 => k_is)
    (case l20 => k_is)
    (case c20 => k_is)
    (case k20 => k_is)
    (case a21 => k_is)
    (case l21 => k_is)
    (case c21 => k_is)
    (case k21 => k_is)
    (case a22 => k_is)
    (case l22 => k_is)
    (case c22 => k_is)
    (case k22 => k_is)
    (case a23 => k_is)
    (case l23 => k_is)
    (case c23 => k_is)
    (case k23 => k_is)
    (case a24 => k_is)
    (case l24 => k_is)
    (case c24 => k_is)
    (case k24 => k_is)
    (case a25 => k_is)
    (case l25 => k_is)
    (case c25 => k_is)
    (case k25 => k_is)
    (case a26 => k_is)
    (case l26 => k_is)
    (case c26 => k_is)
    (case k26 => k_is)
    (case a27 => k_is)
    (case l27 => k_is)
    (case c27 => k_is)
    (case k27 => k_is)
    (case a28 => k_is)
    (case l28 => k_is)
    (case c28 => k_is)
    (case k28 => k_is)
    (case a29 => k_is)
    (case l29 => k_is)
    (case c29 => k_is)
    (case k29 => k_is)
    (case a30 => k_is)
    (case l30 => k_is)
    (case c30 => k_is)
    (case k30 => k_is)
    (case a31 => k_is)
    (case l31 => k_is)
    (case c31 => k_is)
    (case k31 => k_is)
    (case a32 => k_is)
    (case l32 => k_is)
    (case c32 => k_is)
    (case k32 => k_is)
    (case a33 => k_is)
    (case l33 => k_is)
    (case c33 => k_is)
    (case k33 => k_is)
    (case a34 => k_is)
    (case l34 => k_is)
    (case c34 => k_is)
    (case k34 => k_is)
    (case a35 => k_is)
    (case l35 => k_is)
    (case c35 => k_is)
    (case k35 => k_is)
    (case a36 => k_is)
    (case l36 => k_is)
    (case c36 => k_is)
    (case k36 => k_is)
    (case a37 => k_is)
    (case l37 => k_is)
    (case c37 => k_is)
    (case k37 => k_is)
    (case n_Cs_terms => k_is)
    (case n_Cs_number => k_is)
    (case z_len => k_is)
    (case z_sum => k_is)
    (case z_sorted => k_is)
    (case z_list => k_is)
    (case z_tuple => k_is)
    (case z_isinstance => k_is)
    (case z_range => k_is)
    (case z_abs => k_is)
    (case z_str => k_is)
    (case z_int => k_is)
    (case z_dict => k_is)
    (case z_all => k_is)
    (case z_set => k_is)
    (case z_enumerate => k_is)
    (case z_bool => k_is)
    (case x_cg => k_is)
    (case x_ct => k_is)
    (case x_ca => k_is)
    (case x_cm => k_is)
    (case x_ib => kit_is)
    (case x_tl => kit_is)
    (case x_ms => k_is)
#print axioms PySem.Challenge.cw_holdwright_k37_papers_refute_holds
