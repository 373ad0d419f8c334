import PyProof.Rows.All
import Wide.All
import OpenK.AllK
import Wide.FinOn
import Lean
import PyProof.EqAt
import PyProof.EqKinds
import PyProof.TupleCall
import PySem.Spec
import PyProof.NeKinds
import KE.KDictList
import KE.KPairComp
import PyProof.DictWalks
import PyProof.FString5
import PyProof.StrLawsIn
import PyProof.Rows.SetFrom
import KE.KEqDict
import PyProof.Rows.DictMethods
import PySem.Challenge.RW_holdwright_k28_along
set_option Elab.async false
set_option linter.all false
set_option maxRecDepth 100000
namespace L2
open PySem PySem.Spec PyProof.Rows
abbrev Key := Sum Int Str
def keyIs : Key → Value → Bool
  | .inl k, v => Value.isInt k v
  | .inr x, v => Value.isStrOf x v
def keyH (w : World) : Key → Int
  | .inl k => hashInt k
  | .inr x => hashStr w x
theorem keyIs_shape : ∀ {k : Key} {v : Value}, keyIs k v = true → (∃ i t, k = Sum.inl i ∧ v = Value.int i t) ∨ (∃ x t, k = Sum.inr x ∧ v = Value.str x t)
  | .inl i, v, h => by
    obtain ⟨t, e⟩ := Value.isInt_shape (k := i) (v := v) h
    exact .inl ⟨i, t, rfl, e⟩
  | .inr x, v, h => by
    obtain ⟨t, e⟩ := Value.isStrOf_shape (x := x) (v := v) h
    exact .inr ⟨x, t, rfl, e⟩
theorem keyIs_int (i : Int) (t : Tok) : keyIs (.inl i) (.int i t) = true := by simp [keyIs, Value.isInt]
theorem keyIs_str (x : Str) (t : Tok) : keyIs (.inr x) (.str x t) = true := by simp [keyIs, Value.isStrOf]
theorem key_ll (a b : Int) : decide ((Sum.inl a : Key) = Sum.inl b) = (a == b) := by
  by_cases e : a = b
  · subst e; simp
  · have h : ¬ (Sum.inl a : Key) = Sum.inl b := fun q => e (Sum.inl.inj q)
    rw [decide_eq_false h]
    exact (beq_eq_false_iff_ne.mpr e).symm
theorem key_rr (a b : Str) : decide ((Sum.inr a : Key) = Sum.inr b) = decide (a = b) := by
  by_cases e : a = b
  · subst e; simp
  · have h : ¬ (Sum.inr a : Key) = Sum.inr b := fun q => e (Sum.inr.inj q)
    rw [decide_eq_false h, decide_eq_false e]
theorem key_lr (a : Int) (b : Str) : decide ((Sum.inl a : Key) = Sum.inr b) = false := decide_eq_false (fun q => nomatch q)
theorem key_rl (a : Str) (b : Int) : decide ((Sum.inr a : Key) = Sum.inl b) = false := decide_eq_false (fun q => nomatch q)
def mixKind (prog : Program) (w : World) : PySem.KeyKind prog w Key where
  is := keyIs
  hash := keyH w
  inj := fun v a b ha hb => by
    rcases keyIs_shape ha with ⟨i, t, rfl, rfl⟩ | ⟨x, t, rfl, rfl⟩
    · rcases keyIs_shape hb with ⟨j, u, rfl, e⟩ | ⟨y, u, rfl, e⟩
      · injection e with e1 _; rw [e1]
      · exact nomatch e
    · rcases keyIs_shape hb with ⟨j, u, rfl, e⟩ | ⟨y, u, rfl, e⟩
      · exact nomatch e
      · injection e with e1 _; rw [e1]
  byValue := fun k v h => by
    rcases keyIs_shape h with ⟨i, t, rfl, rfl⟩ | ⟨x, t, rfl, rfl⟩ <;> rfl
  pyHash := fun hv h => by
    rcases keyIs_shape hv with ⟨i, t, rfl, rfl⟩ | ⟨x, t, rfl, rfl⟩
    · exact wpAny_pyHash_int h
    · exact wpAny_pyHash_str h
  eqBool := fun hu hv h => by
    rcases keyIs_shape hu with ⟨i, t, rfl, rfl⟩ | ⟨x, t, rfl, rfl⟩
    · rcases keyIs_shape hv with ⟨j, u, rfl, rfl⟩ | ⟨y, u, rfl, rfl⟩
      · rw [key_ll] at h; exact wpAny_eqBool_int h
      · rw [key_lr] at h; exact SeqAt.EqAt.int_str i t y u _ _ _ _ h
    · rcases keyIs_shape hv with ⟨j, u, rfl, rfl⟩ | ⟨y, u, rfl, rfl⟩
      · rw [key_rl] at h; exact SeqAt.EqAt.str_int x t j u _ _ _ _ h
      · rw [key_rr] at h; exact wpAny_eqBool_str h
  «strs» := fun k x t v h => by
    rcases keyIs_shape h with ⟨i, u, rfl, e⟩ | ⟨y, u, rfl, e⟩
    · exact nomatch e
    · injection e with e1 _
      subst e1
      cases v <;> rfl
theorem mixKind_int (prog : Program) (w : World) (i : Int) (t : Tok) : (mixKind prog w).is (.inl i) (.int i t) = true := keyIs_int i t
theorem mixKind_str (prog : Program) (w : World) (x : Str) (t : Tok) : (mixKind prog w).is (.inr x) (.str x t) = true := keyIs_str x t
end L2
namespace L2
open PySem PySem.Spec PyProof.Rows
inductive V where
  | non | bl (b : Bool) | int (i : Int) | str (x : Str) | byt (b : Array UInt8) | flt (b : UInt64) | ref (a : Addr) | ty (n : String)
  deriving DecidableEq
def RelV : V → Value → Prop
  | .non, u => u = Value.none
  | .bl b, u => u = Value.bool b
  | .int i, u => ∃ t, u = Value.int i t
  | .str x, u => ∃ t, u = Value.str x t
  | .byt b, u => ∃ t, u = Value.bytes b t
  | .flt b, u => ∃ t, u = Value.float b t
  | .ref a, u => u = Value.ref a
  | .ty n, u => u = Value.type n
abbrev Vals : List V → List Value → Prop := Paired RelV
theorem Vals.length {xs : List V} {us : List Value} (r : Vals xs us) : xs.length = us.length := Paired.length r
theorem Vals.get : ∀ {xs : List V} {us : List Value} {i : Nat} {x : V}, Vals xs us → xs[i]? = some x → ∃ u, us[i]? = some u ∧ RelV x u
  | _, _, _, _, .nil, e => by simp at e
  | _, _, 0, _, .cons r _, e => by simp at e; subst e; exact ⟨_, rfl, r⟩
  | _, _, i + 1, x, .cons _ t, e => by
    obtain ⟨u, h1, h2⟩ := Vals.get (i := i) (x := x) t (by simpa using e)
    exact ⟨u, by simpa using h1, h2⟩
theorem Vals.set {x : V} {u : Value} (r : RelV x u) : ∀ {xs : List V} {us : List Value} (i : Nat), Vals xs us → Vals (xs.set i x) (us.set i u)
  | _, _, _, .nil => .nil
  | _, _, 0, .cons _ t => .cons r t
  | _, _, i + 1, .cons q t => .cons q (Vals.set r i t)
theorem Vals.append : ∀ {xs ys : List V} {us ws : List Value}, Vals xs us → Vals ys ws → Vals (xs ++ ys) (us ++ ws)
  | _, _, _, _, .nil, s => s
  | _, _, _, _, .cons r t, s => .cons r (Vals.append t s)
theorem Vals.take : ∀ {xs : List V} {us : List Value} (n : Nat), Vals xs us → Vals (xs.take n) (us.take n)
  | _, _, 0, _ => .nil
  | _, _, _ + 1, .nil => .nil
  | _, _, n + 1, .cons r t => .cons r (Vals.take n t)
theorem Vals.drop : ∀ {xs : List V} {us : List Value} (n : Nat), Vals xs us → Vals (xs.drop n) (us.drop n)
  | _, _, 0, r => r
  | _, _, _ + 1, .nil => .nil
  | _, _, n + 1, .cons _ t => Vals.drop n t
def RelO : Option V → Option Value → Prop
  | some v, some u => RelV v u
  | none, none => True
  | _, _ => False
def KV {κ : Type} : List (κ × V) → List (κ × Value) → Prop := Paired fun (p : κ × V) (q : κ × Value) => p.1 = q.1 ∧ RelV p.2 q.2
def kV : Key → V
  | .inl i => .int i
  | .inr x => .str x
inductive HO where
  | lst (xs : List V)
  | tup (xs : List V)
  | dK (kvs : List (Key × V)) | dT (kvs : List (List Key × V))
  | set (S : Int → Bool) (n : Nat)
  | ins (C dx : Addr) (fs : List (Str × V))
  | own (x : Addr)
  | xd (fs : List (Str × V))
  | met (f x : Addr)
  | rng (lo hi : Int)
  | frz (o : Obj) (u : HO)
  | tbl (ps : Array Value)
  | ext (φ : Heap → Prop)
abbrev Hp := Addr → Option HO
def upd (H : Hp) (a : Addr) (o : HO) : Hp := fun b => if b = a then some o else H b
theorem upd_same {H : Hp} {a : Addr} {o : HO} : upd H a o a = some o := by unfold upd; rw [if_pos rfl]
theorem upd_ne {H : Hp} {a b : Addr} {o : HO} (h : b ≠ a) : upd H a o b = H b := by unfold upd; rw [if_neg h]
theorem upd_upd {H : Hp} {a : Addr} {o u : HO} : upd (upd H a o) a u = upd H a u := by
  funext b; unfold upd; split <;> rfl
theorem ne_of {H : Hp} {a b : Addr} {o u : HO} (h : H a = some o) (h' : H b = some u) (d : o ≠ u) : a ≠ b := by
  intro e; subst e; rw [h] at h'; exact d (Option.some.inj h')
theorem ne_of_none {H : Hp} {a b : Addr} {o : HO} (h : H a = some o) (h' : H b = none) : a ≠ b := by
  intro e; subst e; rw [h] at h'; cases h'
section
variable (P : Program) (w : World)
def ObjOk (H : Hp) (h : Heap) (a : Addr) : HO → Prop
  | .lst xs => xs.length ≤ sizeLine ∧ ∃ (its : List Value) (n : Nat), Vals xs its ∧ h.get? a = some { cls := .type "list", data := .seq its.toArray n }
  | .tup xs => xs.length ≤ sizeLine ∧ ∃ its : List Value, Vals xs its ∧ IsTup h a its.toArray
  | .dK kvs => kvs.length ≤ sizeLine ∧ (a == sysModules) = false ∧ ∃ vs, KV kvs vs ∧ h.DictOf (mixKind P w) a vs
  | .dT kvs => kvs.length ≤ sizeLine ∧ (a == sysModules) = false ∧ ∃ xs : List (List Key × Addr × Value),
      Paired (fun (p : List Key × V) (q : List Key × Addr × Value) => p.1 = q.1 ∧ H q.2.1 = some (.tup (p.1.map kV)) ∧ RelV p.2 q.2.2) kvs xs ∧
      ∃ o es ep, h.get? a = some o ∧ o.ExactDict ∧ o.data = .dict es ep ∧ es.toList = xs.map (entryOfKey (tupleKind (mixKind P w))) ∧ (xs.map (·.1)).Nodup
  | .set S n => h.SetOf (intKind P w) a S n
  | .ins C dx fs => H dx = some (.own a) ∧ fs.length ≤ 1000 ∧ dx ≠ a ∧ h.get? a = some (PySem.W.instObj C dx) ∧
      ∃ mA, h.Ns1 dx mA ∧ (∀ f, RelO (fs.lookup f) (mA f)) ∧ PySem.Within mA (fs.map (·.1))
  | .own _ => ∃ o, h.get? a = some o
  | .xd fs => ∃ mA, h.Ns1 a mA ∧ ∀ f, RelO (fs.lookup f) (mA f)
  | .rng lo hi => ∃ t u v, h.get? a = some { cls := .type "range", data := .fields #[.int lo t, .int hi u, .int 1 v] }
  | .frz o u => h.get? a = some o ∧ ObjOk H h a u
  | .tbl ps => h.get? a = some { cls := .none, data := .fields ps }
  | .met f x => h.get? a = some (PySem.W.methodObj (.ref f) (.ref x))
  | .ext φ => φ h ∧ (∃ o, h.get? a = some o) ∧ ∀ h1 h2 : Heap, φ h1 → (∀ o, h1.get? a = some o → h2.get? a = some o) → φ h2
def HOk (H : Hp) (h : Heap) : Prop := ∀ a o, H a = some o → ObjOk P w H h a o
end
section
variable {P : Program} {w : World} {H H' : Hp} {h h' : Heap} {a : Addr} {o : HO}
theorem ObjOk.lt (x : ObjOk P w H h a o) : a < h.objs.size := by
  cases o with
  | lst xs => obtain ⟨_, _, _, _, e⟩ := x; exact Heap.lt_size e
  | tup xs => obtain ⟨_, _, _, p⟩ := x; exact p.lt
  | dK kvs => obtain ⟨_, _, _, _, o, _, _, e, _⟩ := x; exact Heap.lt_size e
  | dT kvs => obtain ⟨_, _, _, _, o, _, _, e, _⟩ := x; exact Heap.lt_size e
  | set S n => obtain ⟨o, _, _, _, e, _⟩ := x; exact Heap.lt_size e
  | ins C dx fs => obtain ⟨_, _, _, e, _⟩ := x; exact Heap.lt_size e
  | own y => obtain ⟨_, e⟩ := x; exact Heap.lt_size e
  | xd fs => obtain ⟨_, ⟨_, _, _, e, _⟩, _⟩ := x; exact Heap.lt_size e
  | rng lo hi => obtain ⟨_, _, _, e⟩ := x; exact Heap.lt_size e
  | frz ob u => obtain ⟨e, _⟩ := x; exact Heap.lt_size e
  | tbl ps => exact Heap.lt_size (show h.get? a = some _ from x)
  | met f y => exact Heap.lt_size (show h.get? a = some _ from x)
  | ext φ => obtain ⟨_, ⟨_, e⟩, _⟩ := x; exact Heap.lt_size e
theorem Paired.mapP {α β : Type} {F G : α → β → Prop} : ∀ {l₁ : List α} {l₂ : List β}, Paired F l₁ l₂ → (∀ a b, F a b → G a b) → Paired G l₁ l₂
  | _, _, .nil, _ => .nil
  | _, _, .cons r t, f => .cons (f _ _ r) (Paired.mapP t f)
theorem ObjOk.stay (x : ObjOk P w H h a o) (k : ∀ b u, (b = a ∨ H b = some (.own a)) → h.get? b = some u → h'.get? b = some u)
    (ho : ∀ b, H b = some (.own a) → H' b = some (.own a)) (ht : ∀ b xs, H b = some (.tup xs) → H' b = some (.tup xs)) : ObjOk P w H' h' a o := by
  induction o with
  | lst xs => obtain ⟨z, its, n, r, e⟩ := x; exact ⟨z, its, n, r, k _ _ (.inl rfl) e⟩
  | tup xs => obtain ⟨z, its, r, ob, e, c⟩ := x; exact ⟨z, its, r, ob, k _ _ (.inl rfl) e, c⟩
  | dK kvs => obtain ⟨z, y, vs, r, ob, es, ep, e, c⟩ := x; exact ⟨z, y, vs, r, ob, es, ep, k _ _ (.inl rfl) e, c⟩
  | dT kvs =>
    obtain ⟨z, y, xs, r, ob, es, ep, e, c⟩ := x
    exact ⟨z, y, xs, Paired.mapP r fun p q z => ⟨z.1, ht _ _ z.2.1, z.2.2⟩, ob, es, ep, k _ _ (.inl rfl) e, c⟩
  | set S n => obtain ⟨ob, es, ep, t, e, c⟩ := x; exact ⟨ob, es, ep, t, k _ _ (.inl rfl) e, c⟩
  | ins C dx fs =>
    obtain ⟨d, z, ne, e, mA, ⟨od, es, ep, e2, c⟩, r⟩ := x
    exact ⟨ho _ d, z, ne, k _ _ (.inl rfl) e, mA, ⟨od, es, ep, k _ _ (.inr d) e2, c⟩, r⟩
  | own y => obtain ⟨ob, e⟩ := x; exact ⟨ob, k _ _ (.inl rfl) e⟩
  | xd fs => obtain ⟨mA, ⟨od, es, ep, e, c⟩, r⟩ := x; exact ⟨mA, ⟨od, es, ep, k _ _ (.inl rfl) e, c⟩, r⟩
  | rng lo hi => obtain ⟨t, u, v, e⟩ := x; exact ⟨t, u, v, k _ _ (.inl rfl) e⟩
  | frz ob u ih => obtain ⟨e, q⟩ := x; exact ⟨k _ _ (.inl rfl) e, ih q⟩
  | tbl ps =>
    have e : h.get? a = some { cls := .none, data := .fields ps } := x
    show h'.get? a = some { cls := .none, data := .fields ps }
    exact k a _ (.inl rfl) e
  | met f y =>
    have e : h.get? a = some (PySem.W.methodObj (.ref f) (.ref y)) := x
    show h'.get? a = some (PySem.W.methodObj (.ref f) (.ref y))
    exact k a _ (.inl rfl) e
  | ext φ => obtain ⟨p, ⟨o, e⟩, st⟩ := x; exact ⟨st _ _ p fun o q => k _ _ (.inl rfl) q, ⟨o, k _ _ (.inl rfl) e⟩, st⟩
theorem HOk.lt (x : HOk P w H h) (e : H a = some o) : a < h.objs.size := (x a o e).lt
theorem HOk.fresh (x : HOk P w H h) (e : h.objs.size ≤ a) : H a = none := by
  cases q : H a with
  | none => rfl
  | some u => exact absurd (Nat.lt_of_lt_of_le (x.lt q) e) (Nat.lt_irrefl _)
theorem HOk.kept (x : HOk P w H h) (k : ∀ b u, h.get? b = some u → h'.get? b = some u) : HOk P w H h' := fun a o e =>
  (x a o e).stay (fun b u _ q => k b u q) (fun _ q => q) fun _ _ q => q
theorem HOk.laid (x : HOk P w H h) (k : ∀ b u, h.get? b = some u → h'.get? b = some u) (hp : h.objs.size ≤ a) (new : ObjOk P w (upd H a o) h' a o) : HOk P w (upd H a o) h' := fun b u e => by
  have hn := x.fresh hp
  by_cases hb : b = a
  · subst hb; rw [upd_same] at e; cases e; exact new
  · rw [upd_ne hb] at e
    exact (x b u e).stay (fun c v _ q => k c v q) (fun c q => by rw [upd_ne (ne_of_none q hn)]; exact q) fun c xs q => by rw [upd_ne (ne_of_none q hn)]; exact q
end
def Rd (H : Hp) (a : Addr) (u : HO) : Prop := H a = some u ∨ ∃ o, H a = some (.frz o u)
theorem Rd.ok {P : Program} {w : World} {H : Hp} {h : Heap} {a : Addr} {u : HO} (r : Rd H a u) (x : HOk P w H h) : ObjOk P w H h a u := by
  rcases r with r | ⟨o, r⟩
  · exact x a u r
  · obtain ⟨_, q⟩ := x a _ r
    exact q
def Mut : Option HO → Prop
  | some (.lst _) => True
  | some (.dK _) => True
  | some (.dT _) => True
  | some (.set _ _) => True
  | some (.ins _ _ _) => True
  | some (.ext _) => True
  | _ => False
section
variable {P : Program} {w : World} {H : Hp} {h h' : Heap} {x e : Addr} {o' : HO}
theorem HOk.write (ok : HOk P w H h) (mu : Mut (H x)) (he : e = x ∨ H e = some (.own x)) (k : ∀ b u, b ≠ e → h.get? b = some u → h'.get? b = some u) (heo : ∃ u, h'.get? e = some u)
    (new : ObjOk P w (upd H x o') h' x o') : HOk P w (upd H x o') h' := fun b u q => by
  have nown : ∀ c y, H c = some (.own y) → c ≠ x := fun c y r z => by subst z; rw [r] at mu; exact mu
  have ntup : ∀ c xs, H c = some (.tup xs) → c ≠ x := fun c xs r z => by subst z; rw [r] at mu; exact mu
  by_cases hb : b = x
  · subst hb; rw [upd_same] at q; cases q; exact new
  · rw [upd_ne hb] at q
    by_cases hbe : b = e
    · have q' : H b = some (.own x) := by
        rcases he with z | z
        · exact absurd (hbe.trans z) hb
        · rw [hbe]; exact z
      rw [q] at q'; cases q'
      obtain ⟨v, hv⟩ := heo
      exact ⟨v, by rw [hbe]; exact hv⟩
    · refine (ok b u q).stay (fun c v hc r => k c v ?_ r) (fun c r => by rw [upd_ne (nown c b r)]; exact r) fun c xs r => by rw [upd_ne (ntup c xs r)]; exact r
      rcases hc with rfl | hc
      · exact hbe
      · rintro rfl
        rcases he with z | z
        · exact nown c b hc z
        · rw [hc] at z; cases z; exact hb rfl
end
structure Un (fs ex : List Addr) (H H' : Hp) (h h' : Heap) : Prop where
  keep : ∀ b o, h.get? b = some o → H b = none → b ∉ fs → b ∉ ex → h'.get? b = some o
  slot : ∀ b o, h.get? b = some o → H b = none → b ∈ fs → b ∉ ex → ∃ sl, h'.get? b = some { o with slots := sl }
  free : ∀ b o, h.get? b = some o → H b = none → b ∉ ex → H' b = none
  there : ∀ b o, h.get? b = some o → b ∉ ex → ∃ o', h'.get? b = some o'
  tups : ∀ b xs, H b = some (.tup xs) → H' b = some (.tup xs)
  frzs : ∀ b o u, H b = some (.frz o u) → H' b = some (.frz o u)
  tbls : ∀ b ps, H b = some (.tbl ps) → ∃ more, H' b = some (.tbl (ps ++ more))
section
variable {fs fs' ex ex' : List Addr} {H H1 H2 : Hp} {h h1 h2 h' : Heap} {a x e : Addr} {o : HO}
theorem Un.any (u : Un fs ex H H1 h h1) {b : Addr} {ob : Obj} (q : h.get? b = some ob) (n : H b = none) (hx : b ∉ ex) : ∃ sl, h1.get? b = some { ob with slots := sl } := by
  by_cases hb : b ∈ fs
  · exact u.slot b ob q n hb hx
  · exact ⟨ob.slots, u.keep b ob q n hb hx⟩
theorem Un.kept (k : ∀ b u, h.get? b = some u → h'.get? b = some u) : Un fs ex H H h h' :=
  ⟨fun b ob q _ _ _ => k b ob q, fun b ob q _ _ _ => ⟨ob.slots, k b ob q⟩, fun _ _ _ n _ => n, fun b ob q _ => ⟨ob, k b ob q⟩, fun _ _ q => q, fun _ _ _ q => q, fun _ ps q => ⟨#[], by rw [q]; simp⟩⟩
theorem Un.refl : Un fs ex H H h h := Un.kept fun _ _ q => q
theorem Un.laid (k : ∀ b u, h.get? b = some u → h'.get? b = some u) (hp : h.objs.size ≤ a) (hn : H a = none) : Un fs ex H (upd H a o) h h' where
  keep := fun b u q _ _ _ => k b u q
  slot := fun b u q _ _ _ => ⟨u.slots, k b u q⟩
  free := fun b u q n _ => by rw [upd_ne (Nat.ne_of_lt (Nat.lt_of_lt_of_le (Heap.lt_size q) hp))]; exact n
  there := fun b u q _ => ⟨u, k b u q⟩
  tups := fun b xs q => by rw [upd_ne (ne_of_none q hn)]; exact q
  frzs := fun b u xs q => by rw [upd_ne (ne_of_none q hn)]; exact q
  tbls := fun b ps q => ⟨#[], by rw [upd_ne (ne_of_none q hn), q]; simp⟩
theorem Un.write (mu : Mut (H x)) (he : e = x ∨ H e = some (.own x)) (k : ∀ b u, b ≠ e → h.get? b = some u → h'.get? b = some u) (heo : ∃ u, h'.get? e = some u) : Un fs ex H (upd H x o) h h' := by
  have hx : ∀ b, H b = none → b ≠ x := fun b n z => by subst z; rw [n] at mu; exact mu
  have hb : ∀ b, H b = none → b ≠ e := fun b n z => by
    subst z
    rcases he with r | r
    · exact hx b n r
    · rw [n] at r; cases r
  have hm : ∀ b u, H b = some u → ¬ Mut (some u) → b ≠ x := fun b u q nm z => by subst z; rw [q] at mu; exact nm mu
  refine ⟨fun b u q n _ _ => k b u (hb b n) q, fun b u q n _ _ => ⟨u.slots, k b u (hb b n) q⟩, fun b u q n _ => by rw [upd_ne (hx b n)]; exact n, fun b u q _ => ?_,
    fun b xs q => by rw [upd_ne (hm b _ q fun z => z)]; exact q, fun b u xs q => by rw [upd_ne (hm b _ q fun z => z)]; exact q, fun b ps q => ⟨#[], by rw [upd_ne (hm b _ q fun z => z), q]; simp⟩⟩
  by_cases hbe : b = e
  · subst hbe; exact heo
  · exact ⟨u, k b u hbe q⟩
end
def trk (h : Heap) (H : Hp) : List Addr := (List.range h.objs.size).filter fun a => (H a).isSome
def hidT (h : Heap) (H : Hp) : Heap := PySem.W.hideAll h (trk h H)
theorem hidT_size (h : Heap) (H : Hp) : (hidT h H).objs.size = h.objs.size := PySem.W.hideAll_size _ _
theorem hidT_get {h : Heap} {H : Hp} {b : Addr} {o : Obj} (e : h.get? b = some o) (n : H b = none) : (hidT h H).get? b = some o :=
  PySem.W.hideAll_get _ e fun hm => by
    have q : (H b).isSome = true := (List.mem_filter.mp hm).2
    rw [n] at q; simp at q
theorem of_hidT {h : Heap} {H : Hp} {b : Addr} {o : Obj} (e : (hidT h H).get? b = some o) : h.get? b = some o ∧ H b = none := by
  have e' : h.get? b = some o := PySem.W.of_hideAll (trk h H) e
  refine ⟨e', ?_⟩
  cases q : H b with
  | none => rfl
  | some x =>
    have hm : b ∈ trk h H := List.mem_filter.mpr ⟨List.mem_range.mpr (Heap.lt_size e'), by simp [q]⟩
    have z : (hidT h H).get? b = none := PySem.W.hideAll_none (trk h H) hm
    rw [z] at e; cases e
def allNews (g h : Heap) (L : Addr) : List (Addr × Obj) := (List.range h.objs.size).filterMap fun a => if a = L ∨ (g.get? a).isSome = true then none else (h.get? a).map fun o => (a, o)
def rest (g h : Heap) (L d : Addr) : List (Addr × Obj) := (allNews g h L).filter fun p => decide (p.1 ≠ d)
end L2
namespace L2
open PySem PySem.Spec PyProof.Rows
structure Mod (K : PySem.W.Frag) (mg : Str → Option Value) (base : Heap) : Prop where
  kin : K.In base
  glob : base.Ns mainGlobals mg
  blt : ∃ mb, base.Ns builtinsNs mb ∧ ∀ x : Str, x ≠ "__name__" → mb x = bootBuiltins x
  nolimit : base.NoLimit
structure Cx where
  prog : Program
  w : World
  K : PySem.W.Frag
  mg : Str → Option Value
  base : Heap
  A : Around
  N : List Str
  s₀ : Shared
  H₀ : Hp
  env : Env
  outer : List Env
  stack : List Env
  ex : List Addr
  fn : Str → Bool
  calm : Bool
  pn : List (Addr × Obj)
  xe : Value → Shared → Prop
def frs (l : List Env) : List Addr := l.filterMap (·.frame)
abbrev Cx.fs (X : Cx) : List Addr := frs X.outer
def Vis (sc : Scope) (x : Str) : Prop := sc.names.lookup x = some .local ∨ sc.names.lookup x = some .cell ∨ sc.names.lookup x = some .free
def Loc (sc : Scope) (x : Str) : Prop := sc.names.lookup x = some .local ∨ sc.names.lookup x = some .cell
def Look (env : Env) (h : Heap) (m : Str → Option Value) (x : Str) (u : Value) : Prop :=
  (env.kindOf x = some .local ∧ m x = some u) ∨ ((env.kindOf x = some .cell ∨ env.kindOf x = some .free) ∧ ∃ c, env.cells.lookup x = some c ∧ h.IsCell c (some u))
structure Cx.Ok (X : Cx) : Prop where
  mod : Mod X.K X.mg X.base
  kind : X.env.scope.kind = .function
  glob : X.env.globals = mainGlobals
  blt : X.env.builtins = builtinsNs
  above : X.s₀.heap.objs.size ≤ X.env.locals
  inj : ∀ x y c, X.env.cells.lookup x = some c → X.env.cells.lookup y = some c → x = y
  has : ∀ x, (X.env.kindOf x = some .cell ∨ X.env.kindOf x = some .free) → ∃ c, X.env.cells.lookup x = some c
  cab : ∀ x c, X.fn x = true → X.env.cells.lookup x = some c → X.s₀.heap.objs.size ≤ c
  hd : X.calm = true → X.A.handled = none
  frames : X.A.frames = some X.stack
  stk : X.stack = X.outer ∨ (X.stack = X.env :: X.outer ∧ X.env.frame = some X.env.locals)
  exf : ∀ b ∈ X.ex, b ≠ X.env.locals ∧ ∀ x c, X.env.cells.lookup x = some c → c ≠ b
  bs : ∀ b o, X.base.get? b = some o → X.s₀.heap.get? b = some o ∧ X.H₀ b = none
  bsz : X.base.objs.size ≤ X.s₀.heap.objs.size
  noex : ∀ b o, X.base.get? b = some o → b ∉ X.ex
  exfs : ∀ b ∈ X.ex, b ∉ X.fs
  funs : X.s₀.heap.FunFrames X.base X.outer
  frf : ∀ b ∈ X.fs, X.H₀ b = none
structure Inv (X : Cx) (pins : List (Addr × Obj)) (σ : List (Option V)) (H : Hp) (s : Shared) : Prop where
  ok : X.Ok
  os : s.os = X.s₀.os
  bare : AllBare s.gens
  base : Un X.fs X.ex X.H₀ H X.s₀.heap s.heap
  loc : ∃ m, s.heap.Ns X.env.locals m ∧ ∀ (i : Nat) (x : Str) (v : V), X.N[i]? = some x → σ[i]? = some (some v) → Vis X.env.scope x → ∃ u, RelV v u ∧ Look X.env s.heap m x u
  cell : ∀ x c, X.env.cells.lookup x = some c → ∃ v, s.heap.IsCell c v
  free : H X.env.locals = none
  freeC : ∀ x c, X.env.cells.lookup x = some c → H c = none
  pin : ∀ p ∈ X.pn ++ pins, s.heap.get? p.1 = some p.2 ∧ H p.1 = none ∧ p.1 ≠ X.env.locals ∧ p.1 ∉ X.fs ∧ ∀ v, p.2.data ≠ .cell v
  hok : HOk X.prog X.w H s.heap
  len : σ.length = X.N.length
section
variable {X : Cx} {pins : List (Addr × Obj)} {σ : List (Option V)} {H H' : Hp} {s : Shared} {h' : Heap}
theorem Cx.Ok.nofr (ok : X.Ok) {b : Addr} {o : Obj} (e : X.base.get? b = some o) : b ∉ X.fs := fun hb => by
  have := (ok.funs.mem hb).1
  rw [e] at this; cases this
theorem Inv.bs (I : Inv X pins σ H s) : ∀ b o, X.base.get? b = some o → s.heap.get? b = some o ∧ H b = none := fun b o e =>
  ⟨I.base.keep b o (I.ok.bs b o e).1 (I.ok.bs b o e).2 (I.ok.nofr e) (I.ok.noex b o e), I.base.free b o (I.ok.bs b o e).1 (I.ok.bs b o e).2 (I.ok.noex b o e)⟩
theorem Inv.bk (I : Inv X pins σ H s) : ∀ b o, X.base.get? b = some o → s.heap.get? b = some o := fun b o e => (I.bs b o e).1
theorem Inv.mod (I : Inv X pins σ H s) : Mod X.K X.mg X.base := I.ok.mod
theorem Inv.kIn (I : Inv X pins σ H s) : X.K.In s.heap := I.ok.mod.kin.keeps I.bk
theorem Inv.lt (I : Inv X pins σ H s) : X.env.locals < s.heap.objs.size := let ⟨_, hn, _⟩ := I.loc; hn.lt
theorem Inv.sz (I : Inv X pins σ H s) : X.s₀.heap.objs.size ≤ s.heap.objs.size := Nat.le_trans I.ok.above (Nat.le_of_lt I.lt)
theorem Inv.nofs (I : Inv X pins σ H s) {a : Addr} (h : s.heap.objs.size ≤ a) : a ∉ X.fs := fun hb => by
  obtain ⟨_, o, ho, _⟩ := I.ok.funs.mem hb
  exact absurd (Nat.lt_of_lt_of_le (Heap.lt_size ho) (Nat.le_trans I.sz h)) (Nat.lt_irrefl _)
theorem Inv.cne (I : Inv X pins σ H s) : ∀ x c, X.env.cells.lookup x = some c → c ≠ X.env.locals := fun x c e z => by
  obtain ⟨v, o, ho, hd⟩ := I.cell x c e
  obtain ⟨m, ⟨o', es, ep, ho', hd', _⟩, _⟩ := I.loc
  rw [z, ho'] at ho; cases ho; rw [hd'] at hd; cases hd
theorem Inv.funs (I : Inv X pins σ H s) : s.heap.FunFrames X.base X.outer := by
  have all : ∀ (l : List Env), (∀ b ∈ frs l, b ∈ X.fs) → X.s₀.heap.FunFrames X.base l → s.heap.FunFrames X.base l := by
    intro l
    induction l with
    | nil => intro _ _; trivial
    | cons env r ih =>
      intro hs hl
      obtain ⟨hk, ⟨L, o, hf, hn, ho, hd⟩, hr⟩ := hl
      have hL : L ∈ X.fs := hs L (by unfold frs; rw [List.filterMap_cons, hf]; exact List.mem_cons_self)
      obtain ⟨sl, e⟩ := I.base.slot L o ho (I.ok.frf L hL) hL fun z => I.ok.exfs L z hL
      exact ⟨hk, ⟨L, _, hf, hn, e, hd⟩, ih (fun b hb => hs b (by unfold frs; rw [List.filterMap_cons, hf]; exact List.mem_cons_of_mem _ hb)) hr⟩
  exact all X.outer (fun _ hb => hb) I.ok.funs
theorem Inv.stack (I : Inv X pins σ H s) : s.heap.FunFrames X.base X.stack := by
  rcases I.ok.stk with e | ⟨e, hf⟩
  · rw [e]; exact I.funs
  · rw [e]
    obtain ⟨m, hn, _⟩ := I.loc
    refine .cons (by rw [I.ok.kind]; decide) hf hn ?_ I.funs
    exact Heap.get?_none_of_le (Nat.le_trans I.ok.bsz I.ok.above)
theorem Inv.stkSub (I : Inv X pins σ H s) : ∀ b ∈ frs X.stack, b ∈ X.env.locals :: X.fs := fun b hb => by
  rcases I.ok.stk with e | ⟨e, hf⟩
  · rw [e] at hb; exact List.mem_cons_of_mem _ hb
  · rw [e] at hb
    unfold frs at hb
    rw [List.filterMap_cons, hf] at hb
    exact hb
theorem Inv.stkFree (I : Inv X pins σ H s) : ∀ b ∈ frs X.stack, H b = none := fun b hb => by
  rcases List.mem_cons.mp (I.stkSub b hb) with e | hb
  · rw [e]; exact I.free
  · obtain ⟨_, o, ho, _⟩ := I.ok.funs.mem hb
    exact I.base.free b o ho (I.ok.frf b hb) fun z => I.ok.exfs b z hb
theorem Inv.step {g' : Array GenState} {t' : Nat} {d' : Drawn} {ch : List Addr} (I : Inv X pins σ H s)
    (hch : ∀ b ∈ ch, (b ∈ X.ex ∨ X.s₀.heap.objs.size ≤ b) ∧ b ≠ X.env.locals ∧ (∀ x c, X.env.cells.lookup x = some c → c ≠ b) ∧ ∀ p ∈ X.pn ++ pins, p.1 ≠ b)
    (keep : ∀ b o, b ≠ X.env.locals → b ∉ X.fs → b ∉ ch → s.heap.get? b = some o → H b = none → h'.get? b = some o)
    (slot : ∀ b o, b ≠ X.env.locals → b ∈ X.fs → b ∉ ch → s.heap.get? b = some o → H b = none → ∃ sl, h'.get? b = some { o with slots := sl }) (free : ∀ b o, b ∉ ch → s.heap.get? b = some o → H b = none → H' b = none)
    (there : ∀ b o, b ∉ ch → s.heap.get? b = some o → ∃ o', h'.get? b = some o')
    (tups : ∀ b xs, H b = some (.tup xs) → H' b = some (.tup xs)) (frzs : ∀ b o u, H b = some (.frz o u) → H' b = some (.frz o u)) (tbls : ∀ b ps, H b = some (.tbl ps) → ∃ more, H' b = some (.tbl (ps ++ more)))
    (ns : ∀ m, s.heap.Ns X.env.locals m → h'.Ns X.env.locals m) (hok : HOk X.prog X.w H' h') (hg : AllBare g') :
    Inv X pins σ H' { s with heap := h', gens := g', drawn := d', toks := t' } := by
  have neL : ∀ b o, X.s₀.heap.get? b = some o → b ≠ X.env.locals := fun b o e => Nat.ne_of_lt (Nat.lt_of_lt_of_le (Heap.lt_size e) I.ok.above)
  have neC : ∀ b o, X.s₀.heap.get? b = some o → b ∉ X.ex → b ∉ ch := fun b o e hx hb => by
    rcases (hch b hb).1 with z | z
    · exact hx z
    · exact absurd (Nat.lt_of_lt_of_le (Heap.lt_size e) z) (Nat.lt_irrefl _)
  have cellK : ∀ x c, X.env.cells.lookup x = some c → ∀ v, s.heap.IsCell c v → h'.IsCell c v := fun x c e v ⟨o, ho, hd⟩ => by
    have nch : c ∉ ch := fun z => (hch c z).2.2.1 x c e rfl
    by_cases hc : c ∈ X.fs
    · obtain ⟨sl, q⟩ := slot c o (I.cne x c e) hc nch ho (I.freeC x c e)
      exact ⟨_, q, hd⟩
    · exact ⟨o, keep c o (I.cne x c e) hc nch ho (I.freeC x c e), hd⟩
  refine ⟨I.ok, I.os, hg, ⟨fun b o e n hb hx => ?_, fun b o e n hb hx => ?_, fun b o e n hx => ?_, fun b o e hx => ?_, fun b xs e => tups b xs (I.base.tups b xs e), fun b o xs e => frzs b o xs (I.base.frzs b o xs e), fun b ps e => ?_⟩, ?_, fun x c e => ?_, ?_, fun x c e => ?_, fun p hp => ?_, hok, I.len⟩
  · exact keep b o (neL b o e) hb (neC b o e hx) (I.base.keep b o e n hb hx) (I.base.free b o e n hx)
  · obtain ⟨sl, e1⟩ := I.base.slot b o e n hb hx
    obtain ⟨sl', e2⟩ := slot b _ (neL b o e) hb (neC b o e hx) e1 (I.base.free b o e n hx)
    exact ⟨sl', e2⟩
  · obtain ⟨o', e1⟩ := I.base.there b o e hx
    exact free b o' (neC b o e hx) e1 (I.base.free b o e n hx)
  · obtain ⟨o', e1⟩ := I.base.there b o e hx
    exact there b o' (neC b o e hx) e1
  · obtain ⟨m1, e1⟩ := I.base.tbls b ps e
    obtain ⟨m2, e2⟩ := tbls b _ e1
    exact ⟨m1 ++ m2, by rw [e2, Array.append_assoc]⟩
  · obtain ⟨m, hn, hl⟩ := I.loc
    refine ⟨m, ns m hn, fun i x v e1 e2 e3 => ?_⟩
    obtain ⟨u, r, l⟩ := hl i x v e1 e2 e3
    refine ⟨u, r, ?_⟩
    rcases l with l | ⟨k, c, e, z⟩
    · exact .inl l
    · exact .inr ⟨k, c, e, cellK x c e _ z⟩
  · obtain ⟨v, z⟩ := I.cell x c e
    exact ⟨v, cellK x c e v z⟩
  · obtain ⟨m, ⟨o, _, _, ho, _⟩, _⟩ := I.loc
    exact free _ o (fun z => (hch _ z).2.1 rfl) ho I.free
  · obtain ⟨v, o, ho, hd⟩ := I.cell x c e
    exact free c o (fun z => (hch c z).2.2.1 x c e rfl) ho (I.freeC x c e)
  · obtain ⟨e, n, ne, nf, d⟩ := I.pin p hp
    have nch : p.1 ∉ ch := fun z => (hch p.1 z).2.2.2 p hp rfl
    exact ⟨keep p.1 p.2 ne nf nch e n, free p.1 p.2 nch e n, ne, nf, d⟩
theorem Inv.un {t' : Nat} (I : Inv X pins σ H s) (u : Un X.fs [] H H' s.heap h') (hok : HOk X.prog X.w H' h') : Inv X pins σ H' { s with heap := h', toks := t' } := by
  obtain ⟨m, ⟨o, es, ep, ho, r⟩, _⟩ := id I.loc
  obtain ⟨sl, hL⟩ := u.any ho I.free (by simp)
  exact I.step (g' := s.gens) (d' := s.drawn) (ch := []) (fun _ z => nomatch z) (fun b o _ hb _ e n => u.keep b o e n hb (by simp)) (fun b o _ hb _ e n => u.slot b o e n hb (by simp)) (fun b o _ e n => u.free b o e n (by simp)) (fun b o _ e => u.there b o e (by simp)) u.tups u.frzs u.tbls (fun m' hm => by
    obtain ⟨o', es', ep', ho', r'⟩ := hm
    rw [ho] at ho'; cases ho'
    exact ⟨_, es', ep', hL, r'⟩) hok I.bare
theorem Inv.call {g' : Array GenState} {t' : Nat} {d' : Drawn} {ch : List Addr} (I : Inv X pins σ H s) (u : Un (frs X.stack) ch H H' s.heap h') (hok : HOk X.prog X.w H' h') (hg : AllBare g')
    (hch : ∀ b ∈ ch, (b ∈ X.ex ∨ X.s₀.heap.objs.size ≤ b) ∧ b ≠ X.env.locals ∧ (∀ x c, X.env.cells.lookup x = some c → c ≠ b) ∧ ∀ p ∈ X.pn ++ pins, p.1 ≠ b) :
    Inv X pins σ H' { s with heap := h', gens := g', drawn := d', toks := t' } := by
  obtain ⟨m, ⟨o, es, ep, ho, r⟩, _⟩ := id I.loc
  obtain ⟨sl, hL⟩ := u.any ho I.free fun z => (hch _ z).2.1 rfl
  exact I.step (ch := ch) hch (fun b o hL hb hc e n => u.keep b o e n (fun z => (List.mem_cons.mp (I.stkSub b z)).elim hL hb) hc) (fun b o _ _ hc e n => u.any e n hc) (fun b o hc e n => u.free b o e n hc) (fun b o hc e => u.there b o e hc) u.tups u.frzs u.tbls (fun m' hm => by
    obtain ⟨o', es', ep', ho', r'⟩ := hm
    rw [ho] at ho'; cases ho'
    exact ⟨_, es', ep', hL, r'⟩) hok hg
theorem Inv.turned {t' : Nat} {it : Addr} (I : Inv X pins σ H s) (k : ∀ b o, b ≠ it → s.heap.get? b = some o → h'.get? b = some o) (hn : H it = none) (hL : it ≠ X.env.locals)
    (h1 : it ∈ X.ex ∨ X.s₀.heap.objs.size ≤ it) (h2 : ∀ x c, X.env.cells.lookup x = some c → c ≠ it) (h3 : ∀ p ∈ X.pn ++ pins, p.1 ≠ it) : Inv X pins σ H { s with heap := h', toks := t' } := by
  have nit : ∀ b u, H b = some u → b ≠ it := fun b u e z => by rw [z, hn] at e; cases e
  refine I.step (g' := s.gens) (d' := s.drawn) (ch := [it]) (fun b hb => ?_) (fun b o _ _ hc e _ => k b o (fun z => hc (by simp [z])) e) (fun b o _ _ hc e _ => ⟨o.slots, k b o (fun z => hc (by simp [z])) e⟩) (fun _ _ _ _ n => n)
    (fun b o hc e => ⟨o, k b o (fun z => hc (by simp [z])) e⟩) (fun _ _ e => e) (fun _ _ _ e => e) (fun b ps e => ⟨#[], by rw [e]; simp⟩) (fun m hm => ?_) (fun b u e => ?_) I.bare
  · have e : b = it := by simpa using hb
    subst e
    exact ⟨h1, hL, h2, h3⟩
  · obtain ⟨o, es, ep, ho, r⟩ := hm
    exact ⟨o, es, ep, k _ o (Ne.symm hL) ho, r⟩
  · refine (I.hok b u e).stay (fun c v hc q => k c v ?_ q) (fun _ q => q) fun _ _ q => q
    rcases hc with z | z
    · rw [z]; exact nit b u e
    · exact nit c _ z
theorem Inv.tok (I : Inv X pins σ H s) (t : Nat) : Inv X pins σ H { s with toks := t } := I.un (h' := s.heap) (t' := t) Un.refl I.hok
theorem Inv.kept {t' : Nat} (I : Inv X pins σ H s) (k : ∀ b u, s.heap.get? b = some u → h'.get? b = some u) : Inv X pins σ H { s with heap := h', toks := t' } := I.un (Un.kept k) (I.hok.kept k)
theorem Inv.laid {a : Addr} {o : HO} {t' : Nat} (I : Inv X pins σ H s) (k : ∀ b u, s.heap.get? b = some u → h'.get? b = some u) (hp : s.heap.objs.size ≤ a) (new : ObjOk X.prog X.w (upd H a o) h' a o) :
    Inv X pins σ (upd H a o) { s with heap := h', toks := t' } := I.un (Un.laid k hp (I.hok.fresh hp)) (I.hok.laid k hp new)
theorem Inv.write {x e : Addr} {o : HO} {t' : Nat} (I : Inv X pins σ H s) (mu : Mut (H x)) (he : e = x ∨ H e = some (.own x)) (k : ∀ b u, b ≠ e → s.heap.get? b = some u → h'.get? b = some u) (heo : ∃ u, h'.get? e = some u)
    (new : ObjOk X.prog X.w (upd H x o) h' x o) : Inv X pins σ (upd H x o) { s with heap := h', toks := t' } := I.un (Un.write mu he k heo) (I.hok.write mu he k heo new)
theorem Inv.weak {σ' : List (Option V)} (I : Inv X pins σ H s) (hl : σ'.length = σ.length) (w : ∀ (i : Nat) v, σ'[i]? = some (some v) → σ[i]? = some (some v)) : Inv X pins σ' H s :=
  ⟨I.ok, I.os, I.bare, I.base, let ⟨m, hn, hl'⟩ := I.loc; ⟨m, hn, fun i x v e1 e2 e3 => hl' i x v e1 (w i v e2) e3⟩, I.cell, I.free, I.freeC, I.pin, I.hok, hl.trans I.len⟩
theorem Inv.pins_of {pins' : List (Addr × Obj)} (I : Inv X pins σ H s) (h : ∀ p ∈ pins', s.heap.get? p.1 = some p.2 ∧ H p.1 = none ∧ p.1 ≠ X.env.locals ∧ p.1 ∉ X.fs ∧ ∀ v, p.2.data ≠ .cell v) : Inv X pins' σ H s :=
  ⟨I.ok, I.os, I.bare, I.base, I.loc, I.cell, I.free, I.freeC, fun p hp => (List.mem_append.mp hp).elim (fun z => I.pin p (List.mem_append_left _ z)) (h p), I.hok, I.len⟩
theorem nodup_ix {N : List Str} (hN : N.Nodup) {i j : Nat} {x : Str} (a : N[i]? = some x) (b : N[j]? = some x) : i = j := by
  obtain ⟨h1, e1⟩ := List.getElem?_eq_some_iff.mp a
  obtain ⟨h2, e2⟩ := List.getElem?_eq_some_iff.mp b
  exact (List.getElem_inj hN).mp (e1.trans e2.symm)
theorem store_ok2 {M : Model} {A : Around} {E : Value → Shared → Prop} {i : Nat} {x : Str} {v : V} {u : Value} {Q : Unit → Shared → Prop} (I : Inv X pins σ H s) (hN : X.N.Nodup) (hi : X.N[i]? = some x) (hx : Loc X.env.scope x) (r : RelV v u)
    (h : ∀ s', Inv X pins (σ.set i (some v)) H s' → (∃ a, Heap.SameBut a s.heap s'.heap ∧ (a = X.env.locals ∨ X.env.cells.lookup x = some a)) → Q () s') (hf : X.fn x = true ∨ X.env.scope.names.lookup x = some .local := by first | exact .inl rfl | exact .inr rfl | assumption) : wpAny M A (storeName X.env x u) Q E s := by
  obtain ⟨m, hn, hl⟩ := id I.loc
  have hcls : (X.env.scope.kind == .class || (X.env.scope.kind == .module && X.env.locals != X.env.globals)) = false := by rw [I.ok.kind]; rfl
  have hiσ : i < σ.length := by rw [I.len]; exact (List.getElem?_eq_some_iff.mp hi).1
  have cne := I.cne
  have tracked : ∀ {a : Addr} {h' : Heap}, (∃ o, s.heap.get? a = some o ∧ H a = none) → Heap.SameBut a s.heap h' → HOk X.prog X.w H h' := fun {a h'} ha hs b ob e => by
    obtain ⟨_, _, hfree⟩ := ha
    refine (I.hok b ob e).stay (fun c w' hc q => (hs.2 c ?_).trans q) (fun _ q => q) fun _ _ q => q
    rintro rfl
    rcases hc with rfl | hc
    · rw [hfree] at e; cases e
    · rw [hfree] at hc; cases hc
  rcases hx with hk | hk
  · refine wpAny_storeName_local hk hn (fun h' hn' hs => ?_) hcls
    obtain ⟨oL, _, _, hoL, _⟩ := id hn
    refine h _ ⟨I.ok, I.os, I.bare, ⟨fun b o e n hb hx => ?_, fun b o e n hb hx => ?_, I.base.free, fun b o e hx => ?_, I.base.tups, I.base.frzs, I.base.tbls⟩, ⟨_, hn', fun j y v' e1 e2 e3 => ?_⟩, fun y c e => ?_, I.free, I.freeC, fun p hp => ?_, tracked ⟨oL, hoL, I.free⟩ hs, by simpa using I.len⟩ ⟨_, hs, .inl rfl⟩
    · exact (hs.2 b (Nat.ne_of_lt (Nat.lt_of_lt_of_le (Heap.lt_size e) I.ok.above))).trans (I.base.keep b o e n hb hx)
    · obtain ⟨sl, e1⟩ := I.base.slot b o e n hb hx
      exact ⟨sl, (hs.2 b (Nat.ne_of_lt (Nat.lt_of_lt_of_le (Heap.lt_size e) I.ok.above))).trans e1⟩
    · obtain ⟨o', e1⟩ := I.base.there b o e hx
      exact ⟨o', (hs.2 b (Nat.ne_of_lt (Nat.lt_of_lt_of_le (Heap.lt_size e) I.ok.above))).trans e1⟩
    · by_cases hj : j = i
      · subst hj
        rw [hi] at e1; cases e1
        rw [List.getElem?_set_self hiσ] at e2
        cases e2
        exact ⟨u, r, .inl ⟨hk, by simp⟩⟩
      · rw [List.getElem?_set_ne (Ne.symm hj)] at e2
        obtain ⟨u', r', q⟩ := hl j y v' e1 e2 e3
        refine ⟨u', r', ?_⟩
        rcases q with ⟨k, e⟩ | ⟨k, c, e, z⟩
        · refine .inl ⟨k, ?_⟩
          have : y ≠ x := fun e => hj (nodup_ix hN e1 (e ▸ hi))
          simp [this, e]
        · exact .inr ⟨k, c, e, z.sameBut hs (cne y c e)⟩
    · obtain ⟨w', z⟩ := I.cell y c e
      exact ⟨w', z.sameBut hs (cne y c e)⟩
    · obtain ⟨e, n, ne, nf, d⟩ := I.pin p hp
      exact ⟨(hs.2 p.1 ne).trans e, n, ne, nf, d⟩
  · have hfn : X.fn x = true := by
      rcases hf with z | z
      · exact z
      · rw [z] at hk; cases hk
    obtain ⟨c, hc⟩ := I.ok.has x (.inl hk)
    obtain ⟨w', z⟩ := I.cell x c hc
    refine wpAny_storeName_cell I.ok.kind hk hc z (fun h' hc' hs => ?_)
    obtain ⟨oc, hoc, hocd⟩ := id z
    refine h { s with heap := h' } ⟨I.ok, I.os, I.bare, ⟨fun b o e n hb hx => ?_, fun b o e n hb hx => ?_, I.base.free, fun b o e hx => ?_, I.base.tups, I.base.frzs, I.base.tbls⟩, ⟨m, hn.sameBut hs (Ne.symm (cne x c hc)), fun j y v' e1 e2 e3 => ?_⟩, fun y c' e => ?_, I.free, I.freeC, fun p hp => ?_, tracked ⟨oc, hoc, I.freeC x c hc⟩ hs, by simpa using I.len⟩ ⟨c, hs, .inr hc⟩
    · exact (hs.2 b (Nat.ne_of_lt (Nat.lt_of_lt_of_le (Heap.lt_size e) (I.ok.cab x c hfn hc)))).trans (I.base.keep b o e n hb hx)
    · obtain ⟨sl, e1⟩ := I.base.slot b o e n hb hx
      exact ⟨sl, (hs.2 b (Nat.ne_of_lt (Nat.lt_of_lt_of_le (Heap.lt_size e) (I.ok.cab x c hfn hc)))).trans e1⟩
    · obtain ⟨o', e1⟩ := I.base.there b o e hx
      exact ⟨o', (hs.2 b (Nat.ne_of_lt (Nat.lt_of_lt_of_le (Heap.lt_size e) (I.ok.cab x c hfn hc)))).trans e1⟩
    · by_cases hj : j = i
      · subst hj
        rw [hi] at e1; cases e1
        rw [List.getElem?_set_self hiσ] at e2
        cases e2
        exact ⟨u, r, .inr ⟨.inl hk, c, hc, hc'⟩⟩
      · rw [List.getElem?_set_ne (Ne.symm hj)] at e2
        obtain ⟨u', r', q⟩ := hl j y v' e1 e2 e3
        refine ⟨u', r', ?_⟩
        rcases q with q | ⟨k, c', e, z'⟩
        · exact .inl q
        · refine .inr ⟨k, c', e, z'.sameBut hs ?_⟩
          rintro rfl
          exact hj (nodup_ix hN e1 (I.ok.inj _ _ _ e hc ▸ hi))
    · by_cases hcc : c' = c
      · subst hcc; exact ⟨_, hc'⟩
      · obtain ⟨w2, z2⟩ := I.cell y c' e
        exact ⟨w2, z2.sameBut hs hcc⟩
    · obtain ⟨e, n, ne, nf, d⟩ := I.pin p hp
      refine ⟨(hs.2 p.1 ?_).trans e, n, ne, nf, d⟩
      intro q
      rw [q, hoc] at e
      have q' : oc = p.2 := Option.some.inj e
      exact d w' (by rw [← q']; exact hocd)
theorem store_ok {M : Model} {A : Around} {E : Value → Shared → Prop} {i : Nat} {x : Str} {v : V} {u : Value} {Q : Unit → Shared → Prop} (I : Inv X pins σ H s) (hN : X.N.Nodup) (hi : X.N[i]? = some x) (hx : Loc X.env.scope x) (r : RelV v u)
    (h : ∀ s', Inv X pins (σ.set i (some v)) H s' → Q () s') (hf : X.fn x = true ∨ X.env.scope.names.lookup x = some .local := by first | exact .inl rfl | exact .inr rfl | assumption) : wpAny M A (storeName X.env x u) Q E s :=
  store_ok2 I hN hi hx r (fun s' I' _ => h s' I') hf
theorem Inv.call' {s' : Shared} {ch : List Addr} (I : Inv X pins σ H s) (ho : s'.os = s.os) (u : Un (frs X.stack) ch H H' s.heap s'.heap) (hok : HOk X.prog X.w H' s'.heap) (hg : AllBare s'.gens)
    (hch : ∀ b ∈ ch, (b ∈ X.ex ∨ X.s₀.heap.objs.size ≤ b) ∧ b ≠ X.env.locals ∧ (∀ x c, X.env.cells.lookup x = some c → c ≠ b) ∧ ∀ p ∈ X.pn ++ pins, p.1 ≠ b) : Inv X pins σ H' s' := by
  obtain ⟨h', g', d', t', o'⟩ := s'
  have e : o' = s.os := ho
  subst e
  exact I.call (g' := g') (t' := t') (d' := d') u hok hg hch
end
abbrev XK := Value → Option Addr → Hp → Prop
abbrev St := List (Option V)
abbrev VK := V → Hp → Prop
abbrev TE := St → Hp → VK → Prop
abbrev TT := St → Hp → (Bool → Hp → Prop) → Prop
abbrev TA := St → Hp → (List V → Hp → Prop) → Prop
structure Ends where
  nx : St → Hp → Prop
  rt : VK
  bk : St → Hp → Prop := fun _ _ => False
  ct : St → Hp → Prop := fun _ _ => False
abbrev TS := Ends → St → Hp → Prop
def EP (X : Cx) (pins : List (Addr × Obj)) (σ : St) (Q : VK) (u : Value) (s' : Shared) : Prop := ∃ v H', Inv X pins σ H' s' ∧ RelV v u ∧ Q v H'
def TP (X : Cx) (pins : List (Addr × Obj)) (σ : St) (Q : Bool → Hp → Prop) (b : Bool) (s' : Shared) : Prop := ∃ H', Inv X pins σ H' s' ∧ Q b H'
def AP (X : Cx) (pins : List (Addr × Obj)) (σ : St) (Q : List V → Hp → Prop) (us : List Value) (s' : Shared) : Prop := ∃ vs H', Inv X pins σ H' s' ∧ Vals vs us ∧ Q vs H'
def SP (X : Cx) (pins : List (Addr × Obj)) (D : Ends) (f : Flow) (s' : Shared) : Prop :=
  match f with
  | .next => ∃ σ' H', Inv X pins σ' H' s' ∧ D.nx σ' H'
  | .brk => ∃ σ' H', Inv X pins σ' H' s' ∧ D.bk σ' H'
  | .cont => ∃ σ' H', Inv X pins σ' H' s' ∧ D.ct σ' H'
  | .ret u => ∃ v σ' H', Inv X pins σ' H' s' ∧ RelV v u ∧ D.rt v H'
def PE (X : Cx) (e : Expr) (t : TE) : Prop :=
  ∀ (pins : List (Addr × Obj)) (s : Shared) (σ : St) (H : Hp) (Q : VK), Inv X pins σ H s → t σ H Q → wpAny (model X.prog X.w) X.A (eval e X.env) (EP X pins σ Q) X.xe s
def PT (X : Cx) (e : Expr) (t : TT) : Prop :=
  ∀ (pins : List (Addr × Obj)) (s : Shared) (σ : St) (H : Hp) (Q : Bool → Hp → Prop), Inv X pins σ H s → t σ H Q → wpAny (model X.prog X.w) X.A (isTrue e X.env (eval e X.env)) (TP X pins σ Q) X.xe s
def PW (X : Cx) (e : Expr) (t : TT) : Prop :=
  ∀ (whole : Sem Value) (pins : List (Addr × Obj)) (s : Shared) (σ : St) (H : Hp) (Q : Bool → Hp → Prop), Inv X pins σ H s → t σ H Q → wpAny (model X.prog X.w) X.A (isTrue e X.env whole) (TP X pins σ Q) X.xe s
theorem PW.pt {X : Cx} {e : Expr} {t : TT} (h : PW X e t) : PT X e t := h _
def PA (X : Cx) (es : List Expr) (t : TA) : Prop :=
  ∀ (pos : Pos) (pins : List (Addr × Obj)) (s : Shared) (σ : St) (H : Hp) (Q : List V → Hp → Prop), Inv X pins σ H s → t σ H Q → wpAny (model X.prog X.w) X.A (spliced (backTo pos (starEach es X.env))) (AP X pins σ Q) X.xe s
def PS (X : Cx) (st : Stmt) (t : TS) : Prop :=
  ∀ (pins : List (Addr × Obj)) (s : Shared) (σ : St) (H : Hp) (D : Ends), Inv X pins σ H s → t D σ H → wpAny (model X.prog X.w) X.A (exec st X.env) (SP X pins D) X.xe s
def PSs (X : Cx) (st : List Stmt) (t : TS) : Prop :=
  ∀ (pins : List (Addr × Obj)) (s : Shared) (σ : St) (H : Hp) (D : Ends), Inv X pins σ H s → t D σ H → wpAny (model X.prog X.w) X.A (execs st X.env) (SP X pins D) X.xe s
theorem thn {α : Type} {t : Sem α} {Q Q' : α → Shared → Prop} {M : Model} {A : Around} {E : Value → Shared → Prop} {s : Shared} (h : wpAny M A t Q E s) (hQ : ∀ a s, Q a s → Q' a s) : wpAny M A t Q' E s := wpAny_mono h hQ fun _ _ x => x
end L2
namespace L2
open PySem PySem.Spec PyProof.Rows
section
variable {X : Cx}
def tVar (i : Nat) : TE := fun σ H Q => ∃ v, σ[i]? = some (some v) ∧ Q v H
def tC (v : V) : TE := fun _ H Q => Q v H
theorem pe_var {i : Nat} {x : Str} {pos : Pos} (hN : X.N[i]? = some x) (hv : Vis X.env.scope x) (hd : (x == ("__debug__" : Str)) = false := by decide) (hcd : (x == ("__classdict__" : Str)) = false := by decide) : PE X (.Name x pos) (tVar i) := by
  intro pins s σ H Q I h
  obtain ⟨v, e, h⟩ := h
  obtain ⟨m, hn, hl⟩ := I.loc
  obtain ⟨u, r, l⟩ := hl i x v hN e hv
  have fin : EP X pins σ Q u s := ⟨v, H, I, r, h⟩
  rcases l with ⟨hk, hm⟩ | ⟨hk, c, hc, hcell⟩
  · exact wpAny_Name (wpAny_loadName_local I.ok.kind hk hn hm fin) hd
  · rcases hk with hk | hk
    · exact wpAny_Name (wpAny_loadName_cell I.ok.kind hk hc hcell fin) hd
    · exact wpAny_Name (wpAny_loadName_free I.ok.kind hk hc hcell fin hcd) hd
theorem pe_int {i j pos} : PE X (.Constant (.int i) j pos) (tC (.int i)) := fun _ _ _ H _ I h => wpAny_Constant_int ⟨.int i, H, I.tok _, ⟨_, rfl⟩, h⟩
theorem pe_bl {b j pos} : PE X (.Constant (.bool b) j pos) (tC (.bl b)) := fun _ _ _ H _ I h => Constant_bool ⟨.bl b, H, I, rfl, h⟩
theorem pe_non {j pos} : PE X (.Constant .none j pos) (tC .non) := fun _ _ _ H _ I h => Constant_none ⟨.non, H, I, rfl, h⟩
theorem pe_str {x j pos} : PE X (.Constant (.str x) j pos) (tC (.str x)) := fun _ _ _ H _ I h => Calls.Constant_str ⟨.str x, H, I.tok _, ⟨_, rfl⟩, h⟩
def Gl (X : Cx) (x : Str) : Prop := X.env.kindOf x = some .globalImplicit
theorem ld_glob {E : Value → Shared → Prop} {pins : List (Addr × Obj)} {s : Shared} {σ : St} {H : Hp} {x : Str} {u : Value} {pos : Pos} {Q : Value → Shared → Prop} (I : Inv X pins σ H s) (hg : Gl X x) (hm : X.mg x = some u) (h : Q u s)
    (hd : (x == ("__debug__" : Str)) = false := by decide) : wpAny (model X.prog X.w) X.A (eval (.Name x pos) X.env) Q E s :=
  Calls.Name_function_global I.ok.kind hg (Calls.loadGlobal_global (by rw [I.ok.glob]; exact I.mod.glob.keeps I.bk) hm h) hd
theorem ld_blt {E : Value → Shared → Prop} {pins : List (Addr × Obj)} {s : Shared} {σ : St} {H : Hp} {x : Str} {u : Value} {pos : Pos} {Q : Value → Shared → Prop} (I : Inv X pins σ H s) (hg : Gl X x) (hm : X.mg x = none) (hv : bootBuiltins x = some u) (h : Q u s)
    (hn : x ≠ "__name__" := by decide) (hd : (x == ("__debug__" : Str)) = false := by decide) : wpAny (model X.prog X.w) X.A (eval (.Name x pos) X.env) Q E s := by
  obtain ⟨mb, h1, h2⟩ := I.mod.blt
  exact Calls.Name_function_global I.ok.kind hg (Calls.loadGlobal_builtin (by rw [I.ok.glob]; exact I.mod.glob.keeps I.bk) hm (by rw [I.ok.blt]; exact h1.keeps I.bk) ((h2 x hn).trans hv) h) hd
theorem pe_bltn {x : Str} {v : V} {u : Value} {pos : Pos} (hg : Gl X x) (hm : X.mg x = none) (hv : bootBuiltins x = some u) (r : RelV v u) (hn : x ≠ "__name__" := by decide) (hd : (x == ("__debug__" : Str)) = false := by decide) : PE X (.Name x pos) (tC v) :=
  fun _ _ _ H _ I h => ld_blt I hg hm hv ⟨v, H, I, r, h⟩ hn hd
variable {a b : Expr} {ta tb : TE} {pos : Pos}
def tB (t : TE) : TT := fun σ H Q => t σ H fun x H1 => ∃ c, x = .bl c ∧ Q c H1
theorem pt_val {e : Expr} {t : TE} (h : PE X e t) (he : ∀ whole, isTrue e X.env whole = (do let v ← whole; standAt e.pos; holding [v] (truthy v)) := by intro _; rfl) : PT X e (tB t) := by
  intro pins s σ H Q I hw
  refine isTrue_plain (thn (h pins s σ H _ I hw) fun v s1 ⟨x, H1, I1, r1, q1⟩ => ?_) (he _)
  obtain ⟨d, rfl, q⟩ := q1
  cases r1
  exact wpAny_truthy_bool ⟨H1, I1, q⟩
variable {tA tB' : TT} {rest : List Expr}
def tAnd (t u : TT) : TT := fun σ H Q => t σ H fun c H1 => if c = true then u σ H1 Q else Q false H1
def tOr (t u : TT) : TT := fun σ H Q => t σ H fun c H1 => if c = true then Q true H1 else u σ H1 Q
def tNot (t : TT) : TT := fun σ H Q => t σ H fun c H1 => Q (!c) H1
theorem pw_and1 (ha : PT X a tA) : PW X (.BoolOp .And [a] pos) tA := by
  intro wh pins s σ H Q I h
  refine isTrue_and (thn (ha pins s σ H Q I h) fun c s1 e => ?_)
  cases c with
  | true => exact isTrue_and_nil e
  | false => exact e
theorem pw_or1 (ha : PT X a tA) : PW X (.BoolOp .Or [a] pos) tA := by
  intro wh pins s σ H Q I h
  refine isTrue_or (thn (ha pins s σ H Q I h) fun c s1 e => ?_)
  cases c with
  | false => exact isTrue_or_nil e
  | true => exact e
theorem pw_and (ha : PT X a tA) (hb : PW X (.BoolOp .And (b :: rest) pos) tB') : PW X (.BoolOp .And (a :: b :: rest) pos) (tAnd tA tB') := by
  intro wh pins s σ H Q I h
  refine isTrue_and (thn (ha pins s σ H _ I h) fun c s1 ⟨H1, I1, q1⟩ => ?_)
  cases c with
  | true => exact hb wh pins s1 σ H1 Q I1 q1
  | false => exact ⟨H1, I1, q1⟩
theorem pw_or (ha : PT X a tA) (hb : PW X (.BoolOp .Or (b :: rest) pos) tB') : PW X (.BoolOp .Or (a :: b :: rest) pos) (tOr tA tB') := by
  intro wh pins s σ H Q I h
  refine isTrue_or (thn (ha pins s σ H _ I h) fun c s1 ⟨H1, I1, q1⟩ => ?_)
  cases c with
  | true => exact ⟨H1, I1, q1⟩
  | false => exact hb wh pins s1 σ H1 Q I1 q1
theorem pt_not (ha : PT X a tA) : PT X (.UnaryOp .Not a pos) (tNot tA) := by
  intro pins s σ H Q I h
  exact isTrue_not (ha pins s σ H (fun c H1 => Q (!c) H1) I h)
def tAndV (ta tb : TE) : TE := fun σ H Q => ta σ H fun x H1 => ∃ c, x = .bl c ∧ if c = true then tb σ H1 Q else Q (.bl false) H1
def tNotV (ta : TE) : TE := fun σ H Q => ta σ H fun x H1 => ∃ c, x = .bl c ∧ Q (.bl (!c)) H1
theorem pe_one {op} {t : TE} (h : PE X a t) : PE X (.BoolOp op [a] pos) t := fun pins s σ H Q I hw => BoolOp_one (h pins s σ H Q I hw)
theorem pe_and (ha : PE X a ta) (hb : PE X (.BoolOp .And (b :: rest) pos) tb) : PE X (.BoolOp .And (a :: b :: rest) pos) (tAndV ta tb) := by
  intro pins s σ H Q I h
  refine BoolOp_and (thn (ha pins s σ H _ I h) fun v s1 ⟨x, H1, I1, r1, q1⟩ => ?_)
  obtain ⟨c, rfl, q1⟩ := q1
  cases r1
  refine wpAny_truthy_bool ?_
  cases c with
  | true => exact hb pins s1 σ H1 Q I1 q1
  | false => exact ⟨.bl false, H1, I1, rfl, q1⟩
theorem pe_not (ha : PE X a ta) : PE X (.UnaryOp .Not a pos) (tNotV ta) := by
  intro pins s σ H Q I h
  refine UnaryOp_ (thn (ha pins s σ H _ I h) fun v s1 ⟨x, H1, I1, r1, q1⟩ => ?_)
  obtain ⟨c, rfl, q1⟩ := q1
  cases r1
  exact not_of (wpAny_truthy_bool ⟨.bl (!c), H1, I1, rfl, q1⟩)
end
end L2
namespace L2
open PySem PySem.Spec PyProof.Rows
def SqL (K : PySem.W.Frag) (H : Hp) (a : Addr) (xs : List V) : Prop :=
  Rd H a (.lst xs) ∨
    ∃ (o : Obj) (its : Array Value) (n : Nat), K.lookup a = some o ∧ o.cls = .type "list" ∧ o.dict = none ∧ o.data = .seq its n ∧ its.size ≤ sizeLine ∧ Vals xs its.toList
def SqT (K : PySem.W.Frag) (H : Hp) (a : Addr) (xs : List V) : Prop :=
  Rd H a (.tup xs) ∨
    ∃ (o : Obj) (its : Array Value) (n : Nat), K.lookup a = some o ∧ o.cls = .type "tuple" ∧ o.data = .seq its n ∧ its.size ≤ sizeLine ∧ Vals xs its.toList
def absV : Value → Option V
  | .none => some .non
  | .bool b => some (.bl b)
  | .int i _ => some (.int i)
  | .str x _ => some (.str x)
  | .bytes b _ => some (.byt b)
  | .float b _ => some (.flt b)
  | .ref a => some (.ref a)
  | .type n => some (.ty n)
  | _ => none
theorem RelV.abs {x : V} {u : Value} (r : RelV x u) : absV u = some x := by
  cases x with
  | non => cases r; rfl
  | bl _ => cases r; rfl
  | int _ => obtain ⟨t, rfl⟩ := r; rfl
  | str _ => obtain ⟨t, rfl⟩ := r; rfl
  | byt _ => obtain ⟨t, rfl⟩ := r; rfl
  | flt _ => obtain ⟨t, rfl⟩ := r; rfl
  | ref _ => cases r; rfl
  | ty _ => cases r; rfl
theorem RelV.inj {x y : V} {u : Value} (r : RelV x u) (q : RelV y u) : x = y := Option.some.inj (r.abs.symm.trans q.abs)
theorem Vals.inj : ∀ {xs ys : List V} {us : List Value}, Vals xs us → Vals ys us → xs = ys
  | _, _, _, .nil, .nil => rfl
  | _, _, _, .cons r t, .cons r' t' => by rw [r.inj r', Vals.inj t t']
section
variable {X : Cx} {pins : List (Addr × Obj)} {σ : St} {H : Hp} {s : Shared} {a : Addr} {xs ys : List V}
theorem SqL.of {K : PySem.W.Frag} (h : H a = some (.lst xs)) : SqL K H a xs := .inl (.inl h)
theorem SqT.of {K : PySem.W.Frag} (h : H a = some (.tup xs)) : SqT K H a xs := .inl (.inl h)
theorem Inv.list (I : Inv X pins σ H s) (h : SqL X.K H a xs) : ∃ its : List Value, Vals xs its ∧ PlainL s.heap a its.toArray ∧ xs.length ≤ sizeLine := by
  rcases h with h | ⟨o, its, n, hk, hc, hd, hs, hz, r⟩
  · obtain ⟨z, its, n, r, e⟩ := h.ok I.hok
    exact ⟨its, r, ⟨_, n, e, rfl, rfl, rfl⟩, z⟩
  · refine ⟨its.toList, r, ⟨o, n, I.kIn a o hk, hc, hd, by simpa using hs⟩, ?_⟩
    have e := r.length
    simp only [Array.length_toList] at e
    omega
theorem Inv.tuple (I : Inv X pins σ H s) (h : SqT X.K H a xs) : ∃ its : List Value, Vals xs its ∧ IsTup s.heap a its.toArray ∧ xs.length ≤ sizeLine := by
  rcases h with h | ⟨o, its, n, hk, hc, hs, hz, r⟩
  · obtain ⟨z, its, r, p⟩ := h.ok I.hok
    exact ⟨its, r, p, z⟩
  · refine ⟨its.toList, r, ⟨o, I.kIn a o hk, hc, n, by simpa using hs⟩, ?_⟩
    have e := r.length
    simp only [Array.length_toList] at e
    omega
theorem Inv.list_inj (I : Inv X pins σ H s) (h : SqL X.K H a xs) (h' : SqL X.K H a ys) : xs = ys := by
  obtain ⟨its, r, ⟨o, n, e, _, _, d⟩, _⟩ := I.list h
  obtain ⟨its', r', ⟨o', n', e', _, _, d'⟩, _⟩ := I.list h'
  rw [e] at e'; cases e'
  rw [d] at d'
  injection d' with d1 _
  have : its = its' := by simpa using congrArg Array.toList d1
  subst this
  exact r.inj r'
theorem Inv.tuple_inj (I : Inv X pins σ H s) (h : SqT X.K H a xs) (h' : SqT X.K H a ys) : xs = ys := by
  obtain ⟨its, r, ⟨o, e, _, n, d⟩, _⟩ := I.tuple h
  obtain ⟨its', r', ⟨o', e', _, n', d'⟩, _⟩ := I.tuple h'
  rw [e] at e'; cases e'
  rw [d] at d'
  injection d' with d1 _
  have : its = its' := by simpa using congrArg Array.toList d1
  subst this
  exact r.inj r'
end
abbrev Cx.wish (X : Cx) (E : Value → Shared → Prop) : Cx := { X with xe := E }
abbrev Cx.nox (X : Cx) : Cx := X.wish fun _ _ => False
theorem Cx.Ok.wish {X : Cx} (ok : X.Ok) (E : Value → Shared → Prop) : (X.wish E).Ok :=
  ⟨ok.mod, ok.kind, ok.glob, ok.blt, ok.above, ok.inj, ok.has, ok.cab, ok.hd, ok.frames, ok.stk, ok.exf, ok.bs, ok.bsz, ok.noex, ok.exfs, ok.funs, ok.frf⟩
theorem Cx.Ok.unwish {X : Cx} {E : Value → Shared → Prop} (ok : (X.wish E).Ok) : X.Ok :=
  ⟨ok.mod, ok.kind, ok.glob, ok.blt, ok.above, ok.inj, ok.has, ok.cab, ok.hd, ok.frames, ok.stk, ok.exf, ok.bs, ok.bsz, ok.noex, ok.exfs, ok.funs, ok.frf⟩
section
variable {X : Cx} {pins : List (Addr × Obj)} {σ : St} {H : Hp} {s : Shared} {E : Value → Shared → Prop}
theorem Inv.wish (I : Inv X pins σ H s) (E : Value → Shared → Prop) : Inv (X.wish E) pins σ H s := ⟨I.ok.wish E, I.os, I.bare, I.base, I.loc, I.cell, I.free, I.freeC, I.pin, I.hok, I.len⟩
theorem Inv.unwish (I : Inv (X.wish E) pins σ H s) : Inv X pins σ H s := ⟨I.ok.unwish, I.os, I.bare, I.base, I.loc, I.cell, I.free, I.freeC, I.pin, I.hok, I.len⟩
theorem SP.unwish {D : Ends} {f : Flow} {s' : Shared} (h : SP (X.wish E) pins D f s') : SP X pins D f s' := by
  cases f with
  | next => obtain ⟨σ', H', I, q⟩ := h; exact ⟨σ', H', I.unwish, q⟩
  | brk => obtain ⟨σ', H', I, q⟩ := h; exact ⟨σ', H', I.unwish, q⟩
  | cont => obtain ⟨σ', H', I, q⟩ := h; exact ⟨σ', H', I.unwish, q⟩
  | ret u => obtain ⟨v, σ', H', I, r, q⟩ := h; exact ⟨v, σ', H', I.unwish, r, q⟩
theorem PSs.nox {st : List Stmt} {t : TS} (h : PSs X.nox st t) : PSs X st t := fun pins s σ H D I hw =>
  wpAny_mono (h pins s σ H D (I.wish _) hw) (fun _ _ q => q.unwish) fun _ _ z => False.elim z
end
section
variable {X : Cx} {st : Stmt} {rest : List Stmt} {t u : TS} {e : Expr} {te : TE} {pos : Pos}
def tNext : TS := fun D σ H => D.nx σ H
def tSeq (t u : TS) : TS := fun D σ H => t { D with nx := u D } σ H
theorem pss_nil : PSs X [] tNext := fun _ _ σ H _ I h => wpAny_execs_nil ⟨σ, H, I, h⟩
theorem pss_cons (h1 : PS X st t) (h2 : PSs X rest u) : PSs X (st :: rest) (tSeq t u) := by
  intro pins s σ H D I h
  refine wpAny_execs_cons (thn (h1 pins s σ H { D with nx := u D } I h) fun f s1 q => ?_)
  cases f with
  | next =>
    obtain ⟨σ', H', I', q⟩ := q
    exact h2 pins s1 σ' H' D I' q
  | ret v => exact q
  | brk => exact q
  | cont => exact q
theorem pss_one (h1 : PS X st t) : PSs X [st] t := by
  intro pins s σ H D I h
  refine wpAny_execs_cons (thn (h1 pins s σ H D I h) fun f s1 q => ?_)
  cases f with
  | next => exact wpAny_execs_nil q
  | ret v => exact q
  | brk => exact q
  | cont => exact q
theorem Inv.quiet {pins : List (Addr × Obj)} {σ : St} {H : Hp} {s : Shared} (I : Inv X pins σ H s) : interactive X.env = false := by simp [interactive, I.ok.kind]
def tDrop (te : TE) : TS := fun D σ H => te σ H fun _ H1 => D.nx σ H1
theorem ps_expr (he : PE X e te) (hs : swapsWith e none pos.line X.env = pure false := by rfl) : PS X (.Expr e pos) (tDrop te) := by
  intro pins s σ H D I h
  exact wpAny_Expr_any (thn (he pins s σ H _ I h) fun v s1 ⟨x, H1, I1, r1, q1⟩ => ⟨σ, H1, I1, q1⟩) I.quiet hs
def tRet (te : TE) : TS := fun D σ H => te σ H D.rt
theorem ps_ret (he : PE X e te) : PS X (.Return (some e) pos) (tRet te) := by
  intro pins s σ H D I h
  exact wpAny_Return_some (thn (he pins s σ H _ I h) fun v s1 ⟨x, H1, I1, r1, q1⟩ => ⟨x, σ, H1, I1, r1, q1⟩)
def tIfS (c : TT) (t u : TS) : TS := fun D σ H => c σ H fun b H1 => if b = true then t D σ H1 else u D σ H1
theorem ps_if {c : Expr} {a b : List Stmt} {tc : TT} (hc : PT X c tc) (ha : PSs X a t) (hb : PSs X b u) : PS X (.If c a b pos) (tIfS tc t u) := by
  intro pins s σ H D I h
  refine wpAny_If (thn (hc pins s σ H _ I h) fun d s1 ⟨H1, I1, q1⟩ => ?_)
  cases d with
  | true => exact ha pins s1 σ H1 D I1 q1
  | false => exact hb pins s1 σ H1 D I1 q1
end
abbrev TG := V → St → Hp → (St → Hp → Prop) → Prop
abbrev TGs := List V → St → Hp → (St → Hp → Prop) → Prop
def PG (X : Cx) (target : Expr) (t : TG) : Prop :=
  ∀ (pins : List (Addr × Obj)) (s : Shared) (σ : St) (H : Hp) (v : V) (u : Value) (Q : St → Hp → Prop), Inv X pins σ H s → RelV v u → t v σ H Q →
    wpAny (model X.prog X.w) X.A (assign target X.env u) (fun _ s' => ∃ σ' H', Inv X pins σ' H' s' ∧ Q σ' H') X.xe s
def PGs (X : Cx) (ts : List Expr) (t : TGs) : Prop :=
  ∀ (pins : List (Addr × Obj)) (s : Shared) (σ : St) (H : Hp) (vs : List V) (us : List Value) (Q : St → Hp → Prop), Inv X pins σ H s → Vals vs us → t vs σ H Q →
    wpAny (model X.prog X.w) X.A (assignInOrder ((assignEach ts X.env).map (·.2)) us) (fun _ s' => ∃ σ' H', Inv X pins σ' H' s' ∧ Q σ' H') X.xe s
abbrev TSet := V → V → V → Hp → (Hp → Prop) → Prop
def PSet (X : Cx) (t : TSet) : Prop :=
  ∀ (pins : List (Addr × Obj)) (s : Shared) (σ : St) (H : Hp) (o i v : V) (ov iv u : Value) (Q : Hp → Prop), Inv X pins σ H s → RelV o ov → RelV i iv → RelV v u → t o i v H Q →
    wpAny (model X.prog X.w) X.A (setItem ov iv u) (fun _ s' => ∃ H', Inv X pins σ H' s' ∧ Q H') X.xe s
abbrev TIp := V → V → Hp → VK → Prop
def PIp (X : Cx) (op : Operator) (t : TIp) : Prop :=
  ∀ (pins : List (Addr × Obj)) (s : Shared) (σ : St) (H : Hp) (x y : V) (v u : Value) (Q : VK), Inv X pins σ H s → RelV x v → RelV y u → t x y H Q →
    wpAny (model X.prog X.w) X.A (inplaceOp op v u) (EP X pins σ Q) X.xe s
section
variable {X : Cx} {pos : Pos}
def gName (i : Nat) : TG := fun v σ H Q => Q (σ.set i (some v)) H
theorem pg_name {i : Nat} {x : Str} (hN : X.N.Nodup) (hi : X.N[i]? = some x) (hx : Loc X.env.scope x) (hf : X.fn x = true ∨ X.env.scope.names.lookup x = some .local := by first | exact .inl rfl | exact .inr rfl | assumption) : PG X (.Name x pos) (gName i) := by
  intro pins s σ H v u Q I r h
  exact wpAny_assign_Name (store_ok I hN hi hx r (fun s' I' => ⟨_, H, I', h⟩) hf)
def gNil : TGs := fun vs σ H Q => vs = [] ∧ Q σ H
def gCons (t : TG) (u : TGs) : TGs := fun vs σ H Q => ∃ v r, vs = v :: r ∧ t v σ H fun σ' H' => u r σ' H' Q
theorem pgs_nil : PGs X [] gNil := by
  intro pins s σ H vs us Q I r h
  obtain ⟨e, h⟩ := h
  subst e
  cases r
  exact assignInOrder_nil ⟨σ, H, I, h⟩
theorem pgs_cons {e : Expr} {es : List Expr} {t : TG} {u : TGs} (h1 : PG X e t) (h2 : PGs X es u)
    (hs : (assignEach (e :: es) X.env).map (·.2) = assign e X.env :: (assignEach es X.env).map (·.2) := by rfl) : PGs X (e :: es) (gCons t u) := by
  intro pins s σ H vs us Q I r h
  obtain ⟨v, vr, e1, h⟩ := h
  subst e1
  cases r with
  | cons r rr =>
    rw [hs]
    refine assignInOrder_cons (thn (h1 pins s σ H _ _ _ I r h) fun _ s1 ⟨σ1, H1, I1, q1⟩ => ?_)
    exact h2 pins s1 σ1 H1 _ _ Q I1 rr q1
def gTup (K : PySem.W.Frag) (n : Nat) (t : TGs) : TG := fun v σ H Q => ∃ a xs, v = .ref a ∧ SqT K H a xs ∧ xs.length = n ∧ t xs σ H Q
theorem pg_tup {es : List Expr} {k : Nat} {t : TGs} {n : Nat} (hc : X.calm = true) (h : PGs X es t)
    (hn : (assignEach es X.env).length = n := by rfl) (hst : (assignEach es X.env).findIdx? (·.1) = none := by rfl) : PG X (.Tuple es k pos) (gTup X.K n t) := by
  intro pins s σ H v u Q I r hw
  obtain ⟨a, xs, e1, hq, hl, hw⟩ := hw
  subst e1
  cases r
  obtain ⟨its, rv, ht, hz⟩ := I.tuple hq
  refine assign_Tuple_tuple (I.ok.hd hc) ht (by simp [hn, ← hl, rv.length]) hst fun h' hx => ?_
  have I1 : Inv X pins σ H { s with heap := h' } := I.kept (t' := s.toks) fun b o e => hx b o (Nat.ne_of_lt (Heap.lt_size e)) e
  exact h pins _ σ H xs _ Q I1 (by simpa using rv) hw
def tAsg (te : TE) (g : TG) : TS := fun D σ H => te σ H fun x H1 => g x σ H1 D.nx
theorem ps_set {i : Nat} {x : Str} {e : Expr} {te : TE} {pos' : Pos} (hN : X.N.Nodup) (hi : X.N[i]? = some x) (hx : Loc X.env.scope x) (he : PE X e te) (hs : swapsWith e (some (.Name x pos')) pos.line X.env = pure false := by rfl) (hf : X.fn x = true ∨ X.env.scope.names.lookup x = some .local := by first | exact .inl rfl | exact .inr rfl | assumption) :
    PS X (.Assign [.Name x pos'] e pos) (tAsg te (gName i)) := by
  intro pins s σ H D I h
  refine wpAny_Assign_Name (thn (he pins s σ H _ I h) fun v s1 ⟨y, H1, I1, r1, q1⟩ => ?_) hs
  exact store_ok I1 hN hi hx r1 (fun s2 I2 => ⟨_, H1, I2, q1⟩) hf
def tAugS (to ti te : TE) (tget : V → V → Hp → VK → Prop) (tip : TIp) (tset : TSet) : TS := fun D σ H => to σ H fun o H1 => ti σ H1 fun i H2 => tget o i H2 fun x H3 => te σ H3 fun y H4 => tip x y H4 fun z H5 => tset o i z H5 fun H6 => D.nx σ H6
def PGet (X : Cx) (t : V → V → Hp → VK → Prop) : Prop :=
  ∀ (pins : List (Addr × Obj)) (s : Shared) (σ : St) (H : Hp) (o i : V) (ov iv : Value) (Q : VK), Inv X pins σ H s → RelV o ov → RelV i iv → t o i H Q →
    wpAny (model X.prog X.w) X.A (getItem ov iv) (EP X pins σ Q) X.xe s
theorem ps_augS {o i e : Expr} {to ti te : TE} {tget : V → V → Hp → VK → Prop} {tip : TIp} {tset : TSet} {op : Operator} {tpos : Pos} (ho : PE X o to) (hi : PE X i ti) (hg : PGet X tget) (he : PE X e te) (hp : PIp X op tip) (hs : PSet X tset)
    (ha : ∀ ov iv new, augStore i ov iv new = (do holding [new, ov, iv] (setItem ov iv new); release [new, ov, iv] []; pure .next) := by intros; rfl) : PS X (.AugAssign (.Subscript o i tpos) op e pos) (tAugS to ti te tget tip tset) := by
  intro pins s σ H D I h
  refine wpAny_AugAssign_SubscriptAny (thn (ho pins s σ H _ I h) fun ov s1 ⟨x1, H1, I1, r1, q1⟩ => ?_) ha
  refine thn (hi pins s1 σ H1 _ I1 q1) fun iv s2 ⟨x2, H2, I2, r2, q2⟩ => ?_
  refine thn (hg pins s2 σ H2 x1 x2 ov iv _ I2 r1 r2 q2) fun old s3 ⟨x3, H3, I3, r3, q3⟩ => ?_
  refine thn (he pins s3 σ H3 _ I3 q3) fun v s4 ⟨x4, H4, I4, r4, q4⟩ => ?_
  refine thn (hp pins s4 σ H4 x3 x4 old v _ I4 r3 r4 q4) fun new s5 ⟨x5, H5, I5, r5, q5⟩ => ?_
  exact thn (hs pins s5 σ H5 x1 x2 x5 ov iv new _ I5 r1 r2 r5 q5) fun _ s6 ⟨H6, I6, q6⟩ => ⟨σ, H6, I6, q6⟩
def ipI (f : Int → Int → Int) : TIp := fun x y H Q => ∃ i j, x = .int i ∧ y = .int j ∧ Q (.int (f i j)) H
theorem ip_add : PIp X .Add (ipI fun i j => i + j) := by
  intro pins s σ H x y v u Q I r1 r2 h
  obtain ⟨i, j, e1, e2, q⟩ := h
  subst e1; subst e2
  obtain ⟨t, rfl⟩ := r1
  obtain ⟨t', rfl⟩ := r2
  exact iadd_int ⟨.int _, H, I.tok _, ⟨_, rfl⟩, q⟩
end
section
variable {X : Cx} {pos : Pos}
end
structure It where
  go : Nat → Hp → Prop
  yld : Nat → Hp → V → Hp → Prop
  stop : Nat → Hp → Prop
def FpOk (X : Cx) (pins : List (Addr × Obj)) (H : Hp) (b : Addr) : Prop :=
  H b = none ∧ b ≠ X.env.locals ∧ b ∉ X.fs ∧ (b ∈ X.ex ∨ X.s₀.heap.objs.size ≤ b) ∧ (∀ x c, X.env.cells.lookup x = some c → c ≠ b) ∧ ∀ p ∈ X.pn ++ pins, p.1 ≠ b
theorem Inv.fpOk {X : Cx} {pins : List (Addr × Obj)} {σ : St} {H H' : Hp} {s : Shared} {b : Addr} (I : Inv X pins σ H s) (hb : s.heap.objs.size ≤ b) (hn : H' b = none) : FpOk X pins H' b := by
  refine ⟨hn, Nat.ne_of_gt (Nat.lt_of_lt_of_le I.lt hb), I.nofs hb, .inr (Nat.le_trans I.sz hb), fun x c e z => ?_, fun p hp z => ?_⟩
  · obtain ⟨v, q⟩ := I.cell x c e
    exact absurd (Nat.lt_of_lt_of_le q.lt (by rw [z]; exact hb)) (Nat.lt_irrefl _)
  · exact absurd (Nat.lt_of_lt_of_le (Heap.lt_size (I.pin p hp).1) (by rw [z]; exact hb)) (Nat.lt_irrefl _)
structure Turn (P : Program) (w : World) (K : PySem.W.Frag) (tg : Expr) (J : It) (fp : List Addr) (it : Addr) (tn : Nat → Heap → Prop) : Prop where
  mem : it ∈ fp
  obj : ∀ i h, tn i h → ∀ b ∈ fp, ∃ o, h.get? b = some o ∧ ∀ v, o.data ≠ .cell v
  keep : ∀ i h h', tn i h → (∀ b ∈ fp, ∀ o, h.get? b = some o → h'.get? b = some o) → tn i h'
  item : ∀ (X : Cx), X.prog = P → X.w = w → X.K = K → X.calm = true → ∀ (i : Nat) (pins : List (Addr × Obj)) (s : Shared) (σ : St) (H : Hp) (E : Value → Shared → Prop), Inv X pins σ H s → (∀ b ∈ fp, FpOk X pins H b) → tn i s.heap → J.go i H →
    wpAny (model P w) X.A (pyNext (.ref it)) (fun r s1 => ∃ u, r = some u ∧
      wpAny (model P w) X.A (letOwnedTupleGo tg (.ref it) u) (fun _ s2 => ∃ x H', Inv X pins σ H' s2 ∧ RelV x u ∧ J.yld i H x H' ∧ tn (i + 1) s2.heap ∧ ∀ b ∈ fp, H' b = none) E s1) E s
  done : ∀ (X : Cx), X.prog = P → X.w = w → X.K = K → X.calm = true → ∀ (i : Nat) (pins : List (Addr × Obj)) (s : Shared) (σ : St) (H : Hp) (E : Value → Shared → Prop), Inv X pins σ H s → (∀ b ∈ fp, FpOk X pins H b) → tn i s.heap → J.stop i H →
    wpAny (model P w) X.A (pyNext (.ref it)) (fun r s1 => r = none ∧ Inv X pins σ H s1) E s
  self : ∀ (A : Around) (i : Nat) (s : Shared) (Q : Value → Shared → Prop) (E : Value → Shared → Prop), tn i s.heap → Q (.ref it) s → wpAny (model P w) A (pyIter (.ref it)) Q E s
abbrev TI := St → Hp → (It → Hp → Prop) → Prop
def PIE (X : Cx) (pins : List (Addr × Obj)) (σ : St) (tg : Expr) (R : It → Hp → Prop) (itv : Value) (s2 : Shared) : Prop :=
  ∃ (it : Addr) (fp : List Addr) (tn : Nat → Heap → Prop) (J : It) (H' : Hp), itv = .ref it ∧ Inv X pins σ H' s2 ∧ Turn X.prog X.w X.K tg J fp it tn ∧ tn 0 s2.heap ∧ (∀ b ∈ fp, FpOk X pins H' b) ∧ R J H'
def PI (X : Cx) (tg iter : Expr) (wi : TI) : Prop :=
  ∀ (pins : List (Addr × Obj)) (s : Shared) (σ : St) (H : Hp) (R : It → Hp → Prop), Inv X pins σ H s → wi σ H R →
    wpAny (model X.prog X.w) X.A (eval iter X.env) (fun v s1 => wpAny (model X.prog X.w) X.A (pyIter v) (PIE X pins σ tg R) X.xe s1) X.xe s
theorem go_of {M : Model} {A : Around} {E : Value → Shared → Prop} {s : Shared} {tg : Expr} {it : Addr} {u : Value} {o : Obj} {n : String} {vs : Array Value} {Q : Unit → Shared → Prop} (ho : s.heap.get? it = some o) (hc : o.cls = .type n) (hd : o.data = .fields vs)
    (hn : ["enumerate", "zip", "dict_itemiterator", "dict_reverseitemiterator", "odict_iterator", "itertools.zip_longest", "itertools.pairwise"].contains n = false) (hQ : Q () s) : wpAny M A (letOwnedTupleGo tg (.ref it) u) Q E s := by
  unfold letOwnedTupleGo
  cases tg <;> first
    | exact wpAny_pure hQ
    | (cases u <;> first
        | exact wpAny_pure hQ
        | (refine wpAny_bind (wpAny_load ho ?_)
           rw [hc, hd]
           show wpAny M A (if (["enumerate", "zip", "dict_itemiterator", "dict_reverseitemiterator", "odict_iterator", "itertools.zip_longest", "itertools.pairwise"].contains n && vs[0]? == some (rawInt _)) = true then _ else _) Q E s
           rw [if_neg (by intro h; rw [hn, Bool.false_and] at h; cases h)]
           exact wpAny_pure hQ))
def Itl (K : PySem.W.Frag) (a : Addr) : It :=
  ⟨fun i H => ∃ xs x, SqL K H a xs ∧ xs[i]? = some x, fun i H x H' => H' = H ∧ ∀ xs, SqL K H a xs → xs[i]? = some x, fun i H => ∃ xs, SqL K H a xs ∧ xs.length ≤ i⟩
def Itt (K : PySem.W.Frag) (a : Addr) : It :=
  ⟨fun i H => ∃ xs x, SqT K H a xs ∧ xs[i]? = some x, fun i H x H' => H' = H ∧ ∀ xs, SqT K H a xs → xs[i]? = some x, fun i H => ∃ xs, SqT K H a xs ∧ xs.length ≤ i⟩
def Itr (lo : Int) (n : Nat) : It := ⟨fun i _ => i < n, fun i H x H' => H' = H ∧ x = .int (lo + i), fun i _ => n ≤ i⟩
theorem turn_list {P : Program} {w : World} {K : PySem.W.Frag} {tg : Expr} (a it : Addr) : Turn P w K tg (Itl K a) [it] it (fun i h => h.IsListIter it a i) where
  mem := by simp
  obj := fun i h st b hb => by
    have e : b = it := by simpa using hb
    subst e
    obtain ⟨o, e, c, d⟩ := st
    exact ⟨o, e, fun v z => by rw [d] at z; cases z⟩
  keep := fun i h h' st k => st.at fun o e => k it (by simp) o e
  item := by
    intro X hP hw hK hc i pins s σ H E I hf st hg
    subst hP hw hK
    obtain ⟨xs, x, hq, hx⟩ := hg
    obtain ⟨its, rv, p, hz⟩ := I.list hq
    obtain ⟨u, hu, ru⟩ := rv.get hx
    obtain ⟨f0, f1, f2, f3, f4, f5⟩ := hf it (by simp)
    refine wpAny_pyNext_list_item st p.isList (x := u) (by simpa using hu) fun h' st' sb => ?_
    have I1 : Inv X pins σ H { s with heap := h' } := I.turned (t' := s.toks) (fun b o hb e => (sb.2 b hb).trans e) f0 f1 f3 f4 f5
    obtain ⟨o, e, c, d⟩ := id st'
    exact ⟨u, rfl, go_of (s := { s with heap := h' }) e c d (by decide) ⟨x, H, I1, ru, ⟨rfl, fun ys hy => by rw [I.list_inj hy hq]; exact hx⟩, st', fun b hb => (hf b hb).1⟩⟩
  done := by
    intro X hP hw hK hc i pins s σ H E I hf st hg
    subst hP hw hK
    obtain ⟨xs, hq, hx⟩ := hg
    obtain ⟨its, rv, p, hz⟩ := I.list hq
    obtain ⟨f0, f1, f2, f3, f4, f5⟩ := hf it (by simp)
    have hl := rv.length
    exact wpAny_pyNext_list_end (I.ok.hd hc) st p.isList (by simp; omega) fun h' eb => ⟨rfl, I.turned (t' := s.toks) (fun b o hb e => eb b o hb e) f0 f1 f3 f4 f5⟩
  self := fun _ _ _ _ _ st h => wpAny_pyIter_listiter st h
theorem turn_tuple {P : Program} {w : World} {K : PySem.W.Frag} {tg : Expr} (a it : Addr) : Turn P w K tg (Itt K a) [it] it (fun i h => h.IsTupleIter it a i) where
  mem := by simp
  obj := fun i h st b hb => by
    have e : b = it := by simpa using hb
    subst e
    obtain ⟨o, e, c, d⟩ := st
    exact ⟨o, e, fun v z => by rw [d] at z; cases z⟩
  keep := fun i h h' st k => st.at fun o e => k it (by simp) o e
  item := by
    intro X hP hw hK hc i pins s σ H E I hf st hg
    subst hP hw hK
    obtain ⟨xs, x, hq, hx⟩ := hg
    obtain ⟨its, rv, p, hz⟩ := I.tuple hq
    obtain ⟨u, hu, ru⟩ := rv.get hx
    obtain ⟨f0, f1, f2, f3, f4, f5⟩ := hf it (by simp)
    refine wpAny_pyNext_tuple_item st (show s.heap.IsTuple a its.toArray from p) (x := u) (by simpa using hu) fun h' st' sb => ?_
    have I1 : Inv X pins σ H { s with heap := h' } := I.turned (t' := s.toks) (fun b o hb e => (sb.2 b hb).trans e) f0 f1 f3 f4 f5
    obtain ⟨o, e, c, d⟩ := id st'
    exact ⟨u, rfl, go_of (s := { s with heap := h' }) e c d (by decide) ⟨x, H, I1, ru, ⟨rfl, fun ys hy => by rw [I.tuple_inj hy hq]; exact hx⟩, st', fun b hb => (hf b hb).1⟩⟩
  done := by
    intro X hP hw hK hc i pins s σ H E I hf st hg
    subst hP hw hK
    obtain ⟨xs, hq, hx⟩ := hg
    obtain ⟨its, rv, p, hz⟩ := I.tuple hq
    obtain ⟨f0, f1, f2, f3, f4, f5⟩ := hf it (by simp)
    have hl := rv.length
    exact wpAny_pyNext_tuple_end (I.ok.hd hc) st (show s.heap.IsTuple a its.toArray from p) (by simp; omega) fun h' eb => ⟨rfl, I.turned (t' := s.toks) (fun b o hb e => eb b o hb e) f0 f1 f3 f4 f5⟩
  self := fun _ _ _ _ _ st h => wpAny_pyIter_tupleiter st h
theorem turn_range {P : Program} {w : World} {K : PySem.W.Frag} {tg : Expr} (it : Addr) (lo : Int) (n : Nat) : Turn P w K tg (Itr lo n) [it] it (fun i h => IsRangeIter h it (lo + (i : Nat) * 1) ((n : Int) - (i : Nat)) 1) where
  mem := by simp
  obj := fun i h st b hb => by
    have e : b = it := by simpa using hb
    subst e
    exact ⟨_, st, fun v z => by
      have z' : Data.fields _ = Data.cell v := z
      cases z'⟩
  keep := fun i h h' st k => k it (by simp) _ st
  item := by
    intro X hP hw hK hc i pins s σ H E I hf st hg
    subst hP hw hK
    obtain ⟨f0, f1, f2, f3, f4, f5⟩ := hf it (by simp)
    have W := Walks.range (prog := X.prog) (w := X.w) (I.ok.hd hc) it lo 1 n
    refine W.item i s _ _ hg st fun v h' tk hv st' kk => ?_
    obtain ⟨t, rfl⟩ := hv
    have I1 : Inv X pins σ H { s with heap := h', toks := tk } := I.turned (fun b o hb e => kk b o (by simpa using hb) e) f0 f1 f3 f4 f5
    refine ⟨_, rfl, go_of (s := { s with heap := h', toks := tk }) (n := "range_iterator") st' rfl rfl (by decide) ⟨.int (lo + i), H, I1, ⟨t, ?_⟩, ⟨rfl, rfl⟩, st', fun b hb => (hf b hb).1⟩⟩
    rw [Int.mul_one]
  done := by
    intro X hP hw hK hc i pins s σ H E I hf st hg
    subst hP hw hK
    obtain ⟨f0, f1, f2, f3, f4, f5⟩ := hf it (by simp)
    exact wpAny_pyNext_range_end (I.ok.hd hc) st (by have : n ≤ i := hg; omega) fun h' eb => ⟨rfl, I.turned (t' := s.toks) (fun b o hb e => eb b o hb e) f0 f1 f3 f4 f5⟩
  self := fun _ _ _ _ _ st h => wpAny_pyIter_rangeiter st h
end L2
namespace L2
open PySem PySem.Spec PyProof.Rows
section
variable {X : Cx} {tg : Expr}
def iList (K : PySem.W.Frag) (tl : TE) : TI := fun σ H R => tl σ H fun x H1 => ∃ a, x = .ref a ∧ (∃ xs, SqL K H1 a xs) ∧ R (Itl K a) H1
def iTup (K : PySem.W.Frag) (tl : TE) : TI := fun σ H R => tl σ H fun x H1 => ∃ a, x = .ref a ∧ (∃ xs, SqT K H1 a xs) ∧ R (Itt K a) H1
theorem pi_list {l : Expr} {tl : TE} (hl : PE X l tl) : PI X tg l (iList X.K tl) := by
  intro pins s σ H R I h
  refine thn (hl pins s σ H _ I h) fun v s1 ⟨x, H1, I1, r1, q1⟩ => ?_
  obtain ⟨a, e, ⟨xs, hq⟩, q⟩ := q1
  subst e
  cases r1
  obtain ⟨its, rv, p, hz⟩ := I1.list hq
  refine wpAny_pyIter_list p.isList ?_
  refine ⟨s1.heap.objs.size, [s1.heap.objs.size], _, _, H1, rfl, I1.kept (t' := s1.toks) fun b o e => Heap.get?_push_of_some _ e, turn_list a _, ⟨_, Heap.get?_push_size _ rfl, rfl, rfl⟩, fun b hb => ?_, q⟩
  have e : b = s1.heap.objs.size := by simpa using hb
  subst e
  exact I1.fpOk (Nat.le_refl _) (I1.hok.fresh (Nat.le_refl _))
theorem pi_tup {l : Expr} {tl : TE} (hl : PE X l tl) : PI X tg l (iTup X.K tl) := by
  intro pins s σ H R I h
  refine thn (hl pins s σ H _ I h) fun v s1 ⟨x, H1, I1, r1, q1⟩ => ?_
  obtain ⟨a, e, ⟨xs, hq⟩, q⟩ := q1
  subst e
  cases r1
  obtain ⟨its, rv, p, hz⟩ := I1.tuple hq
  refine wpAny_pyIter_tuple (show s1.heap.IsTuple a its.toArray from p) ?_
  refine ⟨s1.heap.objs.size, [s1.heap.objs.size], _, _, H1, rfl, I1.kept (t' := s1.toks) fun b o e => Heap.get?_push_of_some _ e, turn_tuple a _, ⟨_, Heap.get?_push_size _ rfl, rfl, rfl⟩, fun b hb => ?_, q⟩
  have e : b = s1.heap.objs.size := by simpa using hb
  subst e
  exact I1.fpOk (Nat.le_refl _) (I1.hok.fresh (Nat.le_refl _))
theorem range_it {pins : List (Addr × Obj)} {σ : St} {H : Hp} {s : Shared} {R : It → Hp → Prop} {E : Value → Shared → Prop} {lo hi : Int} {t u v : Tok} {tk : Nat} (I : Inv X pins σ H s) (h1 : -(2 ^ 62) ≤ lo) (h2 : lo < 2 ^ 62) (h3 : -(2 ^ 62) ≤ hi) (h4 : hi < 2 ^ 62)
    (q : R (Itr lo (hi - lo).toNat) H) : wpAny (model X.prog X.w) X.A (pyIter (.ref s.heap.objs.size)) (PIE X pins σ tg R) E { s with heap := s.heap.push { cls := .type "range", data := .fields #[.int lo t, .int hi u, .int 1 v] }, toks := tk } := by
  refine wpAny_pyIter_range (IsRange.new ..) (small_one h1 h2 h3 h4) ?_
  have I1 : Inv X pins σ H { s with heap := s.heap.push { cls := .type "range", data := .fields #[.int lo t, .int hi u, .int 1 v] }, toks := tk } := I.kept fun b o e => Heap.get?_push_of_some _ e
  refine ⟨(s.heap.push { cls := .type "range", data := .fields #[.int lo t, .int hi u, .int 1 v] }).objs.size, [(s.heap.push { cls := .type "range", data := .fields #[.int lo t, .int hi u, .int 1 v] }).objs.size], _, _, H, rfl,
    I1.kept (t' := tk) fun b o e => Heap.get?_push_of_some _ e, turn_range _ lo (hi - lo).toNat, ?_, fun b hb => ?_, q⟩
  · have e1 : lo + ((0 : Nat) : Int) * 1 = lo := by simp
    have e2 : (((hi - lo).toNat : Nat) : Int) - ((0 : Nat) : Int) = Builtin.Range.rangeSize lo hi 1 := by rw [rangeSize_one]; split <;> omega
    show IsRangeIter _ _ (lo + ((0 : Nat) : Int) * 1) ((((hi - lo).toNat : Nat) : Int) - ((0 : Nat) : Int)) 1
    rw [e1, e2]
    exact Heap.get?_push_size _ rfl
  · have e : b = (s.heap.push { cls := .type "range", data := .fields #[.int lo t, .int hi u, .int 1 v] }).objs.size := by simpa using hb
    subst e
    exact I1.fpOk (Nat.le_refl _) (I1.hok.fresh (Nat.le_refl _))
def iRng1 (ta : TA) : TI := fun σ H R => ta σ H fun vs H1 => ∃ j : Int, vs = [.int j] ∧ -(2 ^ 62) ≤ j ∧ j < 2 ^ 62 ∧ R (Itr 0 j.toNat) H1
theorem pi_range1 {a : Expr} {ta : TA} {p pos : Pos} (hg : Gl X "range") (hm : X.mg "range" = none) (ha : PA X [a] ta) (hs : starEach [a] X.env = [(false, eval a X.env)] := by rfl) : PI X tg (.Call (.Name "range" p) [a] [] pos) (iRng1 ta) := by
  intro pins s σ H R I h
  refine Call_ (ld_blt I hg hm boot_range (PyProof.Rows.callWith_type1 (thn (ha pos pins s σ H _ I h) fun us s1 ⟨vs, H1, I1, r1, q1⟩ => ?_) hs rfl))
  obtain ⟨j, e, q1, q2, q⟩ := q1
  subst e
  cases r1 with
  | cons r rr =>
    cases rr
    obtain ⟨t, rfl⟩ := r
    exact call_range_1 (range_it I1 (by omega) (by omega) q1 q2 (by simpa using q))
def tFor (wi : TI) (g : TG) (tb : TS) : TS := fun D σ H => wi σ H fun J H1 => ∃ W : Nat → Nat → St → Hp → Prop, (∃ m, W 0 m σ H1) ∧ ∀ i m σ H, W i m σ H →
  (J.stop i H ∧ D.nx σ H) ∨ (J.go i H ∧ ∃ N : St → Hp → Prop, (∀ σ' H', N σ' H' → ∃ m', m' < m ∧ W (i + 1) m' σ' H') ∧ ∀ x H', J.yld i H x H' → g x σ H' fun σ2 H2 => tb { D with nx := N, ct := N, bk := D.nx } σ2 H2)
def pinsAt (fp : List Addr) (h : Heap) : List (Addr × Obj) := fp.filterMap fun b => (h.get? b).map fun o => (b, o)
theorem mem_pinsAt {fp : List Addr} {h : Heap} {b : Addr} {o : Obj} (hb : b ∈ fp) (e : h.get? b = some o) : (b, o) ∈ pinsAt fp h := List.mem_filterMap.mpr ⟨b, hb, by rw [e]; rfl⟩
theorem of_pinsAt {fp : List Addr} {h : Heap} {p : Addr × Obj} (hp : p ∈ pinsAt fp h) : p.1 ∈ fp ∧ h.get? p.1 = some p.2 := by
  obtain ⟨b, hb, e⟩ := List.mem_filterMap.mp hp
  cases q : h.get? b with
  | none => rw [q] at e; cases e
  | some o =>
    rw [q] at e
    have e' : (b, o) = p := Option.some.inj e
    subst e'
    exact ⟨hb, q⟩
theorem Inv.pinned {pins : List (Addr × Obj)} {σ : St} {H : Hp} {s : Shared} {fp : List Addr} (I : Inv X pins σ H s) (hf : ∀ b ∈ fp, FpOk X pins H b) (ho : ∀ b ∈ fp, ∃ o, s.heap.get? b = some o ∧ ∀ v, o.data ≠ .cell v) : Inv X (pins ++ pinsAt fp s.heap) σ H s :=
  I.pins_of fun p hp => (List.mem_append.mp hp).elim (fun z => I.pin p (List.mem_append_right _ z)) fun z => by
    obtain ⟨hb, e⟩ := of_pinsAt z
    obtain ⟨f0, f1, f2, _⟩ := hf p.1 hb
    obtain ⟨o, e', d⟩ := ho p.1 hb
    rw [e] at e'; cases e'
    exact ⟨e, f0, f1, f2, d⟩
theorem Inv.unpinned {pins pl : List (Addr × Obj)} {σ : St} {H : Hp} {s : Shared} (I : Inv X (pins ++ pl) σ H s) : Inv X pins σ H s := I.pins_of fun p hp => I.pin p (List.mem_append_right _ (List.mem_append_left _ hp))
theorem ps_for {iter : Expr} {body : List Stmt} {wi : TI} {g : TG} {tb : TS} {pos : Pos} (hp : PassesOwn (model X.prog X.w) X.A X.env X.xe) (hc : X.calm = true) (hi : PI X tg iter wi) (hg : PG X tg g) (hb : PSs X body tb)
    (hs : ∀ x, foldedSetIterable iter X.env x = pure x := by intro _; rfl) : PS X (.For tg iter body [] pos) (tFor wi g tb) := by
  intro pins s σ H D I h
  refine wpAny_For (thn (hi pins s σ H _ I h) fun v s1 h1 => thn h1 fun itv s2 h2 => ?_) hs
  obtain ⟨it, fp, tn, J, H2, e, I2, T, st2, f2, W, ⟨m0, w0⟩, turn⟩ := h2
  subst e
  have stat : ∀ {H' : Hp}, (∀ b ∈ fp, H' b = none) → ∀ b ∈ fp, FpOk X pins H' b := fun hn b hb => ⟨hn b hb, (f2 b hb).2⟩
  refine codeAny_forLoop_any (fun n s' => ∃ i σ' H', Inv X pins σ' H' s' ∧ tn i s'.heap ∧ (∀ b ∈ fp, H' b = none) ∧ W i n σ' H') ?_ m0 ⟨0, σ, H2, I2, st2, fun b hb => (f2 b hb).1, w0⟩
  rintro n s3 ⟨i, σ3, H3, I3, st3, fr3, w3⟩
  rcases turn i n σ3 H3 w3 with ⟨stop, qn⟩ | ⟨go, N, hN, step⟩
  · refine wpAny_passesOwn hp (thn (T.done X rfl rfl rfl hc i pins s3 σ3 H3 X.xe I3 (stat fr3) st3 stop) fun r s4 ⟨hr, I4⟩ => ?_)
    subst hr
    exact wpAny_execs_nil ⟨σ3, H3, I4, qn⟩
  · refine wpAny_passesOwn hp (thn (T.item X rfl rfl rfl hc i pins s3 σ3 H3 X.xe I3 (stat fr3) st3 go) fun r s4 ⟨u, hr, h4⟩ => ?_)
    subst hr
    refine wpAny_passesOwn hp (thn h4 fun _ s5 ⟨x, H5, I5, r5, y5, st5, fr5⟩ => ?_)
    have I5' := I5.pinned (stat fr5) (T.obj _ _ st5)
    refine wpAny_passesOwn hp (thn (hg _ s5 σ3 H5 x u _ I5' r5 (step x H5 y5)) fun _ s6 ⟨σ6, H6, I6, q6⟩ => ?_)
    refine wpAny_passesOwn hp (thn (hb _ s6 σ6 H6 _ I6 q6) fun f s7 q7 => ?_)
    have again : ∀ {σ7 : St} {H7 : Hp}, Inv X (pins ++ pinsAt fp s5.heap) σ7 H7 s7 → N σ7 H7 → ∃ m, m < n ∧ ∃ i σ' H', Inv X pins σ' H' s7 ∧ tn i s7.heap ∧ (∀ b ∈ fp, H' b = none) ∧ W i m σ' H' := fun {σ7 H7} I7 n7 => by
      obtain ⟨m', hm, w7⟩ := hN σ7 H7 n7
      refine ⟨m', hm, i + 1, σ7, H7, I7.unpinned, T.keep _ _ _ st5 fun b hb o e => (I7.pin (b, o) (List.mem_append_right _ (List.mem_append_right _ (mem_pinsAt hb e)))).1, fun b hb => ?_, w7⟩
      obtain ⟨o, e, d⟩ := T.obj _ _ st5 b hb
      exact (I7.pin (b, o) (List.mem_append_right _ (List.mem_append_right _ (mem_pinsAt hb e)))).2.1
    cases f with
    | next => obtain ⟨σ7, H7, I7, n7⟩ := q7; exact again I7 n7
    | cont => obtain ⟨σ7, H7, I7, n7⟩ := q7; exact again I7 n7
    | brk => obtain ⟨σ7, H7, I7, q7⟩ := q7; exact ⟨σ7, H7, I7.unpinned, q7⟩
    | ret v => obtain ⟨x7, σ7, H7, I7, r7, q7⟩ := q7; exact ⟨x7, σ7, H7, I7.unpinned, r7, q7⟩
end
theorem for_list {K : PySem.W.Frag} {a : Addr} {xs : List V} {g : TG} {tb : TS} {D : Ends} {σ : St} {H : Hp} (Pv : Nat → St → Hp → Prop) (h0 : Pv 0 σ H) (hl : ∀ i σ H, i ≤ xs.length → Pv i σ H → SqL K H a xs)
    (hs : ∀ i x σ H, xs[i]? = some x → Pv i σ H → g x σ H fun σ2 H2 => tb { D with nx := Pv (i + 1), ct := Pv (i + 1), bk := D.nx } σ2 H2) (hd : ∀ σ H, Pv xs.length σ H → D.nx σ H) :
    ∃ W : Nat → Nat → St → Hp → Prop, (∃ m, W 0 m σ H) ∧ ∀ i m σ H, W i m σ H →
      ((Itl K a).stop i H ∧ D.nx σ H) ∨ ((Itl K a).go i H ∧ ∃ N : St → Hp → Prop, (∀ σ' H', N σ' H' → ∃ m', m' < m ∧ W (i + 1) m' σ' H') ∧ ∀ x H', (Itl K a).yld i H x H' → g x σ H' fun σ2 H2 => tb { D with nx := N, ct := N, bk := D.nx } σ2 H2) := by
  refine ⟨fun i m σ H => m = xs.length - i ∧ i ≤ xs.length ∧ Pv i σ H, ⟨xs.length, by simp, Nat.zero_le _, h0⟩, ?_⟩
  rintro i m σ H ⟨rfl, hi, p⟩
  have q := hl i σ H hi p
  by_cases hlt : i < xs.length
  · refine .inr ⟨⟨xs, xs[i], q, by simp [hlt]⟩, Pv (i + 1), fun σ' H' p' => ⟨xs.length - (i + 1), by omega, rfl, hlt, p'⟩, fun x H' y => ?_⟩
    obtain ⟨e, y⟩ := y
    subst e
    exact hs i x σ _ (y xs q) p
  · have e : i = xs.length := by omega
    subst e
    exact .inl ⟨⟨xs, q, Nat.le_refl _⟩, hd σ H p⟩
theorem for_tup {K : PySem.W.Frag} {a : Addr} {xs : List V} {g : TG} {tb : TS} {D : Ends} {σ : St} {H : Hp} (Pv : Nat → St → Hp → Prop) (h0 : Pv 0 σ H) (hl : ∀ i σ H, i ≤ xs.length → Pv i σ H → SqT K H a xs)
    (hs : ∀ i x σ H, xs[i]? = some x → Pv i σ H → g x σ H fun σ2 H2 => tb { D with nx := Pv (i + 1), ct := Pv (i + 1), bk := D.nx } σ2 H2) (hd : ∀ σ H, Pv xs.length σ H → D.nx σ H) :
    ∃ W : Nat → Nat → St → Hp → Prop, (∃ m, W 0 m σ H) ∧ ∀ i m σ H, W i m σ H →
      ((Itt K a).stop i H ∧ D.nx σ H) ∨ ((Itt K a).go i H ∧ ∃ N : St → Hp → Prop, (∀ σ' H', N σ' H' → ∃ m', m' < m ∧ W (i + 1) m' σ' H') ∧ ∀ x H', (Itt K a).yld i H x H' → g x σ H' fun σ2 H2 => tb { D with nx := N, ct := N, bk := D.nx } σ2 H2) := by
  refine ⟨fun i m σ H => m = xs.length - i ∧ i ≤ xs.length ∧ Pv i σ H, ⟨xs.length, by simp, Nat.zero_le _, h0⟩, ?_⟩
  rintro i m σ H ⟨rfl, hi, p⟩
  have q := hl i σ H hi p
  by_cases hlt : i < xs.length
  · refine .inr ⟨⟨xs, xs[i], q, by simp [hlt]⟩, Pv (i + 1), fun σ' H' p' => ⟨xs.length - (i + 1), by omega, rfl, hlt, p'⟩, fun x H' y => ?_⟩
    obtain ⟨e, y⟩ := y
    subst e
    exact hs i x σ _ (y xs q) p
  · have e : i = xs.length := by omega
    subst e
    exact .inl ⟨⟨xs, q, Nat.le_refl _⟩, hd σ H p⟩
theorem for_range {lo : Int} {n : Nat} {g : TG} {tb : TS} {D : Ends} {σ : St} {H : Hp} (Pv : Nat → St → Hp → Prop) (h0 : Pv 0 σ H)
    (hs : ∀ i σ H, i < n → Pv i σ H → g (.int (lo + i)) σ H fun σ2 H2 => tb { D with nx := Pv (i + 1), ct := Pv (i + 1), bk := D.nx } σ2 H2) (hd : ∀ σ H, Pv n σ H → D.nx σ H) :
    ∃ W : Nat → Nat → St → Hp → Prop, (∃ m, W 0 m σ H) ∧ ∀ i m σ H, W i m σ H →
      ((Itr lo n).stop i H ∧ D.nx σ H) ∨ ((Itr lo n).go i H ∧ ∃ N : St → Hp → Prop, (∀ σ' H', N σ' H' → ∃ m', m' < m ∧ W (i + 1) m' σ' H') ∧ ∀ x H', (Itr lo n).yld i H x H' → g x σ H' fun σ2 H2 => tb { D with nx := N, ct := N, bk := D.nx } σ2 H2) := by
  refine ⟨fun i m σ H => m = n - i ∧ i ≤ n ∧ Pv i σ H, ⟨n, by simp, Nat.zero_le _, h0⟩, ?_⟩
  rintro i m σ H ⟨rfl, hi, p⟩
  by_cases hlt : i < n
  · refine .inr ⟨hlt, Pv (i + 1), fun σ' H' p' => ⟨n - (i + 1), by omega, rfl, hlt, p'⟩, fun x H' y => ?_⟩
    obtain ⟨e, y⟩ := y
    subst e y
    exact hs i σ _ hlt p
  · have e : i = n := by omega
    subst e
    exact .inl ⟨Nat.le_refl _, hd σ H p⟩
end L2
namespace L2
open PySem PySem.Spec PyProof.Rows
abbrev R2 := V → V → Hp → VK → Prop
def OpR (X : Cx) (f : Value → Value → Sem Value) (r : R2) : Prop :=
  ∀ (pins : List (Addr × Obj)) (s : Shared) (σ : St) (H : Hp) (x y : V) (v u : Value) (Q : VK), Inv X pins σ H s → RelV x v → RelV y u → r x y H Q →
    wpAny (model X.prog X.w) X.A (f v u) (EP X pins σ Q) X.xe s
def UnR (X : Cx) (f : Value → Sem Value) (r : V → Hp → VK → Prop) : Prop :=
  ∀ (pins : List (Addr × Obj)) (s : Shared) (σ : St) (H : Hp) (x : V) (v : Value) (Q : VK), Inv X pins σ H s → RelV x v → r x H Q →
    wpAny (model X.prog X.w) X.A (f v) (EP X pins σ Q) X.xe s
def CallR (X : Cx) (f : Value) (r : List V → Hp → VK → Prop) : Prop :=
  ∀ (pins : List (Addr × Obj)) (s : Shared) (σ : St) (H : Hp) (xs : List V) (us : List Value) (Q : VK), Inv X pins σ H s → Vals xs us → r xs H Q →
    wpAny (model X.prog X.w) X.A (call f us) (EP X pins σ Q) X.xe s
def TruR (X : Cx) (r : V → Hp → (Bool → Hp → Prop) → Prop) : Prop :=
  ∀ (pins : List (Addr × Obj)) (s : Shared) (σ : St) (H : Hp) (x : V) (v : Value) (Q : Bool → Hp → Prop), Inv X pins σ H s → RelV x v → r x H Q →
    wpAny (model X.prog X.w) X.A (truthy v) (TP X pins σ Q) X.xe s
def tOp (r : R2) (ta tb : TE) : TE := fun σ H Q => ta σ H fun x H1 => tb σ H1 fun y H2 => r x y H2 Q
def tUn (r : V → Hp → VK → Prop) (ta : TE) : TE := fun σ H Q => ta σ H fun x H1 => r x H1 Q
def rI (C : Int → Int → Prop) (g : Int → Int → V) : R2 := fun x y H Q => ∃ i j, x = .int i ∧ y = .int j ∧ C i j ∧ Q (g i j) H
def rI0 (g : Int → Int → V) : R2 := fun x y H Q => ∃ i j, x = .int i ∧ y = .int j ∧ Q (g i j) H
def rU (g : Int → V) : V → Hp → VK → Prop := fun x H Q => ∃ i, x = .int i ∧ Q (g i) H
section
variable {X : Cx} {a b c : Expr} {ta tb tc : TE} {pos : Pos}
theorem binT (ha : PE X a ta) (hb : PE X b tb) {pins : List (Addr × Obj)} {s : Shared} {σ : St} {H : Hp} {R : V → V → Hp → Prop} (I : Inv X pins σ H s)
    (h : ta σ H fun x H1 => tb σ H1 fun y H2 => R x y H2) {Q : Value → Shared → Prop} {f : Value → Value → Sem Value}
    (hf : ∀ v u s2 x y H2, Inv X pins σ H2 s2 → RelV x v → RelV y u → R x y H2 → wpAny (model X.prog X.w) X.A (f v u) Q X.xe s2) :
    wpAny (model X.prog X.w) X.A (eval a X.env) (fun v s₁ => wpAny (model X.prog X.w) X.A (eval b X.env) (fun u s₂ => wpAny (model X.prog X.w) X.A (f v u) Q X.xe s₂) X.xe s₁) X.xe s := by
  refine thn (ha pins s σ H _ I h) fun v s1 ⟨x, H1, I1, r1, q1⟩ => ?_
  refine thn (hb pins s1 σ H1 _ I1 q1) fun u s2 ⟨y, H2, I2, r2, q2⟩ => ?_
  exact hf v u s2 x y H2 I2 r1 r2 q2
theorem pe_op {op : Operator} {r : R2} (ho : OpR X (binaryOp op) r) (ha : PE X a ta) (hb : PE X b tb) : PE X (.BinOp a op b pos) (tOp r ta tb) := by
  intro pins s σ H Q I h
  exact wpAny_BinOp (binT ha hb I h fun v u s2 x y H2 I2 rx ry q => ho pins s2 σ H2 x y v u Q I2 rx ry q)
theorem pe_un {op : UnaryOp} {r : V → Hp → VK → Prop} (ho : UnR X (unaryOp op) r) (ha : PE X a ta) : PE X (.UnaryOp op a pos) (tUn r ta) := by
  intro pins s σ H Q I h
  exact UnaryOp_ (thn (ha pins s σ H _ I h) fun v s1 ⟨x, H1, I1, r1, q1⟩ => ho pins s1 σ H1 x v Q I1 r1 q1)
theorem opI {f : Value → Value → Sem Value} {C : Int → Int → Prop} {g : Int → Int → Int}
    (rule : ∀ (i j : Int) (t u : Tok) (s : Shared) (Q : Value → Shared → Prop) (E : Value → Shared → Prop), C i j → Q (.int (g i j) s.toks) { s with toks := s.toks + 1 } → wpAny (model X.prog X.w) X.A (f (.int i t) (.int j u)) Q E s) :
    OpR X f (rI C fun i j => .int (g i j)) := by
  intro pins s σ H x y v u Q I rx ry h
  obtain ⟨i, j, rfl, rfl, hc, q⟩ := h
  obtain ⟨t, rfl⟩ := rx
  obtain ⟨t', rfl⟩ := ry
  exact rule i j t t' s _ _ hc ⟨.int (g i j), H, I.tok _, ⟨_, rfl⟩, q⟩
theorem opI0 {f : Value → Value → Sem Value} {g : Int → Int → Int}
    (rule : ∀ (i j : Int) (t u : Tok) (s : Shared) (Q : Value → Shared → Prop) (E : Value → Shared → Prop), Q (.int (g i j) s.toks) { s with toks := s.toks + 1 } → wpAny (model X.prog X.w) X.A (f (.int i t) (.int j u)) Q E s) :
    OpR X f (rI0 fun i j => .int (g i j)) := by
  intro pins s σ H x y v u Q I rx ry h
  obtain ⟨i, j, rfl, rfl, q⟩ := h
  obtain ⟨t, rfl⟩ := rx
  obtain ⟨t', rfl⟩ := ry
  exact rule i j t t' s _ _ ⟨.int (g i j), H, I.tok _, ⟨_, rfl⟩, q⟩
theorem opB0 {f : Value → Value → Sem Value} {g : Int → Int → Bool}
    (rule : ∀ (i j : Int) (t u : Tok) (s : Shared) (Q : Value → Shared → Prop) (E : Value → Shared → Prop), Q (.bool (g i j)) s → wpAny (model X.prog X.w) X.A (f (.int i t) (.int j u)) Q E s) :
    OpR X f (rI0 fun i j => .bl (g i j)) := by
  intro pins s σ H x y v u Q I rx ry h
  obtain ⟨i, j, rfl, rfl, q⟩ := h
  obtain ⟨t, rfl⟩ := rx
  obtain ⟨t', rfl⟩ := ry
  exact rule i j t t' s _ _ ⟨.bl (g i j), H, I, rfl, q⟩
def CDiv (i j : Int) : Prop := 0 < j ∧ j < 1073741824
def CPow (i j : Int) : Prop := 0 ≤ j ∧ j ≤ 1000000 ∧ i.natAbs < 2 ^ 64
def CMul (i j : Int) : Prop := (-(2 ^ 64) < i ∧ i < 2 ^ 64) ∨ (-(2 ^ 64) < j ∧ j < 2 ^ 64)
theorem CMul.ok {i j : Int} (h : CMul i j) : IntMulOk i j := by
  rcases h with ⟨h1, h2⟩ | ⟨h1, h2⟩
  · exact .of_left (intBits_le_64 h1 h2)
  · exact .of_right (intBits_le_64 h1 h2)
theorem op_add : OpR X (binaryOp .Add) (rI0 fun i j => .int (i + j)) := opI0 fun _ _ _ _ _ _ _ q => add_int q
theorem op_sub : OpR X (binaryOp .Sub) (rI0 fun i j => .int (i - j)) := opI0 fun _ _ _ _ _ _ _ q => sub_int q
theorem op_mul : OpR X (binaryOp .Mult) (rI CMul fun i j => .int (i * j)) := opI fun _ _ _ _ _ _ _ hc q => mul_int q hc.ok
theorem op_fdiv : OpR X (binaryOp .FloorDiv) (rI CDiv fun i j => .int (i / j)) := opI fun i j _ _ _ _ _ hc q => by
  have h1 : (0 : Int) < j := hc.1
  have h2 : j < 1073741824 := hc.2
  exact floordiv_int (by omega) (by rw [Int.fdiv_eq_ediv_of_nonneg i (by omega)]; exact q) (.inl (PyProof.noPylong_small (by omega)))
theorem op_mod : OpR X (binaryOp .Mod) (rI (fun _ j => 0 < j) fun i j => .int (i % j)) := opI fun i j _ _ _ _ _ hc q => by
  have h1 : (0 : Int) < j := hc
  exact mod_int' (by omega) (by rw [Int.fmod_eq_emod_of_nonneg i (by omega)]; exact q)
theorem op_pow : OpR X (binaryOp .Pow) (rI CPow fun i j => .int (i ^ j.toNat)) := opI fun _ _ _ _ _ _ _ hc q => pow_int_small hc.1 hc.2.1 hc.2.2 q
theorem unI {f : Value → Sem Value} {g : Int → Int}
    (rule : ∀ (i : Int) (t : Tok) (s : Shared) (Q : Value → Shared → Prop) (E : Value → Shared → Prop), Q (.int (g i) s.toks) { s with toks := s.toks + 1 } → wpAny (model X.prog X.w) X.A (f (.int i t)) Q E s) :
    UnR X f (rU fun i => .int (g i)) := by
  intro pins s σ H x v Q I rx h
  obtain ⟨i, rfl, q⟩ := h
  obtain ⟨t, rfl⟩ := rx
  exact rule i t s _ _ ⟨.int (g i), H, I.tok _, ⟨_, rfl⟩, q⟩
theorem un_neg : UnR X (unaryOp .USub) (rU fun i => .int (-i)) := unI fun _ _ _ _ _ q => neg_int q
end
def scal : V → V → Bool
  | .non, .non => true | .non, .int _ => true | .int _, .non => true | .non, .bl _ => true | .bl _, .non => true | .non, .str _ => true | .str _, .non => true
  | .int _, .int _ => true | .bl _, .bl _ => true | .str _, .str _ => true | .byt _, .byt _ => true
  | .int _, .str _ => true | .str _, .int _ => true | .bl _, .str _ => true | .str _, .bl _ => true
  | _, _ => false
def rEq : R2 := fun x y H Q => scal x y = true ∧ Q (.bl (decide (x = y))) H
def rNe : R2 := fun x y H Q => scal x y = true ∧ Q (.bl (!decide (x = y))) H
theorem dec_int {i j : Int} : decide (V.int i = V.int j) = (i == j) := by
  rw [Bool.eq_iff_iff]
  simp
theorem dec_bl {i j : Bool} : decide (V.bl i = V.bl j) = (i == j) := by
  rw [Bool.eq_iff_iff]
  simp
theorem dec_str {i j : Str} : decide (V.str i = V.str j) = (i == j) := by
  rw [Bool.eq_iff_iff]
  simp
theorem dec_byt {i j : Array UInt8} : decide (V.byt i = V.byt j) = (i.toList == j.toList) := by
  rw [Bool.eq_iff_iff]
  cases i
  cases j
  simp
section
variable {X : Cx} {a b c : Expr} {ta tb tc : TE} {pos : Pos}
theorem fin_bl {pins : List (Addr × Obj)} {σ : St} {H : Hp} {s : Shared} {Q : VK} {k k' : Bool} (I : Inv X pins σ H s) (q : Q (.bl k) H) (e : k = k') : EP X pins σ Q (.bool k') s := by
  subst e
  exact ⟨.bl k, H, I, rfl, q⟩
theorem op_eq : OpR X (compareOp .Eq) rEq := by
  intro pins s σ H x y v u Q I rx ry h
  obtain ⟨hs, q⟩ := h
  cases x with
  | non =>
    cases rx
    cases y with
    | non => cases ry; exact PySem.EqNone.eq_none_none (fin_bl I q (by simp))
    | bl j => cases ry; exact PySem.EqNone.eq_none_bool (fin_bl I q (by simp))
    | int j => obtain ⟨t', rfl⟩ := ry; exact PySem.EqNone.eq_none_int (fin_bl I q (by simp))
    | str j => obtain ⟨t', rfl⟩ := ry; exact PySem.EqNone.eq_none_str (fin_bl I q (by simp))
    | _ => exact absurd (show false = true from hs) Bool.false_ne_true
  | bl i =>
    cases rx
    cases y with
    | non => cases ry; exact PySem.EqNone.eq_bool_none (fin_bl I q (by simp))
    | bl j => cases ry; exact eq_bool (fin_bl I q dec_bl)
    | str j => obtain ⟨t', rfl⟩ := ry; exact PySem.EqMixed.eq_bool_str (fin_bl I q (by simp))
    | _ => exact absurd (show false = true from hs) Bool.false_ne_true
  | int i =>
    obtain ⟨t, rfl⟩ := rx
    cases y with
    | non => cases ry; exact PySem.EqNone.eq_int_none (fin_bl I q (by simp))
    | int j => obtain ⟨t', rfl⟩ := ry; exact eq_int (fin_bl I q dec_int)
    | str j => obtain ⟨t', rfl⟩ := ry; exact PySem.EqMixed.eq_int_str (fin_bl I q (by simp))
    | _ => exact absurd (show false = true from hs) Bool.false_ne_true
  | str i =>
    obtain ⟨t, rfl⟩ := rx
    cases y with
    | non => cases ry; exact PySem.EqNone.eq_str_none (fin_bl I q (by simp))
    | bl j => cases ry; exact PySem.EqMixed.eq_str_bool (fin_bl I q (by simp))
    | int j => obtain ⟨t', rfl⟩ := ry; exact PySem.EqMixed.eq_str_int (fin_bl I q (by simp))
    | str j => obtain ⟨t', rfl⟩ := ry; exact eq_str (fin_bl I q dec_str)
    | _ => exact absurd (show false = true from hs) Bool.false_ne_true
  | byt i =>
    obtain ⟨t, rfl⟩ := rx
    cases y with
    | byt j => obtain ⟨t', rfl⟩ := ry; exact PySem.W.eq_bytes (fin_bl I q dec_byt)
    | _ => exact absurd (show false = true from hs) Bool.false_ne_true
  | _ => cases y <;> exact absurd (show false = true from hs) Bool.false_ne_true
theorem op_ne : OpR X (compareOp .NotEq) rNe := by
  intro pins s σ H x y v u Q I rx ry h
  obtain ⟨hs, q⟩ := h
  cases x with
  | non =>
    cases rx
    cases y with
    | non => cases ry; exact PySem.EqNone.ne_none_none (fin_bl I q (by simp))
    | bl j => cases ry; exact PySem.EqNone.ne_none_bool (fin_bl I q (by simp))
    | int j => obtain ⟨t', rfl⟩ := ry; exact PySem.EqNone.ne_none_int (fin_bl I q (by simp))
    | str j => obtain ⟨t', rfl⟩ := ry; exact PySem.EqNone.ne_none_str (fin_bl I q (by simp))
    | _ => exact absurd (show false = true from hs) Bool.false_ne_true
  | bl i =>
    cases rx
    cases y with
    | non => cases ry; exact PySem.EqNone.ne_bool_none (fin_bl I q (by simp))
    | bl j => cases ry; exact ne_bool (fin_bl I q (congrArg not dec_bl))
    | str j => obtain ⟨t', rfl⟩ := ry; exact PySem.EqMixed.ne_bool_str (fin_bl I q (by simp))
    | _ => exact absurd (show false = true from hs) Bool.false_ne_true
  | int i =>
    obtain ⟨t, rfl⟩ := rx
    cases y with
    | non => cases ry; exact PySem.EqNone.ne_int_none (fin_bl I q (by simp))
    | int j => obtain ⟨t', rfl⟩ := ry; exact ne_int (fin_bl I q (congrArg not dec_int))
    | str j => obtain ⟨t', rfl⟩ := ry; exact PySem.EqMixed.ne_int_str (fin_bl I q (by simp))
    | _ => exact absurd (show false = true from hs) Bool.false_ne_true
  | str i =>
    obtain ⟨t, rfl⟩ := rx
    cases y with
    | non => cases ry; exact PySem.EqNone.ne_str_none (fin_bl I q (by simp))
    | bl j => cases ry; exact PySem.EqMixed.ne_str_bool (fin_bl I q (by simp))
    | int j => obtain ⟨t', rfl⟩ := ry; exact PySem.EqMixed.ne_str_int (fin_bl I q (by simp))
    | str j => obtain ⟨t', rfl⟩ := ry; exact ne_str (fin_bl I q (congrArg not dec_str))
    | _ => exact absurd (show false = true from hs) Bool.false_ne_true
  | byt i =>
    obtain ⟨t, rfl⟩ := rx
    cases y with
    | byt j => obtain ⟨t', rfl⟩ := ry; exact PySem.W.ne_bytes (fin_bl I q (congrArg not dec_byt))
    | _ => exact absurd (show false = true from hs) Bool.false_ne_true
  | _ => cases y <;> exact absurd (show false = true from hs) Bool.false_ne_true
theorem op_lt : OpR X (compareOp .Lt) (rI0 fun i j => .bl (decide (i < j))) := opB0 fun _ _ _ _ _ _ _ q => lt_int q
theorem op_le : OpR X (compareOp .LtE) (rI0 fun i j => .bl (decide (i ≤ j))) := opB0 fun _ _ _ _ _ _ _ q => le_int q
theorem op_gt : OpR X (compareOp .Gt) (rI0 fun i j => .bl (decide (j < i))) := opB0 fun _ _ _ _ _ _ _ q => gt_int q
theorem op_ge : OpR X (compareOp .GtE) (rI0 fun i j => .bl (decide (j ≤ i))) := opB0 fun _ _ _ _ _ _ _ q => ge_int q
theorem op_isN : OpR X (compareOp .Is) (fun x y H Q => y = .non ∧ Q (.bl (decide (x = .non))) H) := by
  intro pins s σ H x y v u Q I rx ry h
  obtain ⟨rfl, q⟩ := h
  cases ry
  refine is_none_gen (fin_bl I q ?_)
  cases x <;> first
    | (cases rx; rfl)
    | (obtain ⟨t, rfl⟩ := rx; rfl)
theorem nomark (b : Expr) {op : CmpOp} (h : op ≠ .In := by decide) (h2 : op ≠ .NotIn := by decide) : behindInMarks op b = false := by
  have e1 : (op == CmpOp.In) = false := by cases op <;> first | rfl | exact absurd rfl h
  have e2 : (op == CmpOp.NotIn) = false := by cases op <;> first | rfl | exact absurd rfl h2
  cases b <;> simp [behindInMarks, e1, e2]
theorem pe_cmpR {op : CmpOp} {r : R2} (ho : OpR X (compareOp op) r) (ha : PE X a ta) (hb : PE X b tb) (hm : behindInMarks op b = false) : PE X (.Compare a [op] [b] pos) (tOp r ta tb) := by
  intro pins s σ H Q I h
  exact wpAny_Compare1 (binT ha hb I h fun v u s2 x y H2 I2 rx ry q => ho pins s2 σ H2 x y v u Q I2 rx ry q) hm
def tTest (t : TE) : TT := fun σ H Q => t σ H fun x H' => ∃ k, x = .bl k ∧ Q k H'
theorem pt_cmpR {op : CmpOp} {r : R2} (ho : OpR X (compareOp op) r) (ha : PE X a ta) (hb : PE X b tb) (hm : behindInMarks op b = false) : PT X (.Compare a [op] [b] pos) (tTest (tOp r ta tb)) := by
  intro pins s σ H Q I h
  refine wpAny_isTrue_Compare1 (thn (ha pins s σ H _ I h) fun v s1 ⟨x, H1, I1, r1, q1⟩ => thn (hb pins s1 σ H1 _ I1 q1) fun u s2 ⟨y, H2, I2, r2, q2⟩ =>
    thn (ho pins s2 σ H2 x y v u _ I2 r1 r2 q2) fun c s3 ⟨z, H3, I3, r3, k, e, q3⟩ => ?_) hm
  subst e
  cases r3
  exact wpAny_truthy_bool ⟨H3, I3, q3⟩
def TruV (K : PySem.W.Frag) (x : V) (H : Hp) (k : Bool) : Prop :=
  match x with
  | .non => k = false
  | .bl b => k = b
  | .int i => k = (i != 0)
  | .str y => y.length ≤ sizeLine ∧ k = ((y.length : Int) != 0)
  | .byt y => y.size ≤ sizeLine ∧ k = ((y.size : Int) != 0)
  | .ref p => (∃ xs, SqL K H p xs ∧ k = !xs.isEmpty) ∨ (∃ xs, SqT K H p xs ∧ k = !xs.isEmpty) ∨ ∃ kvs, H p = some (.dK kvs) ∧ k = !kvs.isEmpty
  | _ => False
theorem isEmpty_kv {κ : Type} {kvs : List (κ × V)} {vs : List (κ × Value)} (r : KV kvs vs) : (!vs.isEmpty) = !kvs.isEmpty := by
  cases r <;> rfl
theorem isEmpty_of {xs : List V} {its : List Value} (r : Vals xs its) : (!its.toArray.isEmpty) = !xs.isEmpty := by
  cases r <;> simp
theorem line63 : (sizeLine : Nat) < 2 ^ 63 := by rw [sizeLine_eq]; decide
theorem tru_ok : TruR X (fun x H Q => ∃ k, TruV X.K x H k ∧ Q k H) := by
  intro pins s σ H x v Q I rx h
  obtain ⟨k, e, q⟩ := h
  have hl := line63
  have hs : sizeLine = 16777216 := sizeLine_eq
  cases x with
  | non =>
    cases rx
    have e' : k = false := e
    subst e'
    exact truthy_none ⟨H, I, q⟩
  | bl b =>
    cases rx
    have e' : k = b := e
    subst e'
    exact wpAny_truthy_bool ⟨H, I, q⟩
  | int i =>
    obtain ⟨t, rfl⟩ := rx
    have e' : k = (i != 0) := e
    subst e'
    exact PySem.P.truthy_int ⟨H, I, q⟩
  | str y =>
    obtain ⟨t, rfl⟩ := rx
    obtain ⟨hy, e'⟩ : y.length ≤ sizeLine ∧ k = ((y.length : Int) != 0) := e
    subst e'
    exact PySem.P.truthy_str (by omega) ⟨H, I.tok _, q⟩
  | byt y =>
    obtain ⟨t, rfl⟩ := rx
    obtain ⟨hy, e'⟩ : y.size ≤ sizeLine ∧ k = ((y.size : Int) != 0) := e
    subst e'
    exact PySem.W.truthy_bytes (by omega) ⟨H, I.tok _, q⟩
  | ref p =>
    cases rx
    have e' : (∃ xs, SqL X.K H p xs ∧ k = !xs.isEmpty) ∨ (∃ xs, SqT X.K H p xs ∧ k = !xs.isEmpty) ∨ ∃ kvs, H p = some (.dK kvs) ∧ k = !kvs.isEmpty := e
    rcases e' with ⟨xs, hx, e'⟩ | ⟨xs, hx, e'⟩ | ⟨kvs, hx, e'⟩
    · subst e'
      obtain ⟨its, r, pl, hz⟩ := I.list hx
      have hlen := r.length
      exact wpAny_truthy_list pl.isList (by simp only [List.size_toArray]; omega) ⟨H, I.tok _, by rw [isEmpty_of r]; exact q⟩
    · subst e'
      obtain ⟨its, r, pl, hz⟩ := I.tuple hx
      have hlen := r.length
      exact truthy_tuple pl (by simp only [List.size_toArray]; omega) ⟨H, I.tok _, by rw [isEmpty_of r]; exact q⟩
    · subst e'
      obtain ⟨hz, hS, vs, r, m⟩ : kvs.length ≤ sizeLine ∧ (p == sysModules) = false ∧ ∃ vs, KV kvs vs ∧ s.heap.DictOf (mixKind X.prog X.w) p vs := I.hok p _ hx
      have hlen : kvs.length = vs.length := Paired.length r
      exact wpAny_truthy_dict hS m (by omega) ⟨H, I.tok _, by rw [isEmpty_kv r]; exact q⟩
  | _ => exact (show False from e).elim
theorem pt_truth (ha : PE X a ta) (he : ∀ whole, isTrue a X.env whole = (do let v ← whole; standAt a.pos; holding [v] (truthy v))) :
    PT X a (fun σ H Q => ta σ H fun x H' => ∃ k, TruV X.K x H' k ∧ Q k H') := by
  intro pins s σ H Q I h
  exact isTrue_plain (thn (ha pins s σ H _ I h) fun v s1 ⟨x, H1, I1, r1, q1⟩ => tru_ok pins s1 σ H1 x v Q I1 r1 q1) (he _)
theorem vals1 {x : V} {us : List Value} (r : Vals [x] us) : ∃ u, us = [u] ∧ RelV x u := by
  cases r with
  | cons r1 r2 => cases r2; exact ⟨_, rfl, r1⟩
theorem vals2 {x y : V} {us : List Value} (r : Vals [x, y] us) : ∃ u w', us = [u, w'] ∧ RelV x u ∧ RelV y w' := by
  cases r with
  | cons r1 r2 =>
    cases r2 with
    | cons r3 r4 => cases r4; exact ⟨_, _, rfl, r1, r3⟩
theorem call_max2 (hc : X.calm = true) : CallR X (.builtin "max") (fun xs H Q => ∃ i j, xs = [.int i, .int j] ∧ Q (.int (if j > i then j else i)) H) := by
  intro pins s σ H xs us Q I r h
  obtain ⟨i, j, rfl, q⟩ := h
  obtain ⟨u, w', rfl, ⟨t, rfl⟩, ⟨t', rfl⟩⟩ := vals2 r
  refine max_two_ints (I.ok.hd hc) fun h' tk k => ⟨_, H, I.kept k, ?_, q⟩
  by_cases hj : j > i
  · rw [if_pos hj, if_pos hj]; exact ⟨_, rfl⟩
  · rw [if_neg hj, if_neg hj]; exact ⟨_, rfl⟩
theorem call_int1 : CallR X (.type "int") (fun xs H Q => (∃ i, xs = [.int i] ∧ Q (.int i) H) ∨ ∃ k, xs = [.bl k] ∧ Q (.int (if k then 1 else 0)) H) := by
  intro pins s σ H xs us Q I r h
  rcases h with ⟨i, rfl, q⟩ | ⟨k, rfl, q⟩
  · obtain ⟨u, rfl, t, rfl⟩ := vals1 r
    exact call_int_int ⟨.int i, H, I, ⟨_, rfl⟩, q⟩
  · obtain ⟨u, rfl, r1⟩ := vals1 r
    cases r1
    exact call_int_bool ⟨.int (if k then 1 else 0), H, I.tok _, ⟨_, rfl⟩, q⟩
end
end L2
namespace L2
open PySem PySem.Spec PyProof.Rows
structure ObjM (h : Heap) (x dx C : Addr) (mA : Str → Option Value) : Prop where
  obj : h.get? x = some (PySem.W.instObj C dx)
  ns : h.Ns1 dx mA
  ne : dx ≠ x
theorem lookIn_ns {h : Heap} {dx : Addr} {mA : Str → Option Value} (n : h.Ns1 dx mA) : ∃ od, h.get? dx = some od ∧ ∀ name, PySem.W.lookIn name od = some (mA name) := by
  obtain ⟨o, es, ep, ho, hd, hk, _, hm⟩ := n
  refine ⟨o, ho, fun name => ?_⟩
  have e := hm name
  unfold nsFind findBy at e
  rw [← Array.find?_toList] at e
  unfold PySem.W.lookIn
  rw [hd]
  dsimp only
  split
  · rename_i y q
    rw [q] at e
    exact congrArg some e
  · rename_i q
    rw [q] at e
    have a : es.toList.any (·.refKey) = false := by
      rw [List.any_eq_false]
      intro y hy
      obtain ⟨z, t, hkey⟩ := hk y (Array.mem_toList_iff.mp hy)
      simp [DictEntry.refKey, hkey]
    have a' : ¬ es.toList.any (·.refKey) = true := by rw [a]; exact Bool.false_ne_true
    rw [if_neg a']
    exact congrArg some e
theorem ObjM.look {h : Heap} {x dx C : Addr} {mA : Str → Option Value} (I : ObjM h x dx C mA) : ∃ od, PySem.W.InstAt h x (PySem.W.instObj C dx) C (some od) ∧ ∀ name, PySem.W.lookIn name od = some (mA name) :=
  let ⟨od, ho, hl⟩ := lookIn_ns I.ns
  ⟨od, ⟨I.obj, rfl, rfl, ho⟩, hl⟩
section
variable {prog : Program} {w : World} {A : Around} {E : Value → Shared → Prop} {s : Shared} {K : PySem.W.Frag} {x dx C f : Addr} {mA : Str → Option Value} {name : Str} {v : Value}
theorem get_map {expr : Bool} {Q : Value → Shared → Prop} (X : K.In s.heap) (I : ObjM s.heap x dx C mA) (hg : PySem.W.plainGet K C name = true) (hh : PySem.W.hasDictIn K C = true)
    (ha : PySem.W.findIn K (.ref C) name = some none) (hv : mA name = some v) (hv' : PySem.W.handedIn v = true) (h : Q v { s with toks := s.toks + 1 }) :
    wpAny (model prog w) A (getAttr (.ref x) name expr) Q E s := by
  obtain ⟨od, J, hl⟩ := I.look
  exact PySem.W.get_value X J (PySem.W.plainGet_of hg).1 (PySem.W.findObj_own hh ha rfl (by rw [hl, hv])) hv' h
theorem get_meth {pl : Sem Bool} {Q : Value × List Value → Shared → Prop} (X : K.In s.heap) (I : ObjM s.heap x dx C mA) (hg : PySem.W.plainGet K C name = true)
    (hf : PySem.W.findIn K (.ref C) name = some (some (.ref f))) (ht : PySem.W.isFn K (.ref f) = true) (hv : mA name = none) (h : Q (.ref f, [.ref x]) s) :
    wpAny (model prog w) A (getMethod (.ref x) name pl) Q E s := by
  obtain ⟨od, J, hl⟩ := I.look
  exact PySem.W.method_fn X J (PySem.W.plainGet_of hg).1 (PySem.W.plainGet_of hg).2 hf (beq_iff_eq.mp ht) (by show (PySem.W.lookIn name od).map (·.isSome) = some false; rw [hl, hv]; rfl) h
theorem set_map {ns : List Str} {Q : Unit → Shared → Prop} (X : K.In s.heap) (I : ObjM s.heap x dx C mA)
    (hs : PySem.W.findIn K (.ref C) "__setattr__" = some (some (.builtin "object.__setattr__"))) (hp : PySem.W.plainOver K C = true) (ht : PySem.W.takerIn K C name = some none) (hh : PySem.W.hasDictIn K C = true)
    (hw : PySem.Within mA ns) (hsz : ns.length ≤ sizeLine)
    (h : ∀ h', ObjM h' x dx C (fun y => if y = name then some v else mA y) → Heap.SameBut dx s.heap h' → Q () { s with heap := h', toks := s.toks + 2 }) :
    wpAny (model prog w) A (setAttr (.ref x) name v) Q E s := by
  obtain ⟨od, J, hl⟩ := I.look
  refine PySem.W.set_plain X J hs (PySem.W.osa_open (s := { s with toks := s.toks + 1 }) (r := none) X J hp ht fun b => ?_)
  obtain ⟨cd, hc, hd'⟩ := PySem.W.any_some hh
  have hx : s.heap.get? x = some ⟨.ref C, some dx, .plain, #[]⟩ := I.obj
  refine wpAny_bind (wpAny_pure (wpAny_bind (wpAny_bind (wpAny_loadPart hx (wpAny_bind (PySem.W.Looks.here (s := { s with toks := s.toks + 1 }) (PySem.W.looks_clsIn X hc) ?_))))))
  rw [hd']
  refine wpAny_pure (a := some dx) (wpAny_bind (wpAny_pure (wpAny_bind ?_)))
  refine wpAny_nsSet1 (s := { s with toks := s.toks + 1 }) I.ns fun h' hn2 hs2 => ?_
  obtain ⟨oD, esD, epD, hoD, hdD, hcD⟩ := hn2.count (PySem.Within.cons name v hw)
  refine wpAny_bind (wpAny_lookBehind hoD (by rw [hdD]; exact pastItsLine_dict (Nat.le_trans hcD (by rw [List.length_cons]; omega))) ?_)
  exact wpAny_pure (h _ ⟨(hs2.2 _ (Ne.symm I.ne)).trans I.obj, hn2, I.ne⟩ hs2)
theorem make_map {R : Result → Shared → Prop} {vs : List Value} {kw : List (Str × Value)} (X : K.In s.heap) (hm : PySem.W.makesIn K C = true)
    (hi : PySem.W.findIn K (.ref C) "__init__" = some (some (.ref f))) (hf : PySem.W.typeIn K (.ref f) = some (.type "function"))
    (h : codeAny (model prog w) (A.under (.builtin "type.__call__" ⟨.ref C :: vs, kw⟩)) (.call (.ref f) ⟨.ref (s.heap.objs.size + 1) :: vs, kw⟩) (PySem.W.InitBack (s.heap.objs.size + 1) R)
      { s with heap := (s.heap.push PySem.W.emptyDict).push (PySem.W.instObj C s.heap.objs.size) }) :
    codeAny (model prog w) A (.call (.ref C) ⟨vs, kw⟩) R s := by
  obtain ⟨hh, g, d, t, os⟩ := s
  exact PySem.W.make_core (PySem.W.makes_of X hm) (PySem.W.looks_findIn X hi) (fun self => PySem.W.bind_fn X self hf) (.inl rfl) h
end
def putF (f : Str) (v : V) : List (Str × V) → List (Str × V)
  | [] => [(f, v)]
  | (g, x) :: r => if g = f then (g, v) :: r else (g, x) :: putF f v r
theorem lookup_putF (f g : Str) (v : V) : ∀ fs : List (Str × V), (putF f v fs).lookup g = if g = f then some v else fs.lookup g
  | [] => by
    show List.lookup g [(f, v)] = _
    by_cases h : g = f
    · have hb : (g == f) = true := beq_iff_eq.mpr h
      simp only [List.lookup, hb, if_pos h]
    · have hb : (g == f) = false := beq_eq_false_iff_ne.mpr h
      simp only [List.lookup, hb, if_neg h]
  | (k, x) :: r => by
    have ih := lookup_putF f g v r
    rw [show putF f v ((k, x) :: r) = (if k = f then (k, v) :: r else (k, x) :: putF f v r) from rfl]
    by_cases hk : k = f
    · rw [if_pos hk]
      by_cases h : g = k
      · have hb : (g == k) = true := beq_iff_eq.mpr h
        simp only [List.lookup, hb, if_pos (h.trans hk)]
      · have hb : (g == k) = false := beq_eq_false_iff_ne.mpr h
        simp only [List.lookup, hb, if_neg (fun e : g = f => h (e.trans hk.symm))]
    · rw [if_neg hk]
      by_cases h : g = k
      · have hb : (g == k) = true := beq_iff_eq.mpr h
        simp only [List.lookup, hb, if_neg (fun e : g = f => hk (h.symm.trans e))]
      · have hb : (g == k) = false := beq_eq_false_iff_ne.mpr h
        simp only [List.lookup, hb]
        exact ih
theorem keys_putF (f : Str) (v : V) : ∀ fs : List (Str × V), f ∈ (putF f v fs).map (·.1) ∧ ∀ g, g ∈ fs.map (·.1) → g ∈ (putF f v fs).map (·.1)
  | [] => ⟨by simp [putF], fun g h => by simp at h⟩
  | (k, x) :: r => by
    obtain ⟨i1, i2⟩ := keys_putF f v r
    rw [show putF f v ((k, x) :: r) = (if k = f then (k, v) :: r else (k, x) :: putF f v r) from rfl]
    by_cases hk : k = f
    · rw [if_pos hk]
      subst hk
      exact ⟨by simp, fun g h => by simpa using h⟩
    · rw [if_neg hk]
      refine ⟨?_, fun g h => ?_⟩
      · rw [List.map_cons]
        exact List.mem_cons_of_mem _ i1
      · rw [List.map_cons] at h ⊢
        rcases List.mem_cons.mp h with e | e
        · exact List.mem_cons.mpr (.inl e)
        · exact List.mem_cons_of_mem _ (i2 g e)
theorem length_putF (f : Str) (v : V) : ∀ fs : List (Str × V), (putF f v fs).length ≤ fs.length + 1
  | [] => by simp [putF]
  | (k, x) :: r => by
    have ih := length_putF f v r
    rw [show putF f v ((k, x) :: r) = (if k = f then (k, v) :: r else (k, x) :: putF f v r) from rfl]
    by_cases hk : k = f
    · rw [if_pos hk, List.length_cons, List.length_cons]; omega
    · rw [if_neg hk, List.length_cons, List.length_cons]; omega
theorem RelO.some_of {v : V} {o : Option Value} (r : RelO (some v) o) : ∃ u, o = some u ∧ RelV v u := by
  cases o with
  | none => exact (show False from r).elim
  | some u => exact ⟨u, rfl, r⟩
theorem RelO.none_of {o : Option Value} (r : RelO none o) : o = none := by
  cases o with
  | none => rfl
  | some u => exact (show False from r).elim
theorem handed_of {v : V} {u : Value} (r : RelV v u) : PySem.W.handedIn u = true := by
  cases v with
  | non => cases (show u = Value.none from r); rfl
  | bl b => cases (show u = Value.bool b from r); rfl
  | int i => obtain ⟨t, e⟩ := (show ∃ t, u = Value.int i t from r); cases e; rfl
  | str x => obtain ⟨t, e⟩ := (show ∃ t, u = Value.str x t from r); cases e; rfl
  | byt b => obtain ⟨t, e⟩ := (show ∃ t, u = Value.bytes b t from r); cases e; rfl
  | flt b => obtain ⟨t, e⟩ := (show ∃ t, u = Value.float b t from r); cases e; rfl
  | ref a => cases (show u = Value.ref a from r); rfl
  | ty n => cases (show u = Value.type n from r); rfl
section
variable {P : Program} {w : World} {H H' : Hp} {h h' : Heap} {a C dx : Addr} {fs fs' : List (Str × V)}
theorem ins_get (hok : HOk P w H h) (e : H a = some (.ins C dx fs)) : ∃ mA, ObjM h a dx C mA ∧ (∀ f, RelO (fs.lookup f) (mA f)) ∧ PySem.Within mA (fs.map (·.1)) ∧ fs.length ≤ 1000 ∧ H dx = some (.own a) := by
  obtain ⟨d, z, ne, ob, mA, n, r, q⟩ := (show ObjOk P w H h a (.ins C dx fs) from hok a _ e)
  exact ⟨mA, ⟨ob, n, ne⟩, r, q, z, d⟩
end
structure Cls (K : PySem.W.Frag) (C : Addr) : Prop where
  pg : PySem.W.plainGet K C Str.empty = true
  hd : PySem.W.hasDictIn K C = true
  po : PySem.W.plainOver K C = true
  sa : PySem.W.findIn K (.ref C) "__setattr__" = some (some (.builtin "object.__setattr__"))
theorem Cls.get {K : PySem.W.Frag} {C : Addr} (c : Cls K C) (f : Str) : PySem.W.plainGet K C f = true := c.pg
def NoAttr (K : PySem.W.Frag) (C : Addr) (f : Str) : Prop := PySem.W.findIn K (.ref C) f = some none
theorem NoAttr.taker {K : PySem.W.Frag} {C : Addr} {f : Str} (n : NoAttr K C f) : PySem.W.takerIn K C f = some none := by
  unfold PySem.W.takerIn
  rw [show PySem.W.findIn K (.ref C) f = some none from n]
  rfl
structure Meth (K : PySem.W.Frag) (C : Addr) (m : Str) (f : Addr) : Prop where
  at_ : PySem.W.findIn K (.ref C) m = some (some (.ref f))
  fn : PySem.W.isFn K (.ref f) = true
  kp : PySem.W.keepIn K (.ref f) = true
section
variable {X : Cx} {pins : List (Addr × Obj)} {σ : St} {H : Hp} {s : Shared} {a C dx : Addr} {fs : List (Str × V)} {f : Str} {v : V} {A : Around} {E : Value → Shared → Prop}
theorem getattr_ok {b : Bool} {Q : Value → Shared → Prop} (I : Inv X pins σ H s) (e : H a = some (.ins C dx fs)) (c : Cls X.K C) (n : NoAttr X.K C f) (l : fs.lookup f = some v)
    (h : ∀ u s', Inv X pins σ H s' → RelV v u → Q u s') : wpAny (model X.prog X.w) A (getAttr (.ref a) f b) Q E s := by
  obtain ⟨mA, O, r, _, _, _⟩ := ins_get I.hok e
  obtain ⟨u, hu, ru⟩ := RelO.some_of (v := v) (o := mA f) (by rw [← l]; exact r f)
  exact get_map I.kIn O (c.get f) c.hd n hu (handed_of ru) (h u _ (I.tok _) ru)
theorem getmeth_ok {m : Str} {g : Addr} {pl : Sem Bool} {Q : Value × List Value → Shared → Prop} (I : Inv X pins σ H s) (e : H a = some (.ins C dx fs)) (c : Cls X.K C) (k : Meth X.K C m g) (l : fs.lookup m = none)
    (h : Q (.ref g, [.ref a]) s) : wpAny (model X.prog X.w) A (getMethod (.ref a) m pl) Q E s := by
  obtain ⟨mA, O, r, _, _, _⟩ := ins_get I.hok e
  have hn : mA m = none := RelO.none_of (by rw [← l]; exact r m)
  exact get_meth I.kIn O (c.get m) k.at_ k.fn hn h
theorem setattr_ok {y : V} {u : Value} {Q : Unit → Shared → Prop} (I : Inv X pins σ H s) (e : H a = some (.ins C dx fs)) (c : Cls X.K C) (n : NoAttr X.K C f) (hl : fs.length < 1000) (ry : RelV y u)
    (h : ∀ s', Inv X pins σ (upd H a (.ins C dx (putF f y fs))) s' → Q () s') : wpAny (model X.prog X.w) A (setAttr (.ref a) f u) Q E s := by
  obtain ⟨mA, O, r, wi, _, ho⟩ := ins_get I.hok e
  have hz : (fs.map (·.1)).length ≤ sizeLine := by rw [List.length_map, sizeLine_eq]; omega
  refine set_map I.kIn O c.sa c.po n.taker c.hd wi hz fun h' O' sb => h _ ?_
  have hd : ∃ o, h'.get? dx = some o := let ⟨o, _, _, e', _⟩ := O'.ns; ⟨o, e'⟩
  refine I.write (x := a) (e := dx) (by rw [e]; exact True.intro) (.inr ho) (fun b q hb z => (sb.2 b hb).trans z) hd ?_
  refine ⟨by rw [upd_ne O.ne]; exact ho, ?_, O.ne, O'.obj, _, O'.ns, fun g => ?_, fun g hg => ?_⟩
  · have := length_putF f y fs; omega
  · show RelO ((putF f y fs).lookup g) (if g = f then some u else mA g)
    rw [lookup_putF]
    by_cases q : g = f
    · rw [if_pos q, if_pos q]; exact ry
    · rw [if_neg q, if_neg q]; exact r g
  · by_cases q : g = f
    · rw [q]; exact (keys_putF f y fs).1
    · refine (keys_putF f y fs).2 g (wi g fun z => hg ?_)
      show (if g = f then some u else mA g) = none
      rw [if_neg q]; exact z
theorem Inv.made (I : Inv X pins σ H s) : Inv X pins σ (upd (upd H s.heap.objs.size (.own (s.heap.objs.size + 1))) (s.heap.objs.size + 1) (.ins C s.heap.objs.size []))
    { s with heap := (s.heap.push PySem.W.emptyDict).push (PySem.W.instObj C s.heap.objs.size) } := by
  have e1 : (s.heap.push PySem.W.emptyDict).get? s.heap.objs.size = some PySem.W.emptyDict := Heap.get?_push_size s.heap rfl
  have e2 : ((s.heap.push PySem.W.emptyDict).push (PySem.W.instObj C s.heap.objs.size)).get? (s.heap.objs.size + 1) = some (PySem.W.instObj C s.heap.objs.size) := by
    have := Heap.get?_push_size (s.heap.push PySem.W.emptyDict) (o := PySem.W.instObj C s.heap.objs.size) rfl
    rwa [Heap.size_push] at this
  have e3 : (s.heap.push PySem.W.emptyDict).Ns s.heap.objs.size (fun _ => none) := ⟨PySem.W.emptyDict, #[], _, e1, rfl, (fun e he => absurd he (by simp)), fun _ => rfl⟩
  have I1 := I.laid (a := s.heap.objs.size) (o := .own (s.heap.objs.size + 1)) (h' := s.heap.push PySem.W.emptyDict) (t' := s.toks) (fun b u q => Heap.get?_push_of_some _ q) (Nat.le_refl _) ⟨_, e1⟩
  refine I1.laid (a := s.heap.objs.size + 1) (o := .ins C s.heap.objs.size []) (t' := s.toks) (fun b u q => Heap.get?_push_of_some _ q) (Nat.le_of_eq (Heap.size_push _ _)) ?_
  have ne : s.heap.objs.size ≠ s.heap.objs.size + 1 := Nat.ne_of_lt (Nat.lt_succ_self _)
  refine ⟨by rw [upd_ne ne, upd_same], Nat.zero_le _, ne, e2, fun _ => none, (Heap.Ns1.of_empty e3).at fun o q => Heap.get?_push_of_some _ q, fun _ => True.intro, fun y hy => absurd rfl hy⟩
theorem attr_of {prog : Program} {w : World} {env : Env} {e : Expr} {f : Str} {pos : Pos} {s : Shared} {Q : Value → Shared → Prop} (hb : attributeBase e f env (eval e env) = eval e env)
    (h : wpAny (model prog w) A (eval e env) (fun o s₁ => wpAny (model prog w) A (getAttr o f true) Q E s₁) E s) : wpAny (model prog w) A (eval (.Attribute e f pos) env) Q E s :=
  Attribute_any_ h (by rw [arm_eval_Attribute, hb])
end
def tFld (K : PySem.W.Frag) (ta : TE) (f : Str) : TE := fun σ H Q => ta σ H fun x H1 => ∃ a C dx fs v, x = .ref a ∧ H1 a = some (.ins C dx fs) ∧ Cls K C ∧ NoAttr K C f ∧ fs.lookup f = some v ∧ Q v H1
def sFld (K : PySem.W.Frag) (ta tv : TE) (f : Str) : TS := fun D σ H => tv σ H fun y H1 => ta σ H1 fun x H2 => ∃ a C dx fs, x = .ref a ∧ H2 a = some (.ins C dx fs) ∧ Cls K C ∧ NoAttr K C f ∧ fs.length < 1000 ∧
  D.nx σ (upd H2 a (.ins C dx (putF f y fs)))
section
variable {X : Cx} {o e value : Expr} {f : Str} {pos pos' tpos : Pos} {ta tv : TE}
theorem pe_fld (he : PE X e ta) (hb : attributeBase e f X.env (eval e X.env) = eval e X.env) : PE X (.Attribute e f pos) (tFld X.K ta f) := by
  intro pins s σ H Q I h
  refine attr_of hb (thn (he pins s σ H _ I h) fun u s1 ⟨x, H1, I1, rx, a, C, dx, fs, v, ex, ea, c, n, l, q⟩ => ?_)
  subst ex
  obtain rfl : u = Value.ref a := rx
  exact getattr_ok I1 ea c n l fun u' s2 I2 ru => ⟨v, H1, I2, ru, q⟩
theorem ps_fld (ha : PE X o ta) (hv : PE X value tv) (hs : swapsWith value (some (.Attribute o f pos')) pos.line X.env = pure false) : PS X (.Assign [.Attribute o f pos'] value pos) (sFld X.K ta tv f) := by
  intro pins s σ H D I h
  refine plainObj_wpAny_Assign_Attribute (thn (hv pins s σ H _ I h) fun u s1 ⟨y, H1, I1, ry, q⟩ => thn (ha pins s1 σ H1 _ I1 q) fun ov s2 ⟨x, H2, I2, rx, a, C, dx, fs, ex, ea, c, n, l, q2⟩ => ?_) hs
  subst ex
  obtain rfl : ov = Value.ref a := rx
  exact setattr_ok I2 ea c n l ry fun s3 I3 => ⟨σ, _, I3, q2⟩
end
section
variable {X : Cx} {pins : List (Addr × Obj)} {σ : St} {H : Hp} {s : Shared} {A : Around} {E : Value → Shared → Prop} {Q : Value → Shared → Prop} {c : Value} {b : Bool}
inductive TyOf (K : PySem.W.Frag) (H : Hp) : V → Value → Prop where
  | non : TyOf K H .non (.type "NoneType")
  | bl (x : Bool) : TyOf K H (.bl x) (.type "bool")
  | int (i : Int) : TyOf K H (.int i) (.type "int")
  | str (x : Str) : TyOf K H (.str x) (.type "str")
  | flt (x : UInt64) : TyOf K H (.flt x) (.type "float")
  | lst {a : Addr} {xs : List V} (e : H a = some (.lst xs)) : TyOf K H (.ref a) (.type "list")
  | frz {a : Addr} {o : Obj} {xs : List V} (e : H a = some (.frz o (.lst xs))) : TyOf K H (.ref a) (.type "list")
  | tup {a : Addr} {xs : List V} (e : H a = some (.tup xs)) : TyOf K H (.ref a) (.type "tuple")
  | dK {a : Addr} {kvs : List (Key × V)} (e : H a = some (.dK kvs)) : TyOf K H (.ref a) (.type "dict")
  | dT {a : Addr} {kvs : List (List Key × V)} (e : H a = some (.dT kvs)) : TyOf K H (.ref a) (.type "dict")
  | ins {a C dx : Addr} {fs : List (Str × V)} (e : H a = some (.ins C dx fs)) (cl : Cls K C) (ha : PySem.W.findIn K (.ref C) "__class__" = some (some (.builtin "object.__class__")))
      (hn : PySem.W.specialIn K (.builtin "object.__class__") "__get__" = some (some (.builtin "getset_descriptor.__get__"))) (htk : PySem.W.takesIn K (.builtin "object.__class__") = some true)
      (hm : PySem.W.mroIn K C (.type "object") = some true) : TyOf K H (.ref a) (.ref C)
theorem isinst_ok {x : V} {u t : Value} (I : Inv X pins σ H s) (rx : RelV x u) (ty : TyOf X.K H x t) (e : PySem.W.kitOne X.K t c = some b) (h : ∀ tk, Q (.bool b) { s with toks := tk }) :
    wpAny (model X.prog X.w) A (call (.builtin "isinstance") [u, c]) Q E s := by
  cases ty with
  | non => cases (show u = Value.none from rx); exact PySem.W.kia_one PySem.W.kitx_none I.kIn True.intro e (fun z => nomatch z) h
  | bl y => cases (show u = Value.bool y from rx); exact PySem.W.kia_one PySem.W.kitx_bool I.kIn True.intro e (fun z => nomatch z) h
  | int i => obtain ⟨t, q⟩ := (show ∃ t, u = Value.int i t from rx); cases q; exact PySem.W.kia_one PySem.W.kitx_int I.kIn True.intro e (fun z => nomatch z) h
  | str y => obtain ⟨t, q⟩ := (show ∃ t, u = Value.str y t from rx); cases q; exact PySem.W.kia_one PySem.W.kitx_str I.kIn True.intro e (fun z => nomatch z) h
  | flt y => obtain ⟨t, q⟩ := (show ∃ t, u = Value.float y t from rx); cases q; exact PySem.W.kia_one PySem.W.kitx_float I.kIn True.intro e (fun z => nomatch z) h
  | @lst a xs ea =>
    cases (show u = Value.ref a from rx)
    obtain ⟨_, _, n, _, h1⟩ := (show ObjOk X.prog X.w H s.heap a (.lst xs) from I.hok a _ ea)
    exact PySem.W.kia_one PySem.W.kitx_list I.kIn ⟨_, h1, rfl⟩ e (fun z => nomatch z) h
  | @frz a ob xs ea =>
    cases (show u = Value.ref a from rx)
    obtain ⟨_, _, _, n, _, h1⟩ := (show ObjOk X.prog X.w H s.heap a (.frz ob (.lst xs)) from I.hok a _ ea)
    exact PySem.W.kia_one PySem.W.kitx_list I.kIn ⟨_, h1, rfl⟩ e (fun z => nomatch z) h
  | @tup a xs ea =>
    cases (show u = Value.ref a from rx)
    obtain ⟨_, _, _, p⟩ := (show ObjOk X.prog X.w H s.heap a (.tup xs) from I.hok a _ ea)
    obtain ⟨o, h1, h2, _⟩ := p
    exact PySem.W.kia_one PySem.W.kitx_tuple I.kIn ⟨o, h1, h2⟩ e (fun z => nomatch z) h
  | @dK a kvs ea =>
    cases (show u = Value.ref a from rx)
    obtain ⟨_, _, vs, _, p⟩ := (show ObjOk X.prog X.w H s.heap a (.dK kvs) from I.hok a _ ea)
    obtain ⟨o, es, ep, h1, h2, _⟩ := p
    exact PySem.W.kia_one PySem.W.kitx_dict I.kIn ⟨o, h1, h2.1⟩ e (fun z => nomatch z) h
  | @dT a kvs ea =>
    cases (show u = Value.ref a from rx)
    obtain ⟨_, _, xs, _, o, es, ep, h1, h2, _⟩ := (show ObjOk X.prog X.w H s.heap a (.dT kvs) from I.hok a _ ea)
    exact PySem.W.kia_one PySem.W.kitx_dict I.kIn ⟨o, h1, h2.1⟩ e (fun z => nomatch z) h
  | @ins a C dx fs ea cl ha hn htk hm =>
    cases (show u = Value.ref a from rx)
    obtain ⟨mA, O, _⟩ := ins_get I.hok ea
    obtain ⟨od, J, _⟩ := O.look
    exact PySem.W.kia_one (PySem.W.kitx_own (cl.get _) cl.hd ha hn htk hm) I.kIn J e (fun z => nomatch z) h
end
end L2
namespace L2
open PySem PySem.Spec PyProof.Rows
structure Room (k : Nat) (A : Around) : Prop where
  hd : A.handled = none
  dp : A.depth + 3 * k + 5 < recursionLimit
  un : A.units + 16 * k + 200 < cLine
theorem Room.mono {j k : Nat} {A : Around} (r : Room k A) (h : j ≤ k) : Room j A := ⟨r.hd, by have := r.dp; omega, by have := r.un; omega⟩
theorem Room.deeper {k : Nat} {A : Around} (r : Room (k + 1) A) (env : Env) : Room k (A.deeper env) :=
  ⟨r.hd, by have := r.dp; show A.depth + 1 + 3 * k + 5 < _; omega, by have := r.un; show A.units + 3 + 16 * k + 200 < _; omega⟩
theorem make_depth {A : Around} {C : Addr} {us : List Value} {kw : List (Str × Value)} : (A.under (.builtin "type.__call__" ⟨.ref C :: us, kw⟩)).depth = A.depth + 1 := by
  first | rfl | simp [Around.under, Code.weight, Code.isCreation, Code.isGuard, Code.isCaller, Code.frames, Code.isFrame, guardIds]
theorem make_units {A : Around} {C : Addr} {us : List Value} {kw : List (Str × Value)} : (A.under (.builtin "type.__call__" ⟨.ref C :: us, kw⟩)).units = A.units + 1 := by
  first | rfl | simp [Around.under, Code.cUnits, Code.frames, Code.isFrame]
theorem Room.make {k : Nat} {A : Around} (r : Room (k + 1) A) (C : Addr) (us : List Value) (kw : List (Str × Value)) : Room k (A.under (.builtin "type.__call__" ⟨.ref C :: us, kw⟩)) :=
  ⟨r.hd, by have := r.dp; rw [make_depth]; omega, by have := r.un; rw [make_units]; omega⟩
theorem Room.depth {k : Nat} {A : Around} (r : Room k A) : A.depth < recursionLimit := by have := r.dp; omega
theorem Room.units {k : Nat} {A : Around} (r : Room k A) : A.units + 64 < cLine := by have := r.un; omega
def tNil : TA := fun _ H Q => Q [] H
def tCons (ta : TE) (tr : TA) : TA := fun σ H Q => ta σ H fun x H1 => tr σ H1 fun xs H2 => Q (x :: xs) H2
section
variable {X : Cx} {e : Expr} {es : List Expr} {te : TE} {t : TA} {pos : Pos}
theorem pa_nil : PA X [] tNil := fun _ _ _ _ H Q I h => Calls.spliced_nil ⟨[], H, I, .nil, h⟩
theorem pa_cons (ha : PE X e te) (hr : PA X es t) (hs : starEach (e :: es) X.env = (false, eval e X.env) :: starEach es X.env := by rfl) : PA X (e :: es) (tCons te t) := by
  intro pos pins s σ H Q I h
  rw [hs]
  show wpAny _ _ (spliced ((false, eval e X.env) :: backTo pos (starEach es X.env))) _ _ s
  refine Calls.spliced_cons (thn (ha pins s σ H _ I h) fun u s1 ⟨x, H1, I1, r1, q1⟩ => ?_)
  exact thn (hr pos pins s1 σ H1 _ I1 q1) fun us s2 ⟨xs, H2, I2, r2, q2⟩ => ⟨x :: xs, H2, I2, .cons r1 r2, q2⟩
def tTup (t : TA) : TE := fun σ H Q => t σ H fun xs H1 => xs.length ≤ sizeLine ∧ ∀ p, H1 p = none → Q (.ref p) (upd H1 p (.tup xs))
def tLst (t : TA) : TE := fun σ H Q => t σ H fun xs H1 => xs.length ≤ sizeLine ∧ ∀ p, H1 p = none → Q (.ref p) (upd H1 p (.lst xs))
theorem pe_tup {x1} (h : PA X es t) : PE X (.Tuple es x1 pos) (tTup t) := by
  intro pins s σ H Q I hq
  refine wpAny_Tuple_spliced (thn (h pos pins s σ H _ I hq) fun us s1 ⟨xs, H1, I1, r, z, q⟩ => ⟨by rw [← r.length]; exact z, ?_⟩)
  have hf : H1 s1.heap.objs.size = none := I1.hok.fresh (Nat.le_refl _)
  refine ⟨.ref s1.heap.objs.size, upd H1 s1.heap.objs.size (.tup xs), I1.laid (t' := s1.toks) (fun b u e => Heap.get?_push_of_some _ e) (Nat.le_refl _) ?_, rfl, q _ hf⟩
  exact ⟨z, us, r, ⟨_, Heap.get?_push_size _ rfl, rfl, _, rfl⟩⟩
theorem pe_lst (h : PA X es t) : PE X (.List es pos) (tLst t) := by
  intro pins s σ H Q I hq
  refine wpAny_List_spliced (thn (h pos pins s σ H _ I hq) fun us s1 ⟨xs, H1, I1, r, z, q⟩ => ⟨by rw [← r.length]; exact z, ?_⟩)
  have hf : H1 s1.heap.objs.size = none := I1.hok.fresh (Nat.le_refl _)
  refine ⟨.ref s1.heap.objs.size, upd H1 s1.heap.objs.size (.lst xs), I1.laid (t' := s1.toks) (fun b u e => Heap.get?_push_of_some _ e) (Nat.le_refl _) ?_, rfl, q _ hf⟩
  exact ⟨z, us, 0, r, Heap.get?_push_size _ rfl⟩
end
abbrev Sp := List V → Hp → VK → XK → Prop
abbrev CXT := List Env → Hp → Shared → XK → Value → Shared → Prop
structure Env0 (P : Program) (w : World) (K : PySem.W.Frag) (mg : Str → Option Value) (base : Heap) (A : Around) (outer : List Env) (s : Shared) (H : Hp) : Prop where
  frames : A.frames = some outer
  mod : Mod K mg base
  bs : ∀ b o, base.get? b = some o → s.heap.get? b = some o ∧ H b = none
  bsz : base.objs.size ≤ s.heap.objs.size
  funs : s.heap.FunFrames base outer
  frf : ∀ b ∈ frs outer, H b = none
  hok : HOk P w H s.heap
  bare : AllBare s.gens
def CE (outer : List Env) (P : Program) (w : World) (H : Hp) (s : Shared) (Q : VK) (u : Value) (s' : Shared) : Prop :=
  ∃ v H', s'.os = s.os ∧ AllBare s'.gens ∧ Un (frs outer) [] H H' s.heap s'.heap ∧ HOk P w H' s'.heap ∧ RelV v u ∧ Q v H'
def CR (CX : CXT) (outer : List Env) (P : Program) (w : World) (H : Hp) (s : Shared) (Q : VK) (E : XK) (r : Result) (s' : Shared) : Prop :=
  match r with
  | .ok (.ret u) => CE outer P w H s Q u s'
  | .ok _ => False
  | .error e => CX outer H s E e s'
structure FnOk (P : Program) (w : World) (K : PySem.W.Frag) (mg : Str → Option Value) (base : Heap) (CX : CXT) (k : Nat) (f : Addr) (fd : FuncData) (ps : List Str) (sp : Sp) : Prop where
  len : ∀ vs H Q E, sp vs H Q E → vs.length = ps.length
  run : ∀ (A : Around) (outer : List Env) (s : Shared) (H : Hp) (args : Args) (us : List Value) (vs : List V) (Q : VK) (E : XK), Room k A → Env0 P w K mg base A outer s H → BindsTo s fd args (ps.zip us) → Vals vs us → sp vs H Q E →
    codeAny (model P w) A (.call (.ref f) args) (CR CX outer P w H s Q E) s
theorem Env0.make {P : Program} {w : World} {K : PySem.W.Frag} {mg : Str → Option Value} {base : Heap} {A : Around} {outer : List Env} {s : Shared} {H : Hp} (e : Env0 P w K mg base A outer s H) (C : Addr) (us : List Value) (kw : List (Str × Value)) :
    Env0 P w K mg base (A.under (.builtin "type.__call__" ⟨.ref C :: us, kw⟩)) outer s H := ⟨by first | exact e.frames | (simpa [Around.under, Code.envs, Code.isFrame, pushEnvs] using e.frames), e.mod, e.bs, e.bsz, e.funs, e.frf, e.hok, e.bare⟩
section
variable {X : Cx} {pins : List (Addr × Obj)} {σ : St} {H : Hp} {s s' : Shared}
theorem Inv.env0 (I : Inv X pins σ H s) : Env0 X.prog X.w X.K X.mg X.base X.A X.stack s H :=
  ⟨I.ok.frames, I.ok.mod, I.bs, Nat.le_trans I.ok.bsz I.sz, I.stack, I.stkFree, I.hok, I.bare⟩
theorem Inv.after {Q : VK} {u : Value} (I : Inv X pins σ H s) (h : CE X.stack X.prog X.w H s Q u s') : EP X pins σ Q u s' := by
  obtain ⟨v, H', os, bare, un, hok, r, q⟩ := h
  obtain ⟨hh, g, d, t, os'⟩ := s'
  obtain rfl : os' = s.os := os
  exact ⟨v, H', I.call (h' := hh) (g' := g) (d' := d) (t' := t) (ch := []) un hok bare (fun b z => absurd z (by simp)), r, q⟩
end
def tCall (sp : Sp) (dvs : List V) (E : XK) (t : TA) : TE := fun σ H Q => t σ H fun vs H1 => sp (vs ++ dvs) H1 Q E
def tMeth (C : Addr) (m : Str) (sp : Sp) (dvs : List V) (E : XK) (ta : TE) (t : TA) : TE := fun σ H Q => ta σ H fun x H1 => ∃ a dx fs, x = .ref a ∧ H1 a = some (.ins C dx fs) ∧ fs.lookup m = none ∧
  t σ H1 fun vs H2 => sp (x :: (vs ++ dvs)) H2 Q E
def tMake (C : Addr) (sp : Sp) (dvs : List V) (E : XK) (t : TA) : TE := fun σ H Q => t σ H fun vs H1 => ∀ x dx, H1 x = none → H1 dx = none → dx ≠ x →
  sp (.ref x :: (vs ++ dvs)) (upd (upd H1 dx (.own x)) x (.ins C dx [])) (fun v H2 => v = .non ∧ Q (.ref x) H2) E
def Binds (K : PySem.W.Frag) (fd : FuncData) (ps : List Str) (ds : List Value) : Prop :=
  ∀ (s : Shared) (us : List Value), K.In s.heap → (us ++ ds).length = ps.length → BindsTo s fd ⟨us, []⟩ (ps.zip (us ++ ds))
theorem Binds.all {K : PySem.W.Frag} {fd : FuncData} {ps : List Str} (h : ∀ us : List Value, us.length = ps.length → bindArgs fd ⟨us, []⟩ = pure (ps.zip us)) : Binds K fd ps [] := fun s us _ hl => by
  rw [List.append_nil] at hl ⊢
  exact .of_eq (h us hl)
def Passes (CX : CXT) (X : Cx) (E : XK) : Prop := ∀ (pins : List (Addr × Obj)) (σ : St) (H : Hp) (s : Shared) (e : Value) (s' : Shared), Inv X pins σ H s → CX X.stack H s E e s' → X.xe e s'
section
variable {X : Cx} {CX : CXT} {k : Nat} {f C : Addr} {fd : FuncData} {ps : List Str} {sp : Sp} {dvs : List V} {ds : List Value} {E : XK} {x m : Str} {p pos apos : Pos} {e o : Expr} {es : List Expr} {ta : TE} {t : TA}
theorem run_fn {pins : List (Addr × Obj)} {σ : St} {H : Hp} {s : Shared} {Q : VK} {us : List Value} {vs : List V} (F : FnOk X.prog X.w X.K X.mg X.base CX k f fd ps sp) (hr : Room k X.A) (hb : Binds X.K fd ps ds) (hd : Vals dvs ds) (hx : Passes CX X E)
    (I : Inv X pins σ H s) (r : Vals vs us) (h : sp (vs ++ dvs) H Q E) : wpAny (model X.prog X.w) X.A (call (.ref f) us) (EP X pins σ Q) X.xe s := by
  have r2 : Vals (vs ++ dvs) (us ++ ds) := r.append hd
  have hl : (us ++ ds).length = ps.length := by rw [← r2.length]; exact F.len _ _ _ _ h
  refine wpAny_call (codeAny_mono (F.run X.A X.stack s H ⟨us, []⟩ (us ++ ds) (vs ++ dvs) Q E hr I.env0 (hb s us I.kIn hl) r2 h) fun r s' hq => ?_)
  cases r with
  | error e => exact hx pins σ H s e s' I hq
  | ok fl =>
    cases fl with
    | ret u => exact I.after hq
    | next => exact False.elim hq
    | brk => exact False.elim hq
    | cont => exact False.elim hq
theorem pe_call (F : FnOk X.prog X.w X.K X.mg X.base CX k f fd ps sp) (hr : Room k X.A) (hg : Gl X x) (hm : X.mg x = some (.ref f)) (hk : PySem.W.keepIn X.K (.ref f) = true) (hb : Binds X.K fd ps ds) (hd : Vals dvs ds) (hx : Passes CX X E)
    (ha : PA X (e :: es) t) (hdb : (x == ("__debug__" : Str)) = false := by decide) (he : starEach (e :: es) X.env = (false, eval e X.env) :: starEach es X.env := by rfl) (hpl : (backTo pos (starEach es X.env)).any (·.1) = false := by rfl) :
    PE X (.Call (.Name x p) (e :: es) [] pos) (tCall sp dvs E t) := by
  intro pins s σ H Q I h
  refine wpAny_Call_Name_kw (ld_glob I hg hm ?_ hdb)
  refine PySem.W.callWith_K (h₀ := X.base) I.ok.mod.kin hk (thn (ha pos pins s σ H _ I h) fun us s1 ⟨vs, H1, I1, r, q⟩ => ⟨I1.kIn, ?_⟩) he hpl
  exact run_fn F hr hb hd hx I1 r q
theorem pe_meth {pl : Sem Bool} (he : PE X o ta) (c : Cls X.K C) (hm : Meth X.K C m f) (F : FnOk X.prog X.w X.K X.mg X.base CX k f fd ps sp) (hr : Room k X.A) (hb : Binds X.K fd ps ds) (hd : Vals dvs ds) (hx : Passes CX X E) (ha : PA X (e :: es) t)
    (hst : starEach (e :: es) X.env = (false, eval e X.env) :: starEach es X.env := by rfl) (hpl : (backTo pos (starEach es X.env)).any (·.1) = false := by rfl)
    (ht : eval (.Call (.Attribute o m apos) (e :: es) [] pos) X.env = (do
      let ov ← eval o X.env
      standAt apos.atName
      let (f, first) ← holding [ov] (getMethod ov m pl)
      callWith pos f first (backTo pos (starEach (e :: es) X.env)) (backToKw pos (keywordEach [] X.env))) := by rfl) :
    PE X (.Call (.Attribute o m apos) (e :: es) [] pos) (tMeth C m sp dvs E ta t) := by
  intro pins s σ H Q I h
  refine PySem.W.methodCall_KW (pl := pl) (thn (he pins s σ H _ I h) fun u s1 ⟨x, H1, I1, rx, a, dx, fs, ex, ea, l, q⟩ => ?_) ht
  subst ex
  obtain rfl : u = Value.ref a := rx
  refine getmeth_ok I1 ea c hm l ?_
  refine PySem.W.callWith_K (first := [.ref a]) (h₀ := X.base) I.ok.mod.kin hm.kp (thn (ha pos pins s1 σ H1 _ I1 q) fun us s2 ⟨vs, H2, I2, r, q2⟩ => ⟨I2.kIn, ?_⟩) hst hpl
  exact run_fn (us := .ref a :: us) (vs := .ref a :: vs) F hr hb hd hx I2 (.cons rfl r) q2
theorem pe_meth0 {pl : Sem Bool} (he : PE X o ta) (c : Cls X.K C) (hm : Meth X.K C m f) (F : FnOk X.prog X.w X.K X.mg X.base CX k f fd ps sp) (hr : Room k X.A) (hb : Binds X.K fd ps ds) (hd : Vals dvs ds) (hx : Passes CX X E)
    (ht : eval (.Call (.Attribute o m apos) [] [] pos) X.env = (do
      let ov ← eval o X.env
      standAt apos.atName
      let (f, first) ← holding [ov] (getMethod ov m pl)
      callWith pos f first (backTo pos (starEach [] X.env)) (backToKw pos (keywordEach [] X.env))) := by rfl) :
    PE X (.Call (.Attribute o m apos) [] [] pos) (tMeth C m sp dvs E ta tNil) := by
  intro pins s σ H Q I h
  refine PySem.W.methodCall_KW (pl := pl) (thn (he pins s σ H _ I h) fun u s1 ⟨x, H1, I1, rx, a, dx, fs, ex, ea, l, q⟩ => ?_) ht
  subst ex
  obtain rfl : u = Value.ref a := rx
  refine getmeth_ok I1 ea c hm l ?_
  exact PySem.W.callWith_K0 (first := [.ref a]) I1.kIn hm.kp (run_fn (us := [.ref a]) (vs := [.ref a]) F hr hb hd hx I1 (.cons rfl .nil) q)
structure Mk (K : PySem.W.Frag) (C f : Addr) : Prop where
  makes : PySem.W.makesIn K C = true
  init : PySem.W.findIn K (.ref C) "__init__" = some (some (.ref f))
  fn : PySem.W.isFn K (.ref f) = true
  kp : PySem.W.keepIn K (.ref C) = true
theorem run_make {pins : List (Addr × Obj)} {σ : St} {H : Hp} {s : Shared} {Q : VK} {us : List Value} {vs : List V} (M : Mk X.K C f) (F : FnOk X.prog X.w X.K X.mg X.base CX k f fd ps sp) (hr : Room (k + 1) X.A) (hb : Binds X.K fd ps ds) (hd : Vals dvs ds)
    (hx : Passes CX X E) (I : Inv X pins σ H s) (r : Vals vs us)
    (h : ∀ x dx, H x = none → H dx = none → dx ≠ x → sp (.ref x :: (vs ++ dvs)) (upd (upd H dx (.own x)) x (.ins C dx [])) (fun v H2 => v = .non ∧ Q (.ref x) H2) E) :
    wpAny (model X.prog X.w) X.A (call (.ref C) us) (EP X pins σ Q) X.xe s := by
  have hq := h (s.heap.objs.size + 1) s.heap.objs.size (I.hok.fresh (Nat.le_succ _)) (I.hok.fresh (Nat.le_refl _)) (Nat.ne_of_lt (Nat.lt_succ_self _))
  have I2 := Inv.made (C := C) I
  have r2 : Vals (V.ref (s.heap.objs.size + 1) :: (vs ++ dvs)) (Value.ref (s.heap.objs.size + 1) :: (us ++ ds)) := .cons rfl (r.append hd)
  have hl : (Value.ref (s.heap.objs.size + 1) :: us ++ ds).length = ps.length := by
    have e := r2.length
    rw [F.len _ _ _ _ hq] at e
    exact e.symm
  refine wpAny_call (make_map (f := f) I.kIn M.makes M.init (beq_iff_eq.mp M.fn) (codeAny_mono (F.run _ X.stack _ _ ⟨Value.ref (s.heap.objs.size + 1) :: us, []⟩ (Value.ref (s.heap.objs.size + 1) :: (us ++ ds)) _ _ E (hr.make C us [])
    (I2.env0.make C us []) (hb _ (Value.ref (s.heap.objs.size + 1) :: us) I2.kIn hl) r2 hq) fun r s' hq' => ?_))
  cases r with
  | error e => exact hx pins σ _ _ e s' I2 hq'
  | ok fl =>
    cases fl with
    | ret u =>
      obtain ⟨v, H', I3, rv, ev, q3⟩ := I2.after hq'
      subst ev
      exact ⟨rv, ⟨V.ref (s.heap.objs.size + 1), H', I3, rfl, q3⟩⟩
    | next => exact False.elim hq'
    | brk => exact False.elim hq'
    | cont => exact False.elim hq'
theorem pe_make (M : Mk X.K C f) (F : FnOk X.prog X.w X.K X.mg X.base CX k f fd ps sp) (hr : Room (k + 1) X.A) (hg : Gl X x) (hm : X.mg x = some (.ref C)) (hb : Binds X.K fd ps ds) (hd : Vals dvs ds) (hx : Passes CX X E)
    (ha : PA X (e :: es) t) (hdb : (x == ("__debug__" : Str)) = false := by decide) (he : starEach (e :: es) X.env = (false, eval e X.env) :: starEach es X.env := by rfl) (hpl : (backTo pos (starEach es X.env)).any (·.1) = false := by rfl) :
    PE X (.Call (.Name x p) (e :: es) [] pos) (tMake C sp dvs E t) := by
  intro pins s σ H Q I h
  refine wpAny_Call_Name_kw (ld_glob I hg hm ?_ hdb)
  refine PySem.W.callWith_K (h₀ := X.base) I.ok.mod.kin M.kp (thn (ha pos pins s σ H _ I h) fun us s1 ⟨vs, H1, I1, r, q⟩ => ⟨I1.kIn, ?_⟩) he hpl
  exact run_make M F hr hb hd hx I1 r q
end
section
variable {X : Cx} {CX : CXT} {k : Nat} {f C : Addr} {fd : FuncData} {ps ks : List Str} {sp : Sp} {E : XK} {x m : Str} {p pos apos kpos : Pos} {e o : Expr} {es : List Expr} {kws : List Keyword} {te ta : TE} {t tk : TA} {nm : Option Str}
variable {g : List Value → List Value → List Value} {gV : List V → List V → List V}
end
structure FnScope (N P : List Str) (sc : Scope) : Prop where
  kind : sc.kind = .function
  co : sc.isCoroutine = false
  gen : sc.isGenerator = false
  nd : N.Nodup
  pre : N.take P.length = P
  par : ∀ x ∈ P, sc.names.lookup x = some .local ∨ sc.names.lookup x = some .cell
  nofree : ∀ y ∈ sc.names, y.2 ≠ .free
theorem bindL_out {kindOf : Str → Option NameKind} {x : Str} : ∀ {binds : List (Str × Value)} {m : Str → Option Value}, (∀ v, (x, v) ∉ binds) → bindL kindOf binds m x = m x
  | [], _, _ => rfl
  | (n, v) :: r, m, h => by
    unfold bindL
    rw [bindL_out fun w hw => h w (List.mem_cons_of_mem _ hw)]
    split
    · have : x ≠ n := by rintro rfl; exact h v List.mem_cons_self
      simp [this]
    · rfl
theorem bindC_out {kindOf : Str → Option NameKind} {x : Str} : ∀ {binds : List (Str × Value)} {m : Str → Option Value}, (∀ v, (x, v) ∉ binds) → bindC kindOf binds m x = m x
  | [], _, _ => rfl
  | (n, v) :: r, m, h => by
    unfold bindC
    rw [bindC_out fun w hw => h w (List.mem_cons_of_mem _ hw)]
    split
    · rfl
    · have : x ≠ n := by rintro rfl; exact h v List.mem_cons_self
      simp [this]
theorem bindL_get {kindOf : Str → Option NameKind} {x : Str} {v : Value} : ∀ {P : List Str} {vs : List Value} {i : Nat} {m : Str → Option Value}, P.Nodup → P[i]? = some x → vs[i]? = some v → kindOf x = some .local →
    bindL kindOf (P.zip vs) m x = some v
  | [], _, _, _, _, h, _, _ => by simp at h
  | _ :: _, [], _, _, _, _, h, _ => by simp at h
  | p :: P, w :: vs, 0, m, nd, h1, h2, hk => by
    simp at h1 h2; subst h1; subst h2
    show bindL kindOf ((p, w) :: P.zip vs) m p = _
    unfold bindL
    rw [bindL_out fun v hv => (List.nodup_cons.mp nd).1 (List.of_mem_zip hv).1, if_pos hk]
    simp
  | p :: P, w :: vs, i + 1, m, nd, h1, h2, hk => by
    show bindL kindOf ((p, w) :: P.zip vs) m x = _
    unfold bindL
    exact bindL_get (i := i) (List.nodup_cons.mp nd).2 (by simpa using h1) (by simpa using h2) hk
theorem bindC_get {kindOf : Str → Option NameKind} {x : Str} {v : Value} : ∀ {P : List Str} {vs : List Value} {i : Nat} {m : Str → Option Value}, P.Nodup → P[i]? = some x → vs[i]? = some v → kindOf x ≠ some .local →
    bindC kindOf (P.zip vs) m x = some v
  | [], _, _, _, _, h, _, _ => by simp at h
  | _ :: _, [], _, _, _, _, h, _ => by simp at h
  | p :: P, w :: vs, 0, m, nd, h1, h2, hk => by
    simp at h1 h2; subst h1; subst h2
    show bindC kindOf ((p, w) :: P.zip vs) m p = _
    unfold bindC
    rw [bindC_out fun v hv => (List.nodup_cons.mp nd).1 (List.of_mem_zip hv).1, if_neg hk]
    simp
  | p :: P, w :: vs, i + 1, m, nd, h1, h2, hk => by
    show bindC kindOf ((p, w) :: P.zip vs) m x = _
    unfold bindC
    exact bindC_get (i := i) (List.nodup_cons.mp nd).2 (by simpa using h1) (by simpa using h2) hk
def start (N : List Str) (vs : List V) : St := vs.map some ++ List.replicate (N.length - vs.length) none
def cxOf (CX : CXT) (P : Program) (w : World) (K : PySem.W.Frag) (mg : Str → Option Value) (base : Heap) (N : List Str) (qual : Str) (scope : Scope) (f : Addr) (cd : Value) (A : Around) (outer : List Env) (s : Shared) (H : Hp) (E : XK) : Cx where
  prog := P
  w := w
  K := K
  mg := mg
  base := base
  A := A.deeper (envOfC qual scope s.heap.objs.size f cd)
  N := N
  s₀ := s
  H₀ := H
  env := envOfC qual scope s.heap.objs.size f cd
  outer := outer
  stack := envOfC qual scope s.heap.objs.size f cd :: outer
  ex := []
  calm := true
  fn := fun _ => true
  pn := []
  xe := fun e s' => wpAny (model P w) (A.deeper (envOfC qual scope s.heap.objs.size f cd)) (leaving (envOfC qual scope s.heap.objs.size f cd) e) (fun _ s'' => CX outer H s E e s'') (fun e' s'' => CX outer H s E e' s'') s'
theorem cell_has {sc : Scope} {n : Nat} {x : Str} (h : sc.names.lookup x = some .cell) : ∃ c, (cellsFrom n sc.names []).lookup x = some c := by
  have q := PySem.W.cellsFrom_some sc.names n [] (.inl h)
  exact Option.isSome_iff_exists.mp q
theorem inv_start {CX : CXT} {P : Program} {w : World} {K : PySem.W.Frag} {mg : Str → Option Value} {base : Heap} {N ps : List Str} {qual : Str} {scope : Scope} {f : Addr} {cd : Value} {A : Around} {outer : List Env} {s s1 : Shared} {H : Hp} {E : XK} {us : List Value} {vs : List V}
    (S : FnScope N ps scope) (hd : A.handled = none) (e0 : Env0 P w K mg base A outer s H) (hl : vs.length = ps.length) (r : Vals vs us)
    (x : InCallC s s.heap.objs.size (bindL (envOfC qual scope s.heap.objs.size f cd).kindOf (ps.zip us) fun _ => none) (cellsFrom (s.heap.objs.size + 1) scope.names []) (bindC (envOfC qual scope s.heap.objs.size f cd).kindOf (ps.zip us) fun _ => none) s1) :
    Inv (cxOf CX P w K mg base N qual scope f cd A outer s H E) [] (start N vs) H s1 := by
  have hpl : ps.length ≤ N.length := by have := congrArg List.length S.pre; rw [List.length_take] at this; omega
  obtain ⟨h1, tk, rfl, hk⟩ := x.done
  have noA : ∀ b : Addr, b ∉ (cxOf CX P w K mg base N qual scope f cd A outer s H E).ex := fun b z => absurd (show b ∈ ([] : List Addr) from z) (by simp)
  refine ⟨⟨e0.mod, S.kind, rfl, rfl, Nat.le_refl _, fun y z c h1 h2 => ?_, fun y hy => ?_, fun y c _ h => ?_, fun _ => hd, Around.frames_deeper e0.frames, .inr ⟨rfl, rfl⟩, fun b z => absurd z (noA b), e0.bs, e0.bsz, fun b _ _ => noA b, fun b z => absurd z (noA b), e0.funs, e0.frf⟩,
    rfl, e0.bare, Un.kept hk, ⟨_, x.toInCall.ns, fun i y v h1 h2 h3 => ?_⟩, fun y c h => ⟨_, x.cell y c h⟩, e0.hok.fresh (Nat.le_refl _), fun y c h => ?_, fun p hp => absurd (show p ∈ ([] : List (Addr × Obj)) from hp) (by simp), e0.hok.kept hk, ?_⟩
  · exact name_of_addr x.apart (PySem.mem_of_lookup h1) (PySem.mem_of_lookup h2)
  · have hy : scope.names.lookup y = some .cell ∨ scope.names.lookup y = some .free := hy
    rcases hy with hy | hy
    · exact cell_has hy
    · exact absurd rfl (S.nofree _ (PySem.mem_of_lookup hy))
  · exact Nat.le_of_lt (x.above y c (PySem.mem_of_lookup h))
  · have hi : i < vs.length := by
      unfold start at h2
      by_cases hi : i < vs.length
      · exact hi
      · rw [List.getElem?_append_right (by simpa using hi)] at h2
        rw [List.getElem?_replicate] at h2
        split at h2 <;> cases h2
    have ha : vs[i]? = some v := by
      unfold start at h2
      rw [List.getElem?_append_left (by simpa using hi), List.getElem?_map] at h2
      cases e : vs[i]? with
      | none => rw [e] at h2; cases h2
      | some a => rw [e] at h2; cases h2; rfl
    obtain ⟨u, hu, rv⟩ := r.get ha
    have hp : ps[i]? = some y := by
      rw [← S.pre, List.getElem?_take_of_lt (by omega)]; exact h1
    have ndP : ps.Nodup := by rw [← S.pre]; exact S.nd.sublist (List.take_sublist _ _)
    refine ⟨u, rv, ?_⟩
    rcases S.par y (List.mem_of_getElem? hp) with k | k
    · exact .inl ⟨k, bindL_get ndP hp hu k⟩
    · obtain ⟨c, e⟩ := cell_has (n := s.heap.objs.size + 1) k
      refine .inr ⟨.inl k, c, e, ?_⟩
      have q := x.cell y c e
      rw [bindC_get ndP hp hu (by show scope.names.lookup y ≠ _; rw [k]; decide)] at q
      exact q
  · exact e0.hok.fresh (Nat.le_of_lt (x.above y c (PySem.mem_of_lookup h)))
  · unfold start
    show _ = N.length
    rw [List.length_append, List.length_map, List.length_replicate]
    omega
theorem fn_of {CX : CXT} {P : Program} {w : World} {K : PySem.W.Frag} {mg : Str → Option Value} {base : Heap} {k : Nat} {f : Addr} {name qual : Str} {params : Arguments} {body : List Stmt} {scope : Scope} {dV kV doc pm cdv ct oc : Value} {an od : Option Addr}
    {osl : Array (Option Value)} {N ps : List Str} {sp : Sp} (lk : K.lookup f = some ⟨oc, od, .func (PySem.W.fnOf name qual params body scope dV kV doc pm an cdv ct), osl⟩) (hcd : PySem.W.codeIn K cdv qual = true) (S : FnScope N ps scope)
    (len : ∀ vs H Q E, sp vs H Q E → vs.length = ps.length)
    (hbody : ∀ (A : Around) (outer : List Env) (s : Shared) (H : Hp) (vs : List V) (Q : VK) (E : XK), Room k (A.deeper (envOfC qual scope s.heap.objs.size f cdv)) → sp vs H Q E →
      ∃ t, PSs (cxOf CX P w K mg base N qual scope f cdv A outer s H E) body t ∧ t { nx := fun _ H' => Q .non H', rt := Q } (start N vs) H) :
    FnOk P w K mg base CX (k + 1) f (PySem.W.fnOf name qual params body scope dV kV doc pm an cdv ct) ps sp := by
  refine ⟨len, fun A outer s H args us vs Q E hr e0 hb r hsp => ?_⟩
  have hl := len _ _ _ _ hsp
  have KX : K.In s.heap := e0.mod.kin.keeps fun b o e => (e0.bs b o e).1
  have lim : s.heap.NoLimit := e0.mod.nolimit.keeps fun b o e => (e0.bs b o e).1
  have hkind : ∀ y ∈ ps.zip us, scope.names.lookup y.1 = some .local ∨ (scope.names.lookup y.1 = some .cell ∧ ((cellsFrom (s.heap.objs.size + 1) scope.names []).lookup y.1).isSome = true) := fun ⟨n, v⟩ hy => by
    rcases S.par n (List.of_mem_zip hy).1 with q | q
    · exact .inl q
    · exact .inr ⟨q, PySem.W.cellsFrom_some _ _ _ (.inl q)⟩
  refine codeAny_call_function hr.depth (KX _ _ lk) rfl S.co S.gen rfl (PySem.W.codeRec_of KX hcd) (hb _ _ _ _ ?_)
  refine wpAny_newFunctionEnv_cells S.kind hkind fun env he s1 x => ?_
  subst he
  refine ⟨lim.keeps x.toInCall.keep, codeAny_func ?_⟩
  obtain ⟨t, ht, hq⟩ := hbody A outer s H vs Q E (hr.deeper _) hsp
  have I : Inv (cxOf CX P w K mg base N qual scope f cdv A outer s H E) [] (start N vs) H s1 := inv_start S hr.hd e0 hl r x
  refine wpAny_mono (ht [] s1 (start N vs) H _ I hq) (fun fl s' hs => ?_) fun e s' hs => hs
  have fin : ∀ {σ' : St} {H' : Hp} {v : V} {u : Value}, Inv (cxOf CX P w K mg base N qual scope f cdv A outer s H E) [] σ' H' s' → RelV v u → Q v H' → CE outer P w H s Q u s' :=
    fun {σ' H' v u} J rv q => ⟨v, H', J.os, J.bare, J.base, J.hok, rv, q⟩
  cases fl with
  | ret u =>
    obtain ⟨v, σ', H', J, rv, q⟩ := hs
    exact fin J rv q
  | next =>
    obtain ⟨σ', H', J, q⟩ := hs
    exact fin (v := V.non) (u := Value.none) J rfl q
  | brk =>
    obtain ⟨_, _, _, q⟩ := hs
    exact False.elim q
  | cont =>
    obtain ⟨_, _, _, q⟩ := hs
    exact False.elim q
end L2
namespace L2
open PySem PySem.Spec PyProof.Rows
section
variable {X : Cx} {x : Str} {p pos : Pos} {e : Expr} {es : List Expr} {t : TA} {id T : String} {r : List V → Hp → VK → Prop}
def tCB (r : List V → Hp → VK → Prop) (t : TA) : TE := fun σ H Q => t σ H fun vs H1 => r vs H1 Q
theorem pe_callB (hc : CallR X (.builtin id) r) (hg : Gl X x) (hm : X.mg x = none) (hv : bootBuiltins x = some (.builtin id)) (ha : PA X (e :: es) t) (hn : x ≠ "__name__" := by decide) (hdb : (x == ("__debug__" : Str)) = false := by decide)
    (he : starEach (e :: es) X.env = (false, eval e X.env) :: starEach es X.env := by rfl) (hpl : (backTo pos (starEach es X.env)).any (·.1) = false := by rfl) : PE X (.Call (.Name x p) (e :: es) [] pos) (tCB r t) := by
  intro pins s σ H Q I h
  refine wpAny_Call_Name_kw (ld_blt I hg hm hv ?_ hn hdb)
  exact PyProof.Rows.callWith_builtin1 (thn (ha pos pins s σ H _ I h) fun us s1 ⟨vs, H1, I1, r1, q1⟩ => hc pins s1 σ H1 vs us Q I1 r1 q1) he hpl
theorem pe_callTy (hc : CallR X (.type T) r) (hg : Gl X x) (hm : X.mg x = none) (hv : bootBuiltins x = some (.type T)) (ha : PA X (e :: es) t) (hn : x ≠ "__name__" := by decide) (hdb : (x == ("__debug__" : Str)) = false := by decide)
    (he : starEach (e :: es) X.env = (false, eval e X.env) :: starEach es X.env := by rfl) (hpl : (backTo pos (starEach es X.env)).any (·.1) = false := by rfl) : PE X (.Call (.Name x p) (e :: es) [] pos) (tCB r t) := by
  intro pins s σ H Q I h
  refine wpAny_Call_Name_kw (ld_blt I hg hm hv ?_ hn hdb)
  exact PyProof.Rows.callWith_type1 (thn (ha pos pins s σ H _ I h) fun us s1 ⟨vs, H1, I1, r1, q1⟩ => hc pins s1 σ H1 vs us Q I1 r1 q1) he hpl
end
end L2
namespace HT
open PySem PyProof.Rows
section
open PySem.SeqAt
open PySem.AutoSeq1 (wpAny_loadPart')
open PySem.MeetsSeq PySem.MeetsSeq2 PySem.MeetsSeq3
end
section
variable {prog : Program} {w : World} {A : Around} {E : Value → Shared → Prop} {s : Shared}
theorem cat_tup {t b : Addr} {vs ws : List Value} {Q : Value → Shared → Prop} (ht : IsTup s.heap t vs.toArray) (hb : IsTup s.heap b ws.toArray) (hv : vs ≠ [])
    (h1 : ws = [] → Q (.ref t) s) (h2 : ws ≠ [] → Q (.ref s.heap.objs.size) { s with heap := s.heap.push { cls := .type "tuple", data := .seq (vs ++ ws).toArray } })
    (hsz : vs.length + ws.length ≤ sizeLine) : wpAny (model prog w) A (binaryOp .Add (.ref t) (.ref b)) Q E s := by
  obtain ⟨⟨cls, dd, data, sl⟩, ho, hc, n, hd⟩ := id ht
  obtain ⟨⟨cls2, dd2, data2, sl2⟩, ho2, hc2, n2, hd2⟩ := id hb
  simp only at hc hd hc2 hd2
  subst hc hd hc2 hd2
  have e : vs.toArray ++ ws.toArray = (vs ++ ws).toArray := by simp
  by_cases hw : ws = []
  · exact concat_meets ⟨_, ho, rfl⟩ ⟨_, ho2, rfl⟩ noFill_tuple_add seq_tuple_add PySem.F.slot_tuple_add PySem.F.entry_tuple_add (PySem.F.args_tuple_add_2 _ _)
      (tuple_addW1 t b vs.toArray ws.toArray n n2 dd dd2 sl sl2 (by simpa using hv) (by simp [hw])) ⟨ho, ho2, h1 hw⟩
  · refine concat_meets ⟨_, ho, rfl⟩ ⟨_, ho2, rfl⟩ noFill_tuple_add seq_tuple_add PySem.F.slot_tuple_add PySem.F.entry_tuple_add (PySem.F.args_tuple_add_2 _ _)
      (tuple_addW2 t b vs.toArray ws.toArray n n2 dd dd2 sl sl2 (by simpa using hv) (by simpa using hw) (by rw [List.size_toArray, List.size_toArray]; exact hsz)) ⟨ho, ho2, ?_⟩
    rw [e]
    exact h2 hw
def sIx (n d : Nat) : Option Int → Nat
  | none => d
  | some v => if v < 0 then (v + (n : Int)).toNat else min v.toNat n
theorem sIx_nat (n d k : Nat) : sIx n d (some (k : Int)) = min k n := by
  show (if (k : Int) < 0 then ((k : Int) + (n : Int)).toNat else min (k : Int).toNat n) = min k n
  rw [if_neg (by omega), Int.toNat_natCast]
theorem sIx_le (n d : Nat) (hd : d ≤ n) (o : Option Int) : sIx n d o ≤ n := by
  cases o with
  | none => exact hd
  | some v =>
    show (if v < 0 then (v + (n : Int)).toNat else min v.toNat n) ≤ n
    by_cases hv : v < 0
    · rw [if_pos hv]; omega
    · rw [if_neg hv]; exact Nat.min_le_right _ _
theorem clip_eq (v : Int) (n d : Nat) : (if v < 0 then max (v + (n : Int)) 0 else min v (n : Int)) = ((sIx n d (some v) : Nat) : Int) := by
  show (if v < 0 then max (v + (n : Int)) 0 else min v (n : Int)) = (((if v < 0 then (v + (n : Int)).toNat else min v.toNat n) : Nat) : Int)
  by_cases hv : v < 0
  · simp only [if_pos hv]; omega
  · simp only [if_neg hv]; omega
theorem adjust_gen (lo hi : Option Int) (n : Nat) : Builtin.Slice.sliceAdjust lo hi 1 (n : Int) = (((sIx n 0 lo : Nat) : Int), ((sIx n n hi : Nat) : Int)) := by
  have h1 : ¬ ((1 : Int) < 0) := by omega
  unfold Builtin.Slice.sliceAdjust
  simp only [h1, if_false]
  refine Prod.ext ?_ ?_
  · cases lo with
    | none => rfl
    | some v => exact clip_eq v n 0
  · cases hi with
    | none => rfl
    | some v => exact clip_eq v n n
theorem places_gen (i j : Nat) : Builtin.Slice.slicePlaces (i : Int) (j : Int) 1 = j - i := by
  unfold Builtin.Slice.slicePlaces
  have h1 : (1 : Int) > 0 := by omega
  simp only [h1, if_true, Int.ediv_one]
  split <;> omega
theorem slicePart_ {v : Value} {o : Option Int} {Q : Option Int → Shared → Prop} (p : IsPart v o) (h : Q o s) : wpAny (model prog w) A (Builtin.Slice.slicePartIndex v) Q E s := by
  cases p with
  | none => exact slicePart_none h
  | int i t => exact slicePart_int h
theorem sliceApplied_gen {sl : Addr} {vl vu : Value} {lo hi : Option Int} {n : Nat} {Q : Int × Int × Nat → Shared → Prop} (hs : s.heap.IsSliceOf sl vl vu .none) (pl : IsPart vl lo) (pu : IsPart vu hi)
    (h : Q (((sIx n 0 lo : Nat) : Int), 1, sIx n n hi - sIx n 0 lo) s) : wpAny (model prog w) A (Builtin.Slice.sliceApplied (.ref sl) (pure (n : Int))) Q E s := by
  obtain ⟨os, hos, hcs, hds⟩ := id hs
  unfold Builtin.Slice.sliceApplied Builtin.Slice.sliceFields
  refine wpAny_bind (wpAny_bind (wpAny_field hos hds (x := vl) rfl (wpAny_bind (wpAny_field hos hds (x := vu) rfl (wpAny_bind (wpAny_field hos hds (x := .none) rfl (wpAny_pure ?_)))))))
  refine wpAny_bind (slicePart_none ?_)
  show wpAny _ _ (if ((1 : Int) == 0) = true then _ else _) _ _ s
  rw [if_neg (by decide)]
  refine wpAny_bind (slicePart_ pl (wpAny_bind (slicePart_ pu (wpAny_bind (wpAny_pure ?_)))))
  show wpAny _ _ (match Builtin.Slice.sliceAdjust lo hi 1 (n : Int) with | (lo, hi) => pure (lo, (1 : Int), Builtin.Slice.slicePlaces lo hi 1)) _ _ s
  rw [adjust_gen lo hi n]
  show wpAny _ _ (pure (((sIx n 0 lo : Nat) : Int), (1 : Int), Builtin.Slice.slicePlaces ((sIx n 0 lo : Nat) : Int) ((sIx n n hi : Nat) : Int) 1)) _ _ s
  rw [places_gen]
  exact wpAny_pure h
theorem pick_gen (xs : Array Value) (i k : Nat) : ((List.range k).filterMap fun (m : Nat) => xs[((i : Int) + (m : Int) * 1).toNat]?).toArray = ((xs.toList.drop i).take k).toArray := by
  have e : (fun (m : Nat) => xs[((i : Int) + (m : Int) * 1).toNat]?) = fun m => xs[i + m]? := by
    funext m
    have : ((i : Int) + (m : Int) * 1).toNat = i + m := by omega
    rw [this]
  rw [e]
  have := pick_run xs i k
  rw [List.filterMap_map] at this
  have e2 : ((fun x => xs[x]?) ∘ fun x => i + x) = fun m => xs[i + m]? := rfl
  rw [e2] at this
  rw [this]
theorem getItem_tuple_cut {t sl : Addr} {items : Array Value} {vl vu : Value} {lo hi : Option Int} {Q : Value → Shared → Prop} (ht : IsTup s.heap t items) (hs : s.heap.IsSliceOf sl vl vu .none) (pl : IsPart vl lo) (pu : IsPart vu hi)
    (hw : ¬ (sIx items.size 0 lo = 0 ∧ sIx items.size items.size hi = items.size))
    (h : Q (.ref s.heap.objs.size) { s with heap := s.heap.push { cls := .type "tuple", data := .seq ((items.toList.drop (sIx items.size 0 lo)).take (sIx items.size items.size hi - sIx items.size 0 lo)).toArray } })
    (hsz : items.size ≤ sizeLine) : wpAny (model prog w) A (getItem (.ref t) (.ref sl)) Q E s := by
  have htake : sizeOk (.seq ((items.toList.drop (sIx items.size 0 lo)).take (sIx items.size items.size hi - sIx items.size 0 lo)).toArray) := by
    show ((items.toList.drop (sIx items.size 0 lo)).take (sIx items.size items.size hi - sIx items.size 0 lo)).toArray.size ≤ sizeLine
    rw [List.size_toArray, List.length_take, List.length_drop, Array.length_toList]
    omega
  have hj : sIx items.size items.size hi ≤ items.size := sIx_le _ _ (Nat.le_refl _) hi
  obtain ⟨os, hos, hcs, hds⟩ := id hs
  have hTs : s.TypeIs (.ref sl) "slice" := ⟨os, hos, hcs⟩
  unfold getItem
  try with_reducible refine wpAny_holding ?_
  first | refine wpAny_bind (wpAny_pure ?_) | skip
  refine wpAny_bind (wpAny_sequenceKey ht.typeIs (by decide) ?_)
  refine wpAny_bind (wpAny_callSpecial?_slot (name := Str.ofString "__getitem__") ht.typeIs PyProof.Rows.slot_tuple_getitem
    (wpAny_call_entry PyProof.Rows.slot_tuple_getitem ht.typeIs entry_tuple_getitem ?_ (args_tuple_getitem _ _)))
  show wpAny _ _ (Builtin.Tuple.tupleItemsOf (.ref t) >>= _) _ _ s
  refine wpAny_bind (tupleItemsOf_ ht ?_)
  refine wpAny_bind (wpAny_typeOf hTs ?_)
  rw [if_pos (by decide)]
  refine wpAny_bind (sliceApplied_gen hs pl pu ?_)
  have hno : ¬ ((((sIx items.size 0 lo : Nat) : Int) == 0 && (1 : Int) == 1 && (sIx items.size items.size hi - sIx items.size 0 lo) == items.size) = true) := by
    intro q
    rw [Bool.and_eq_true, Bool.and_eq_true] at q
    have q1 : ((sIx items.size 0 lo : Nat) : Int) = 0 := eq_of_beq q.1.1
    have q2 : sIx items.size items.size hi - sIx items.size 0 lo = items.size := eq_of_beq q.2
    exact hw ⟨by omega, by omega⟩
  show wpAny _ _ (if (((sIx items.size 0 lo : Nat) : Int) == 0 && (1 : Int) == 1 && (sIx items.size items.size hi - sIx items.size 0 lo) == items.size) = true then _ else _) _ _ s
  rw [if_neg hno, pick_gen]
  first
    | exact wpAny_bind (m := Builtin.Tuple.tupleExact _) (wpAny_newObj_type (wpAny_pure ⟨_, rfl, wpAny_pure h⟩) htake)
    | exact wpAny_bind (m := Builtin.Tuple.tupleExact _) (wpAny_newObj_type (wpAny_bind (wpAny_pure (wpAny_pure ⟨_, rfl, wpAny_pure h⟩))) htake)
    | exact wpAny_bind (wpAny_bind (m := Builtin.Tuple.tupleExact _) (wpAny_newObj_type (wpAny_pure (wpAny_pure ⟨_, rfl, wpAny_pure h⟩)) htake))
    | exact wpAny_bind (wpAny_bind (m := Builtin.Tuple.tupleExact _) (wpAny_newObj_type (wpAny_pure ⟨_, rfl, wpAny_pure h⟩) htake))
end
end HT
namespace L2
open PySem PySem.Spec PyProof.Rows
abbrev TO := St → Hp → (Option Int → Hp → Prop) → Prop
def PO (X : Cx) (e : Option Expr) (t : TO) : Prop :=
  ∀ (pins : List (Addr × Obj)) (s : Shared) (σ : St) (H : Hp) (Q : Option Int → Hp → Prop), Inv X pins σ H s → t σ H Q →
    wpAny (model X.prog X.w) X.A (evalPart e X.env) (fun u s' => ∃ o H', Inv X pins σ H' s' ∧ IsPart u o ∧ Q o H') X.xe s
def tNoPart : TO := fun _ H Q => Q none H
def tPart (t : TE) : TO := fun σ H Q => t σ H fun x H1 => ∃ i, x = .int i ∧ Q (some i) H1
theorem intsAre_of {ns : List Int} : ∀ {us : List Value}, Vals (ns.map V.int) us → IntsAre us ns := by
  induction ns with
  | nil => intro us r; rw [List.map_nil] at r; cases r; exact .nil
  | cons n ns ih =>
    intro us r
    rw [List.map_cons] at r
    cases r with
    | cons r1 r2 =>
      obtain ⟨t, e⟩ := r1
      subst e
      exact .cons n t (ih r2)
section
variable {X : Cx} {e : Expr} {te : TE} {lo hi : Option Expr} {tl th : TO} {pos p2 : Pos}
theorem po_none : PO X none tNoPart := by
  intro pins s σ H Q I h
  rw [evalPart_none]
  exact wpAny_pure ⟨none, H, I, .none, h⟩
theorem po_some (h : PE X e te) : PO X (some e) (tPart te) := by
  intro pins s σ H Q I hw
  rw [evalPart_some]
  refine thn (h pins s σ H _ I hw) fun u s1 ⟨x, H1, I1, r1, q1⟩ => ?_
  obtain ⟨i, rfl, q⟩ := q1
  obtain ⟨t, rfl⟩ := r1
  exact ⟨some i, H1, I1, .int i t, q⟩
def SlR (X : Cx) (r : V → Option Int → Option Int → Hp → VK → Prop) : Prop :=
  ∀ (pins : List (Addr × Obj)) (s : Shared) (σ : St) (H : Hp) (x : V) (v vl vu : Value) (lo hi : Option Int) (sl : Addr) (Q : VK), Inv X pins σ H s → RelV x v → s.heap.IsSliceOf sl vl vu .none → IsPart vl lo → IsPart vu hi → r x lo hi H Q →
    ∃ T id, typeLookup (.type T) "__getitem__" = pure (some (.builtin id)) ∧ s.TypeIs v T ∧ wpAny (model X.prog X.w) X.A (getItem v (.ref sl)) (EP X pins σ Q) X.xe s
def tSl (r : V → Option Int → Option Int → Hp → VK → Prop) (te : TE) (tl th : TO) : TE := fun σ H Q => te σ H fun x H1 => tl σ H1 fun l H2 => th σ H2 fun u H3 => r x l u H3 Q
theorem pe_slice {r : V → Option Int → Option Int → Hp → VK → Prop} (hr : SlR X r) (he : PE X e te) (hl : PO X lo tl) (hu : PO X hi th) : PE X (.Subscript e (.Slice lo hi none p2) pos) (tSl r te tl th) := by
  intro pins s σ H Q I h
  refine Subscript_ (thn (he pins s σ H _ I h) fun v s1 ⟨x, H1, I1, r1, q1⟩ => ?_)
  refine wpAny_Slice (thn (hl pins s1 σ H1 _ I1 q1) fun vl s2 ⟨l, H2, I2, pl, q2⟩ => thn (hu pins s2 σ H2 _ I2 q2) fun vu s3 ⟨u, H3, I3, pu, q3⟩ => ?_)
  rw [evalPart_none]
  refine wpAny_pure ?_
  have I4 : Inv X pins σ H3 { s3 with heap := s3.heap.push { cls := .type "slice", data := .fields #[vl, vu, .none] } } := I3.kept (t' := s3.toks) fun b ob q => Heap.get?_push_of_some _ q
  obtain ⟨T, id, hT, ht, hg⟩ := hr pins { s3 with heap := s3.heap.push { cls := .type "slice", data := .fields #[vl, vu, .none] } } σ H3 x v vl vu l u s3.heap.objs.size Q I4 r1 (Heap.IsSliceOf.new ..) pl pu q3
  show wpAny (model X.prog X.w) X.A (subscriptTail e (.Slice lo hi none p2) v (.ref s3.heap.objs.size)) (EP X pins σ Q) X.xe { s3 with heap := s3.heap.push { cls := .type "slice", data := .fields #[vl, vu, .none] } }
  exact tail_any (ops := [.ref s3.heap.objs.size, v]) ht hT hg (by with_unfolding_all rfl)
def cutV (xs : List V) (lo hi : Option Int) : List V := (xs.drop (HT.sIx xs.length 0 lo)).take (HT.sIx xs.length xs.length hi - HT.sIx xs.length 0 lo)
theorem cutV_length (xs : List V) (lo hi : Option Int) : (cutV xs lo hi).length ≤ xs.length := by
  unfold cutV
  rw [List.length_take, List.length_drop]
  omega
def rSlT (K : PySem.W.Frag) : V → Option Int → Option Int → Hp → VK → Prop := fun x lo hi H Q => ∃ a xs, x = .ref a ∧ SqT K H a xs ∧
  ¬ (HT.sIx xs.length 0 lo = 0 ∧ HT.sIx xs.length xs.length hi = xs.length) ∧ ∀ p, H p = none → Q (.ref p) (upd H p (.tup (cutV xs lo hi)))
theorem sl_tup : SlR X (rSlT X.K) := by
  intro pins s σ H x v vl vu lo hi sl Q I rx hs pl pu h
  obtain ⟨a, xs, rfl, hx, hw, q⟩ := h
  cases rx
  obtain ⟨its, r, ht, hz⟩ := I.tuple hx
  have hlen : its.toArray.size = xs.length := by rw [List.size_toArray]; exact r.length.symm
  refine ⟨"tuple", _, PyProof.Rows.slot_tuple_getitem.lookup, ht.typeIs, ?_⟩
  refine HT.getItem_tuple_cut ht hs pl pu (by rw [hlen]; exact hw) ?_ (by rw [hlen]; exact hz)
  rw [hlen]
  refine ⟨.ref s.heap.objs.size, _, I.laid (t' := s.toks) (o := .tup (cutV xs lo hi)) (fun b ob q => Heap.get?_push_of_some _ q) (Nat.le_refl _) ?_, rfl, q _ (I.hok.fresh (Nat.le_refl _))⟩
  exact ⟨Nat.le_trans (cutV_length xs lo hi) hz, _, (r.drop (HT.sIx xs.length 0 lo)).take (HT.sIx xs.length xs.length hi - HT.sIx xs.length 0 lo), IsTup.new _ _⟩
def rCatT (K : PySem.W.Frag) : R2 := fun x y H Q => ∃ a b xs ys, x = .ref a ∧ y = .ref b ∧ SqT K H a xs ∧ SqT K H b ys ∧ xs ≠ [] ∧ xs.length + ys.length ≤ sizeLine ∧
  (ys = [] → Q (.ref a) H) ∧ (ys ≠ [] → ∀ p, H p = none → Q (.ref p) (upd H p (.tup (xs ++ ys))))
theorem Vals.nil_iff {xs : List V} {us : List Value} (r : Vals xs us) : us = [] ↔ xs = [] := by
  cases r with
  | nil => simp
  | cons _ _ => simp
theorem op_catT : OpR X (binaryOp .Add) (rCatT X.K) := by
  intro pins s σ H x y v u Q I rx ry h
  obtain ⟨a, b, xs, ys, rfl, rfl, ha, hb, hx, hz, q1, q2⟩ := h
  cases rx
  cases ry
  obtain ⟨its, r1, p1, _⟩ := I.tuple ha
  obtain ⟨its2, r2, p2, _⟩ := I.tuple hb
  refine HT.cat_tup p1 p2 (fun z => hx (r1.nil_iff.mp z)) (fun z => ⟨.ref a, H, I, rfl, q1 (r2.nil_iff.mp z)⟩) (fun z => ?_) (by rw [← r1.length, ← r2.length]; exact hz)
  refine ⟨.ref s.heap.objs.size, _, I.laid (t' := s.toks) (o := .tup (xs ++ ys)) (fun b ob q => Heap.get?_push_of_some _ q) (Nat.le_refl _) ?_, rfl, q2 (fun w => z (r2.nil_iff.mpr w)) _ (I.hok.fresh (Nat.le_refl _))⟩
  exact ⟨by rw [List.length_append]; exact hz, _, r1.append r2, IsTup.new _ _⟩
end
end L2
namespace L2
open PySem PySem.Spec PyProof.Rows
def ixN (n : Nat) (i : Int) : Option Nat := if 0 ≤ i then (if i < n then some i.toNat else none) else if -(n : Int) ≤ i then some (i + n).toNat else none
def atI {α : Type} (xs : List α) (i : Int) : Option α := (ixN xs.length i).bind fun j => xs[j]?
theorem ixN_seq {n : Nat} {i : Int} {j : Nat} (h : ixN n i = some j) : seqIndex? i n = some j ∧ j < n ∧ -(n : Int) ≤ i ∧ i < n := by
  unfold ixN at h
  by_cases h0 : 0 ≤ i
  · rw [if_pos h0] at h
    by_cases h1 : i < n
    · rw [if_pos h1] at h
      have e : i.toNat = j := Option.some.inj h
      exact ⟨by rw [seqIndex_of h0 h1, e], by omega, by omega, h1⟩
    · rw [if_neg h1] at h; cases h
  · rw [if_neg h0] at h
    by_cases h1 : -(n : Int) ≤ i
    · rw [if_pos h1] at h
      have e : (i + n).toNat = j := Option.some.inj h
      exact ⟨by rw [seqIndex_neg (by omega) h1, e], by omega, h1, by omega⟩
    · rw [if_neg h1] at h; cases h
theorem atI_get {α : Type} {xs : List α} {i : Int} {v : α} (h : atI xs i = some v) : ∃ j, seqIndex? i xs.length = some j ∧ xs[j]? = some v ∧ j < xs.length ∧ -(xs.length : Int) ≤ i ∧ i < xs.length := by
  unfold atI at h
  cases e : ixN xs.length i with
  | none => rw [e] at h; cases h
  | some j =>
    rw [e] at h
    obtain ⟨h1, h2, h3, h4⟩ := ixN_seq e
    exact ⟨j, h1, h, h2, h3, h4⟩
theorem atI_nat {α : Type} {xs : List α} {j : Nat} {v : α} (h : xs[j]? = some v) : atI xs (j : Int) = some v := by
  have hj : j < xs.length := (List.getElem?_eq_some_iff.mp h).1
  have e : ixN xs.length (j : Int) = some j := by
    unfold ixN
    rw [if_pos (by omega), if_pos (by omega)]; simp
  unfold atI; rw [e]; exact h
theorem atI_last {α : Type} (xs : List α) (v : α) : atI (xs ++ [v]) (-1) = some v := by
  have hl : (xs ++ [v]).length = xs.length + 1 := by simp
  have e : ixN (xs ++ [v]).length (-1) = some xs.length := by
    unfold ixN
    rw [hl, if_neg (by decide), if_pos (by omega)]
    congr 1
    omega
  unfold atI
  rw [e]
  show (xs ++ [v])[xs.length]? = some v
  simp
def PlainIx (b : Expr) : Prop := ∀ o i, subscripted b false o i = operate [o, i] (getItem o i)
def IxR (X : Cx) (r : R2) : Prop :=
  ∀ (value slice : Expr) (pins : List (Addr × Obj)) (s : Shared) (σ : St) (H : Hp) (x y : V) (v u : Value) (Q : VK), Inv X pins σ H s → RelV x v → RelV y u → r x y H Q →
    subscripted slice false v u = operate [v, u] (getItem v u) → wpAny (model X.prog X.w) X.A (subscriptTail value slice v u) (EP X pins σ Q) X.xe s
def MtR (X : Cx) (id : String) (r : V → List V → Hp → VK → Prop) : Prop :=
  ∀ (pins : List (Addr × Obj)) (s : Shared) (σ : St) (H : Hp) (x : V) (xs : List V) (v : Value) (us : List Value) (Q : VK), Inv X pins σ H s → RelV x v → Vals xs us → r x xs H Q →
    wpAny (model X.prog X.w) X.A (call (.builtin id) (v :: us)) (EP X pins σ Q) X.xe s
section
variable {X : Cx} {a b : Expr} {ta tb : TE} {pos : Pos}
theorem IxR.or {r r' : R2} (h : IxR X r) (h' : IxR X r') : IxR X (fun x y H Q => r x y H Q ∨ r' x y H Q) := by
  intro value slice pins s σ H x y v u Q I rx ry q hs
  rcases q with q | q
  · exact h value slice pins s σ H x y v u Q I rx ry q hs
  · exact h' value slice pins s σ H x y v u Q I rx ry q hs
theorem pe_ix {r : R2} (hr : IxR X r) (ha : PE X a ta) (hb : PE X b tb) (hs : PlainIx b) : PE X (.Subscript a b pos) (tOp r ta tb) := by
  intro pins s σ H Q I h
  exact Subscript_ (binT ha hb I h fun v u s2 x y H2 I2 rx ry q => hr a b pins s2 σ H2 x y v u Q I2 rx ry q (hs _ _))
def rIxL (K : PySem.W.Frag) : R2 := fun x y H Q => ∃ p xs i v, x = .ref p ∧ y = .int i ∧ SqL K H p xs ∧ atI xs i = some v ∧ Q v H
def rIxT (K : PySem.W.Frag) : R2 := fun x y H Q => ∃ p xs i v, x = .ref p ∧ y = .int i ∧ SqT K H p xs ∧ atI xs i = some v ∧ Q v H
def rIxS : R2 := fun x y H Q => ∃ z i c, x = .str z ∧ y = .int i ∧ z.length ≤ sizeLine ∧ atI z.cps.toList i = some c ∧ Q (.str ⟨#[c]⟩) H
theorem ix_list : IxR X (rIxL X.K) := by
  intro value slice pins s σ H x y v u Q I rx ry h hs
  obtain ⟨p, xs, i, z, rfl, rfl, hq, he, q⟩ := h
  cases rx
  obtain ⟨t, rfl⟩ := ry
  obtain ⟨its, r, pl, hz⟩ := I.list hq
  obtain ⟨j, h1, h2, h3, h4, h5⟩ := atI_get he
  obtain ⟨w, ew, rw'⟩ := r.get h2
  have hl := r.length
  have hn := line63
  have fin : EP X pins σ Q w s := ⟨z, H, I, rw', q⟩
  by_cases h0 : 0 ≤ i
  · have hj : i.toNat = j := by
      rw [seqIndex_of h0 h5] at h1
      exact Option.some.inj h1
    exact item_listR pl.isList h0 (by omega) (by rw [hj]; simpa using ew) fin hs
  · have hj : (i + (its.toArray.size : Int)).toNat = j := by
      rw [seqIndex_neg (by omega) h4] at h1
      rw [List.size_toArray, ← hl]
      exact Option.some.inj h1
    exact subscriptTail_builtinR (x := w) pl.isList.typeIs slot_list_getitem.lookup
      (wpAny_getItem_list_neg (Q := fun r s' => r = w ∧ EP X pins σ Q r s') pl.isList (by omega) (by rw [List.size_toArray] <;> omega) (by omega) (by rw [hj]; simpa using ew) ⟨rfl, fin⟩) hs
theorem ix_tup : IxR X (rIxT X.K) := by
  intro value slice pins s σ H x y v u Q I rx ry h hs
  obtain ⟨p, xs, i, z, rfl, rfl, hq, he, q⟩ := h
  cases rx
  obtain ⟨t, rfl⟩ := ry
  obtain ⟨its, r, pl, hz⟩ := I.tuple hq
  obtain ⟨j, h1, h2, h3, h4, h5⟩ := atI_get he
  obtain ⟨w, ew, rw'⟩ := r.get h2
  have hl := r.length
  have hn := line63
  have fin : EP X pins σ Q w s := ⟨z, H, I, rw', q⟩
  exact subscriptTail_builtinR (x := w) pl.typeIs slot_tuple_getitem.lookup
    (getItem_tuple (j := j) (Q := fun r s' => r = w ∧ EP X pins σ Q r s') pl (by omega) (by omega) (by rw [List.size_toArray, ← hl]; exact h1) (by simpa using ew) ⟨rfl, fin⟩) hs
theorem ix_str : IxR X rIxS := by
  intro value slice pins s σ H x y v u Q I rx ry h hs
  obtain ⟨z, i, c, rfl, rfl, hz, he, q⟩ := h
  obtain ⟨t, rfl⟩ := rx
  obtain ⟨t', rfl⟩ := ry
  obtain ⟨j, h1, h2, h3, h4, h5⟩ := atI_get he
  have hl : z.cps.toList.length = z.length := by simp [Str.length]
  rw [hl] at h1 h4 h5
  have hn := line63
  exact tail_any (typeIs_str s z t) slot_str_getitem.lookup (getItem_str (c := c) (by
    have e1 : decide (i < -(2 ^ 63 : Int)) = false := decide_eq_false (by omega)
    have e2 : decide (i ≥ 2 ^ 63) = false := decide_eq_false (by omega)
    rw [e1, e2, Bool.or_false]) (by rw [h1]; simpa using h2) ⟨.str ⟨#[c]⟩, H, I.tok _, ⟨_, rfl⟩, q⟩) hs
def rIx (K : PySem.W.Frag) : R2 := fun x y H Q => rIxL K x y H Q ∨ rIxT K x y H Q ∨ rIxS x y H Q
theorem ix_seq : IxR X (rIx X.K) := ix_list.or (ix_tup.or ix_str)
theorem mapSeq_set (its : List Value) (n j : Nat) (u : Value) : Obj.mapSeq (·.setIfInBounds j u) { cls := .type "list", data := .seq its.toArray n } = { cls := .type "list", data := .seq (its.set j u).toArray n } := by
  simp [Obj.mapSeq]
theorem Inv.lst {pins : List (Addr × Obj)} {σ : St} {H : Hp} {s : Shared} {p : Addr} {xs : List V} (I : Inv X pins σ H s) (h : H p = some (.lst xs)) :
    ∃ (its : List Value) (n : Nat), Vals xs its ∧ s.heap.get? p = some { cls := .type "list", data := .seq its.toArray n } ∧ xs.length ≤ sizeLine := by
  obtain ⟨z, its, n, r, e⟩ := I.hok p _ h
  exact ⟨its, n, r, e, z⟩
theorem Inv.lstUpd {pins : List (Addr × Obj)} {σ : St} {H : Hp} {s : Shared} {p : Addr} {xs ys : List V} {its its' : List Value} {n n' : Nat} {f : Obj → Obj} (I : Inv X pins σ H s) (h : H p = some (.lst xs))
    (ho : s.heap.get? p = some { cls := .type "list", data := .seq its.toArray n }) (hf : f { cls := .type "list", data := .seq its.toArray n } = { cls := .type "list", data := .seq its'.toArray n' }) (r : Vals ys its') (hz : ys.length ≤ sizeLine) (t : Nat) :
    Inv X pins σ (upd H p (.lst ys)) { s with heap := s.heap.update p f, toks := t } := by
  have e : (s.heap.update p f).get? p = some { cls := .type "list", data := .seq its'.toArray n' } := by
    rw [Heap.get?_update_self f ho (by rw [hf] <;> rfl), hf]
  refine I.write (x := p) (e := p) (by rw [h]; trivial) (.inl rfl) (fun b u hb q => (Heap.get?_update_other _ _ (Ne.symm hb)).trans q) ⟨_, e⟩ ?_
  exact ⟨hz, its', n', r, e⟩
def rSetL : V → V → V → Hp → (Hp → Prop) → Prop := fun o i v H Q => ∃ p xs k j, o = .ref p ∧ i = .int k ∧ H p = some (.lst xs) ∧ ixN xs.length k = some j ∧ Q (upd H p (.lst (xs.set j v)))
theorem set_list : PSet X rSetL := by
  intro pins s σ H o i v ov iv u Q I ro ri rv h
  obtain ⟨p, xs, k, j, rfl, rfl, hp, hj, q⟩ := h
  cases ro
  obtain ⟨t, rfl⟩ := ri
  obtain ⟨its, n, r, ho, hz⟩ := I.lst hp
  obtain ⟨h1, h2, h3, h4⟩ := ixN_seq hj
  have hl := r.length
  have hn := line63
  have I' : Inv X pins σ (upd H p (.lst (xs.set j v))) { s with heap := s.heap.update p (Obj.mapSeq (·.setIfInBounds j u)) } :=
    I.lstUpd hp ho (mapSeq_set its n j u) (r.set rv j) (by rw [List.length_set]; exact hz) s.toks
  by_cases h0 : 0 ≤ k
  · have hk : k.toNat = j := by
      rw [seqIndex_of h0 h4] at h1
      exact Option.some.inj h1
    exact PySem.W.ki_setAt ho h0 (by omega) (by rw [List.size_toArray, ← hl]; exact h4) (by rw [hk]; exact ⟨_, I', q⟩)
  · have hk : (k + (its.toArray.size : Int)).toNat = j := by
      rw [seqIndex_neg (by omega) h3] at h1
      rw [List.size_toArray, ← hl]
      exact Option.some.inj h1
    exact PySem.W.ki_setBack ho (by omega) (by rw [List.size_toArray, ← hl]; exact h3) (by omega) (by rw [hk]; exact ⟨_, I', q⟩)
def flatV : V → Bool
  | .non => true
  | .bl _ => true
  | .int _ => true
  | .str _ => true
  | _ => false
def eqV : V → V → Bool
  | .non, .non => true
  | .bl a, .bl b => a == b
  | .bl a, .int b => (if a then 1 else 0) == b
  | .int a, .bl b => a == (if b then 1 else 0)
  | .int a, .int b => a == b
  | .str a, .str b => a == b
  | _, _ => false
theorem eqAt_V {A : Around} {s : Shared} {y x : V} {u v : Value} (ry : RelV y u) (rx : RelV x v) (fy : flatV y = true) (fx : flatV x = true) : SeqAt.EqAt A s u v (eqV y x) := by
  cases y with
  | non =>
    cases ry
    cases x with
    | non => cases rx; exact SeqAt.EqAt.same _
    | bl b => cases rx; exact SeqAt.EqAt.none_bool b
    | int b => obtain ⟨t, rfl⟩ := rx; exact SeqAt.EqAt.none_int b t
    | str b => obtain ⟨t, rfl⟩ := rx; exact SeqAt.EqAt.none_str b t
    | _ => exact absurd (show false = true from fx) Bool.false_ne_true
  | bl a =>
    cases ry
    cases x with
    | non => cases rx; exact SeqAt.EqAt.bool_none a
    | bl b => cases rx; exact SeqAt.EqAt.bool_bool a b
    | int b => obtain ⟨t, rfl⟩ := rx; exact SeqAt.EqAt.bool_int a b t
    | str b => obtain ⟨t, rfl⟩ := rx; exact SeqAt.EqAt.bool_str a b t
    | _ => exact absurd (show false = true from fx) Bool.false_ne_true
  | int a =>
    obtain ⟨t', rfl⟩ := ry
    cases x with
    | non => cases rx; exact SeqAt.EqAt.int_none a t'
    | bl b => cases rx; exact SeqAt.EqAt.int_bool a t' b
    | int b => obtain ⟨t, rfl⟩ := rx; exact SeqAt.EqAt.int_int a t' b t
    | str b => obtain ⟨t, rfl⟩ := rx; exact SeqAt.EqAt.int_str a t' b t
    | _ => exact absurd (show false = true from fx) Bool.false_ne_true
  | str a =>
    obtain ⟨t', rfl⟩ := ry
    cases x with
    | non => cases rx; exact SeqAt.EqAt.str_none a t'
    | bl b => cases rx; exact SeqAt.EqAt.str_bool a t' b
    | int b => obtain ⟨t, rfl⟩ := rx; exact SeqAt.EqAt.str_int a t' b t
    | str b => obtain ⟨t, rfl⟩ := rx; exact SeqAt.EqAt.str_str a t' b t
    | _ => exact absurd (show false = true from fx) Bool.false_ne_true
  | _ => exact absurd (show false = true from fy) Bool.false_ne_true
def eqU (x : V) (u : Value) : Bool := match u with
  | .none => eqV .non x
  | .bool b => eqV (.bl b) x
  | .int i _ => eqV (.int i) x
  | .str z _ => eqV (.str z) x
  | _ => false
theorem eqU_of {x y : V} {u : Value} (r : RelV y u) (f : flatV y = true) : eqU x u = eqV y x := by
  cases y with
  | non => cases r; rfl
  | bl b => cases r; rfl
  | int i => obtain ⟨t, rfl⟩ := r; rfl
  | str z => obtain ⟨t, rfl⟩ := r; rfl
  | _ => exact absurd (show false = true from f) Bool.false_ne_true
theorem any_eqU {x : V} : ∀ {xs : List V} {us : List Value}, Vals xs us → xs.all flatV = true → us.any (eqU x) = xs.any fun y => eqV y x
  | _, _, .nil, _ => rfl
  | y :: xs, u :: us, .cons r t, f => by
    rw [List.all_cons, Bool.and_eq_true] at f
    rw [List.any_cons, List.any_cons, eqU_of r f.1, any_eqU t f.2]
theorem mem_eqAt {A : Around} {s : Shared} {x : V} {v : Value} (rx : RelV x v) (fx : flatV x = true) : ∀ {xs : List V} {us : List Value}, Vals xs us → xs.all flatV = true → ∀ u ∈ us, SeqAt.EqAt A s u v (eqU x u)
  | _, _, .nil, _ => fun u hu => by cases hu
  | y :: xs, u :: us, .cons r t, f => fun u' hu => by
    rw [List.all_cons, Bool.and_eq_true] at f
    rcases List.mem_cons.mp hu with rfl | hu
    · rw [eqU_of r f.1]; exact eqAt_V r rx f.1 fx
    · exact mem_eqAt rx fx t f.2 u' hu
def inV (x : V) (xs : List V) : Bool := xs.any fun y => eqV y x
def rIn (K : PySem.W.Frag) (neg : Bool) : R2 := fun x y H Q => ∃ p xs, y = .ref p ∧ (SqL K H p xs ∨ SqT K H p xs) ∧ flatV x = true ∧ xs.all flatV = true ∧ Q (.bl (if neg then !inV x xs else inV x xs)) H
theorem op_in_seq : OpR X (compareOp .In) (rIn X.K false) := by
  intro pins s σ H x y v u Q I rx ry h
  obtain ⟨p, xs, rfl, hq, fx, fs, q⟩ := h
  cases ry
  rcases hq with hq | hq
  · obtain ⟨its, r, pl, hz⟩ := I.list hq
    refine SeqAt.in_listAt (eqU x) pl.isList (fun w hw => mem_eqAt rx fx r fs w (by simpa using hw)) ⟨.bl _, H, I, rfl, ?_⟩
    rw [show its.toArray.any (eqU x) = its.any (eqU x) by simp, any_eqU r fs]
    exact q
  · obtain ⟨its, r, pl, hz⟩ := I.tuple hq
    refine SeqAt.in_tupleAt (eqU x) pl (fun w hw => mem_eqAt rx fx r fs w (by simpa using hw)) ⟨.bl _, H, I, rfl, ?_⟩
    rw [show its.toArray.any (eqU x) = its.any (eqU x) by simp, any_eqU r fs]
    exact q
theorem op_notIn_seq : OpR X (compareOp .NotIn) (rIn X.K true) := by
  intro pins s σ H x y v u Q I rx ry h
  obtain ⟨p, xs, rfl, hq, fx, fs, q⟩ := h
  cases ry
  rcases hq with hq | hq
  · obtain ⟨its, r, pl, hz⟩ := I.list hq
    refine SeqAt.notIn_listAt (eqU x) pl.isList (fun w hw => mem_eqAt rx fx r fs w (by simpa using hw)) ⟨.bl _, H, I, rfl, ?_⟩
    rw [show its.toArray.any (eqU x) = its.any (eqU x) by simp, any_eqU r fs]
    exact q
  · obtain ⟨its, r, pl, hz⟩ := I.tuple hq
    refine SeqAt.notIn_tupleAt (eqU x) pl (fun w hw => mem_eqAt rx fx r fs w (by simpa using hw)) ⟨.bl _, H, I, rfl, ?_⟩
    rw [show its.toArray.any (eqU x) = its.any (eqU x) by simp, any_eqU r fs]
    exact q
theorem call_len_seq : CallR X (.builtin "len") (fun xs H Q => ∃ p ys, xs = [.ref p] ∧ (SqL X.K H p ys ∨ SqT X.K H p ys) ∧ Q (.int ys.length) H) := by
  intro pins s σ H xs us Q I r h
  obtain ⟨p, ys, rfl, hq, q⟩ := h
  obtain ⟨u, rfl, rx⟩ := vals1 r
  cases rx
  have hn := line63
  rcases hq with hq | hq
  · obtain ⟨its, r', pl, hz⟩ := I.list hq
    have hlen := r'.length
    exact Calls.call_len_list pl.isList (by simp only [List.size_toArray] <;> omega) ⟨.int ys.length, H, I.tok _, ⟨s.toks + 1, by rw [List.size_toArray, hlen]⟩, q⟩
  · obtain ⟨its, r', pl, hz⟩ := I.tuple hq
    have hlen := r'.length
    exact len_tuple pl (by simp only [List.size_toArray] <;> omega) ⟨.int ys.length, H, I.tok _, ⟨s.toks + 1, by rw [List.size_toArray, hlen]⟩, q⟩
theorem call_list_of : CallR X (.type "list") (fun xs H Q => ∃ p ys, xs = [.ref p] ∧ (SqL X.K H p ys ∨ SqT X.K H p ys) ∧ ∀ l, H l = none → Q (.ref l) (upd H l (.lst ys))) := by
  intro pins s σ H xs us Q I r h
  obtain ⟨p, ys, rfl, hq, q⟩ := h
  obtain ⟨u, rfl, rx⟩ := vals1 r
  cases rx
  have fin : ∀ (its : List Value), Vals ys its → ys.length ≤ sizeLine → ∀ (h' : Heap) (c' : Nat), (∀ b o', s.heap.get? b = some o' → h'.get? b = some o') →
      h'.get? s.heap.objs.size = some { cls := .type "list", dict := none, data := .seq its.toArray c', slots := #[] } → EP X pins σ Q (.ref s.heap.objs.size) { s with heap := h' } := fun its r' hz h' c' kp e =>
    ⟨.ref s.heap.objs.size, _, I.laid (t' := s.toks) kp (Nat.le_refl _) (show ObjOk X.prog X.w _ h' _ (.lst ys) from ⟨hz, its, c', r', e⟩), rfl, q _ (I.hok.fresh (Nat.le_refl _))⟩
  rcases hq with hq | hq
  · obtain ⟨its, r', pl, hz⟩ := I.list hq
    have hlen := r'.length
    obtain ⟨o, ho, hc, n, hd⟩ := pl.isList
    exact call_list_seq p (.inl rfl) ho hc hd (fun h' c' kp e => fin its r' hz h' c' kp e) (by simp only [List.size_toArray] <;> omega)
  · obtain ⟨its, r', pl, hz⟩ := I.tuple hq
    have hlen := r'.length
    obtain ⟨o, ho, hc, n, hd⟩ := pl
    exact call_list_seq p (.inr rfl) ho hc hd (fun h' c' kp e => fin its r' hz h' c' kp e) (by simp only [List.size_toArray] <;> omega)
theorem call_tuple_of : CallR X (.type "tuple") (fun xs H Q => ∃ p ys, xs = [.ref p] ∧ ((SqL X.K H p ys ∧ ∀ l, H l = none → Q (.ref l) (upd H l (.tup ys))) ∨ (SqT X.K H p ys ∧ Q (.ref p) H))) := by
  intro pins s σ H xs us Q I r h
  obtain ⟨p, ys, rfl, h⟩ := h
  obtain ⟨u, rfl, rx⟩ := vals1 r
  cases rx
  rcases h with ⟨hq, q⟩ | ⟨hq, q⟩
  · obtain ⟨its, r', pl, hz⟩ := I.list hq
    have hlen := r'.length
    refine call_tuple_list pl.isList (fun h' kp => ?_) (by simp only [List.size_toArray] <;> omega)
    have I1 : Inv X pins σ H { s with heap := h' } := I.kept (t' := s.toks) kp
    have I2 : Inv X pins σ (upd H h'.objs.size (.tup ys)) { s with heap := h'.push { cls := .type "tuple", data := .seq its.toArray } } :=
      I1.laid (t' := s.toks) (fun b o e => Heap.get?_push_of_some _ e) (Nat.le_refl _) (show ObjOk X.prog X.w _ _ _ (.tup ys) from ⟨hz, its, r', IsTup.new _ _⟩)
    exact ⟨.ref h'.objs.size, _, I2, rfl, q _ (I1.hok.fresh (Nat.le_refl _))⟩
  · obtain ⟨its, r', pl, hz⟩ := I.tuple hq
    exact call_tuple_same pl ⟨.ref p, H, I, rfl, q⟩
def tyV (K : PySem.W.Frag) (T : String) (x : V) (H : Hp) : Prop := match x with
  | .str _ => T = "str"
  | .int _ => T = "int"
  | .ref p => (T = "list" ∧ ∃ xs, SqL K H p xs) ∨ (T = "tuple" ∧ ∃ o, K.lookup p = some o ∧ o.cls = .type "tuple" ∧ o.dict = none) ∨
      (T = "dict" ∧ ((∃ kvs, H p = some (.dK kvs)) ∨ ∃ kvs, H p = some (.dT kvs))) ∨ (T = "set" ∧ ∃ S n, H p = some (.set S n))
  | _ => False
theorem tyV_is {pins : List (Addr × Obj)} {σ : St} {H : Hp} {s : Shared} {T : String} {x : V} {v : Value} (I : Inv X pins σ H s) (r : RelV x v) (ty : tyV X.K T x H) :
    s.TypeIs v T ∧ ∀ a, v = .ref a → ∃ ob, s.heap.get? a = some ob ∧ ob.dict = none := by
  cases x with
  | str z =>
    obtain ⟨t, rfl⟩ := r
    cases (show T = "str" from ty)
    exact ⟨typeIs_str s z t, fun _ e => nomatch e⟩
  | int i =>
    obtain ⟨t, rfl⟩ := r
    cases (show T = "int" from ty)
    exact ⟨typeIs_int s i t, fun _ e => nomatch e⟩
  | ref p =>
    cases r
    rcases ty with ⟨rfl, xs, hq⟩ | ⟨rfl, o, hk, hc, hd⟩ | ⟨rfl, hk⟩ | ⟨rfl, S, n, hk⟩
    · obtain ⟨its, _, pl, _⟩ := I.list hq
      refine ⟨pl.isList.typeIs, fun a e => ?_⟩
      cases e
      obtain ⟨o, n, e, c, hd, _⟩ := pl
      exact ⟨o, e, hd⟩
    · refine ⟨⟨o, I.kIn p o hk, hc⟩, fun a e => ?_⟩
      cases e
      exact ⟨o, I.kIn _ o hk, hd⟩
    · have z : ∃ o, s.heap.get? p = some o ∧ o.ExactDict := by
        rcases hk with ⟨kvs, hk⟩ | ⟨kvs, hk⟩
        · obtain ⟨_, _, _, _, o, _, _, e, ex, _⟩ := I.hok p _ hk
          exact ⟨o, e, ex⟩
        · obtain ⟨_, _, _, _, o, _, _, e, ex, _⟩ := I.hok p _ hk
          exact ⟨o, e, ex⟩
      obtain ⟨o, e, ex⟩ := z
      refine ⟨⟨o, e, ex.1⟩, fun a e2 => ?_⟩
      cases e2
      exact ⟨o, e, ex.2.1⟩
    · obtain ⟨o, _, _, _, e, ex, _⟩ := I.hok p _ hk
      refine ⟨⟨o, e, ex.1⟩, fun a e2 => ?_⟩
      cases e2
      exact ⟨o, e, ex.2.1⟩
  | _ => exact False.elim ty
def tBM0 (K : PySem.W.Frag) (T : String) (r : V → List V → Hp → VK → Prop) (to : TE) : TE := fun σ H Q => to σ H fun x H1 => tyV K T x H1 ∧ r x [] H1 Q
def tBM (K : PySem.W.Frag) (T : String) (r : V → List V → Hp → VK → Prop) (to : TE) (t : TA) : TE := fun σ H Q => to σ H fun x H1 => tyV K T x H1 ∧ t σ H1 fun xs H2 => r x xs H2 Q
variable {o e : Expr} {es : List Expr} {to : TE} {t : TA} {name : Str} {apos cpos : Pos} {T id : String} {r : V → List V → Hp → VK → Prop}
theorem pe_bm0 (pa : PlainAttrs T) (slot : Slot T name id) (hty : typeOf (.builtin id) = pure (.type "method_descriptor")) (hm : MtR X id r) (ho : PE X o to)
    (hbase : attributeBase o name X.env (eval o X.env) = eval o X.env := by rfl) (hline : (apos.endLine == cpos.line) = true := by rfl) : PE X (.Call (.Attribute o name apos) [] [] cpos) (tBM0 X.K T r to) := by
  intro pins s σ H Q I h
  refine wpAny_Call_method0_late hbase hline (thn (ho pins s σ H _ I h) fun v s1 ⟨x, H1, I1, r1, ty, q1⟩ => ?_)
  obtain ⟨h1, h2⟩ := tyV_is I1 r1 ty
  exact ⟨T, id, pa, slot, hty, h1, h2, Calls.callWith_builtin rfl (PySem.evalArgs_none (hm pins s1 σ H1 x [] v [] Q I1 r1 .nil q1))⟩
theorem pe_bm (pa : PlainAttrs T) (slot : Slot T name id) (hty : typeOf (.builtin id) = pure (.type "method_descriptor")) (hm : MtR X id r) (ho : PE X o to) (ha : PA X (e :: es) t)
    (hbase : attributeBase o name X.env (eval o X.env) = eval o X.env := by rfl)
    (hfew : ((backTo cpos (starEach (e :: es) X.env)).all (fun x => !x.1) && (backToKw cpos (keywordEach [] X.env)).all (fun x => x.1.isSome)
      && decide ((e :: es).length + ([] : List Keyword).length + (if ([] : List Keyword).isEmpty then 0 else 1) < 30)) = true := by rfl)
    (hline : (apos.endLine == cpos.line) = true := by rfl) (hs : starEach (e :: es) X.env = (false, eval e X.env) :: starEach es X.env := by rfl) (hplain : (backTo cpos (starEach es X.env)).any (·.1) = false := by rfl) :
    PE X (.Call (.Attribute o name apos) (e :: es) [] cpos) (tBM X.K T r to t) := by
  intro pins s σ H Q I h
  refine wpAny_Call_method_late hbase hfew hline rfl (thn (ho pins s σ H _ I h) fun v s1 ⟨x, H1, I1, r1, ty, q1⟩ => ?_)
  obtain ⟨h1, h2⟩ := tyV_is I1 r1 ty
  refine ⟨T, id, pa, slot, hty, h1, h2, ?_⟩
  have hA := ha cpos pins s1 σ H1 _ I1 q1
  rw [hs] at hA ⊢
  refine Calls.callWith_builtin (by show (false || (backTo cpos (starEach es X.env)).any (·.1)) = false; rw [hplain] <;> rfl) (Calls.evalArgs_plain ?_)
  exact thn hA fun us s2 ⟨vs, H2, I2, r2, q2⟩ => hm pins s2 σ H2 x vs v us Q I2 r1 r2 q2
end
end L2
namespace L2
open PySem PySem.Spec PyProof.Rows
def MtM (X : Cx) (id : String) (r : V → List V → Hp → VK → Prop) : Prop :=
  ∀ (pins : List (Addr × Obj)) (s : Shared) (σ : St) (H : Hp) (x : V) (xs : List V) (v : Value) (us : List Value) (Q : VK), Inv X pins σ H s → RelV x v → Vals xs us → r x xs H Q →
    wpAny (model X.prog X.w) X.A (call (.builtin id) (v :: us)) (EP X pins σ Q) X.xe s
theorem Vals.one : ∀ {x : V} {us : List Value}, Vals [x] us → ∃ u, us = [u] ∧ RelV x u
  | _, _, .cons r .nil => ⟨_, rfl, r⟩
theorem Vals.zero : ∀ {us : List Value}, Vals [] us → us = []
  | _, .nil => rfl
theorem Vals.eraseIdx : ∀ {xs : List V} {us : List Value} (i : Nat), Vals xs us → Vals (xs.eraseIdx i) (us.eraseIdx i)
  | _, _, _, .nil => .nil
  | _, _, 0, .cons _ t => t
  | _, _, i + 1, .cons r t => .cons r (Vals.eraseIdx i t)
theorem len_erase {α : Type} : ∀ (l : List α) (i : Nat), (l.eraseIdx i).length ≤ l.length
  | [], _ => Nat.le_refl _
  | _ :: _, 0 => Nat.le_succ _
  | _ :: r, i + 1 => Nat.succ_le_succ (len_erase r i)
section
variable {X : Cx} {pins : List (Addr × Obj)} {σ : St} {H : Hp} {s : Shared} {l b : Addr} {xs ys zs : List V}
theorem Inv.lset {its its' : List Value} {n : Nat} {f : Array Value → Array Value} {t' : Nat} (I : Inv X pins σ H s) (hH : H l = some (.lst xs))
    (e : s.heap.get? l = some { cls := .type "list", data := .seq its.toArray n }) (hf : f its.toArray = its'.toArray) (hv : Vals ys its') (hz : ys.length ≤ sizeLine) :
    Inv X pins σ (upd H l (.lst ys)) { s with heap := s.heap.update l (Obj.mapSeq f), toks := t' } := by
  have q := PySem.IsL.update e f
  rw [hf] at q
  refine I.write (x := l) (e := l) (by rw [hH]; exact trivial) (.inl rfl) (fun b' u hb hu => (Heap.get?_update_other s.heap (Obj.mapSeq f) (Ne.symm hb)).trans hu) ⟨_, q⟩ ?_
  exact ⟨hz, its', _, hv, q⟩
theorem Inv.lstM (I : Inv X pins σ H s) (hH : H l = some (.lst xs)) : xs.length ≤ sizeLine ∧ ∃ (its : List Value) (n : Nat), Vals xs its ∧ xs.length = its.length ∧ s.heap.get? l = some { cls := .type "list", data := .seq its.toArray n } := by
  obtain ⟨z, its, n, r, e⟩ := I.hok l _ hH
  exact ⟨z, its, n, r, r.length, e⟩
end
section
variable {X : Cx}
def rAppend : V → List V → Hp → VK → Prop := fun x vs H Q => ∃ l xs y, x = .ref l ∧ vs = [y] ∧ H l = some (.lst xs) ∧ xs.length < sizeLine ∧ Q .non (upd H l (.lst (xs ++ [y])))
theorem mt_append : MtM X "list.append" rAppend := by
  intro pins s σ H x vs v us Q I rx rv h
  obtain ⟨l, xs, y, rfl, rfl, hH, hz, q⟩ := h
  cases rx
  obtain ⟨u, rfl, ru⟩ := rv.one
  obtain ⟨z, its, n, r, hl, e⟩ := I.lstM hH
  refine call_meets F.slot_list_append ⟨_, e, rfl⟩ F.entry_list_append (F.args_list_append_2 _ _) (PySem.list_append l its.toArray n u (by rw [List.size_toArray]; omega)) ⟨e, ?_⟩
  refine ⟨.non, _, I.lset (its' := its ++ [u]) hH e (by simp) (r.append (.cons ru .nil)) ?_, rfl, q⟩
  rw [List.length_append, List.length_singleton]
  omega
def rPopAt : V → List V → Hp → VK → Prop := fun x vs H Q => ∃ l xs i k y, x = .ref l ∧ vs = [.int i] ∧ H l = some (.lst xs) ∧ -(2 ^ 63) ≤ i ∧ i < 2 ^ 63 ∧ seqIndex? i xs.length = some k ∧ xs[k]? = some y ∧ Q y (upd H l (.lst (xs.eraseIdx k)))
theorem mt_popAt : MtM X "list.pop" rPopAt := by
  intro pins s σ H x vs v us Q I rx rv h
  obtain ⟨l, xs, i, k, y, rfl, rfl, hH, h1, h2, hk, hy, q⟩ := h
  cases rx
  obtain ⟨u, rfl, ru⟩ := rv.one
  obtain ⟨t, rfl⟩ := ru
  obtain ⟨z, its, n, r, hl, e⟩ := I.lstM hH
  obtain ⟨w, hw, rw'⟩ := r.get hy
  refine call_meets F.slot_list_pop ⟨_, e, rfl⟩ F.entry_list_pop (F.args_list_pop_2 _ _)
    (MeetsSeq.list_pop_at l its.toArray n i t k w (fitsIndex_both h1 h2) (by rw [List.size_toArray, ← hl]; exact hk) (by rw [← Array.getElem?_toList]; exact hw) (by rw [List.size_toArray]; omega)) ⟨e, ?_⟩
  refine ⟨y, _, I.lset (its' := its.eraseIdx k) hH e ?_ (r.eraseIdx k) ?_, rw', q⟩
  · show its.toArray.eraseIdxIfInBounds k = (its.eraseIdx k).toArray
    rw [List.eraseIdxIfInBounds_toArray]
  · have := len_erase xs k
    omega
end
section
variable {prog : Program} {w : World} {A : Around} {E : Value → Shared → Prop} {s : Shared}
end
section
variable {X : Cx}
end
end L2
namespace Att
open PySem PySem.W PySem.Calls PyProof.Rows
theorem ints_of_wellAll {P : Params} {h : Heap} : ∀ (ns : List Int) (vs : List Value), WellAll P h vs (ns.map WData.int) → IntsAre vs ns := by
  intro ns
  induction ns with
  | nil =>
    intro vs w
    rw [List.map_nil] at w
    cases w
    exact .nil
  | cons n ns ih =>
    intro vs w
    rw [List.map_cons] at w
    cases w with
    | cons a b =>
      cases a
      exact .cons _ _ (ih _ b)
theorem script_of {l : OpenLaw} {n : Nat} (hn : l.most = some n) {P : Params} {h : Heap} {args : List WData} {vals : List Value}
    (hpre : l.row.toRowW.claim.pre args = true) (hwl : WellAll P h vals args) :
    ∃ a vs ns, vals = [Value.ref a] ∧ args = [WData.list (ns.map WData.int)] ∧ h.get? a = some { cls := .type "list", data := .seq vs.toArray } ∧ IntsAre vs ns ∧ ns.length ≤ n := by
  have hsh : WShape.hasAll [] args [.list .int] = true := (pre_splitW hpre).1
  have hc : l.pre.holds [] { args := args } = true := (pre_splitW hpre).2
  obtain ⟨d, r, rfl, h1, h2⟩ := hasAllW_cons hsh
  obtain rfl := hasAllW_nil h2
  obtain ⟨xs, rfl, h3⟩ := hasW_list h1
  obtain ⟨ns, rfl⟩ := items_int h3
  have hlen : ns.length ≤ n := by
    unfold OpenLaw.pre at hc
    have h4 : (WTm.not (.lt (.lit (.int (n : Int))) (.len (.arg 0)))).holds [] { args := [.list (ns.map .int)] } = true := by
      have h4 := (holds_andW hc).1
      rw [hn] at h4
      exact h4
    have h5 := condW_of h4 (w_not (w_lt w_lit (w_len_list (w_arg rfl))))
    rw [List.length_map] at h5
    refine Nat.le_of_not_lt fun q => ?_
    have q' : (n : Int) < ((ns.length : Nat) : Int) := by omega
    first
      | (rw [decide_eq_true q'] at h5; exact absurd h5 (by decide))
      | (simp at h5; omega)
  cases hwl with
  | cons w1 w2 =>
    cases w2
    cases w1 with
    | list ho hall => exact ⟨_, _, ns, rfl, rfl, ho, ints_of_wellAll ns _ hall, hlen⟩
theorem post_true (l : OpenLaw) (args : List WData) : l.row.toRowW.claim.post args (.bool true) args = true :=
  postW_of (r := l.row.toRowW) (X := (true == true))
    (show WShape.has [] (.bool true) .bool = true by first | rfl | decide | simp [WShape.has, WShape.arms, WShape.armsAll])
    (show (WTm.eq .res (.lit (.bool true))).value [] { args := args, res := some (.bool true), after := args } = some (.bool (true == true)) from w_eq_bool (w_res rfl) w_lit) rfl
theorem attach_call {l : OpenLaw} {n : Nat} {q : Program} {loose : List Str} {XP : (Str → Option Value) → Heap → Prop} {YP : World → Heap → Prop} {d : DefRec}
    (hn : l.most = some n) (hdf : d.params.defaults = [])
    (call : ∀ (w : World) (s₀ s₁ : Shared) (mg mb : Str → Option Value) (fa : Addr) (o : Obj) (pm cd doc : Value) (a : Addr) (vs : List Value) (ns : List Int),
      Ground q loose [] XP w s₀ mg mb s₁.heap → YP w s₁.heap →
      s₁.heap.get? fa = some o → o.data = .func (docDef d.name d.params d.body d.scope pm cd doc) → s₁.heap.CodeRec cd d.name → mg d.name = some (.ref fa) →
      s₁.heap.get? a = some { cls := .type "list", data := .seq vs.toArray } → IntsAre vs ns → ns.length ≤ n → s₁.gens = #[] →
      codeAny (model l.prog w) callerA (.call (.ref fa) ⟨[.ref a], []⟩) (fun r s' => r = .ok (.ret (.bool true)) ∧ OldK s₁.heap s'.heap ∧ s'.os = s₁.os ∧ AllBare s'.gens) s₁) :
    WalkO q loose XP YP l.row.toRowW d [] (fun f vs => PySem.call f vs) := by
  intro w s₀ s₁ mg mb G Y fa o pm cd doc dV kV ho hd hcd hD hmg hg args vals as hpre hlay hrd hwl hlo
  obtain rfl : dV = .none := Dflts.none hD hdf
  obtain rfl : kV = .none := Dflts.noKw hD
  obtain ⟨a, vs, ns, rfl, rfl, hobj, hints, hlen⟩ := script_of hn hpre hwl
  refine enter_call (codeAny_mono (call w s₀ s₁ mg mb fa o pm cd doc a vs ns G Y ho (fd_plain hd) hcd hmg hobj hints hlen hg) fun r s' hq => ?_)
  obtain ⟨rfl, h2, h3, h4⟩ := hq
  exact ⟨.inl ⟨.bool true, .bool true, [], rfl, fun _ => rfl, .bool true, post_true l _, fun _ => ⟨List.Pairwise.nil, fun _ hm => (nomatch hm)⟩⟩, h2, h3, h4⟩
section
variable {prog : Program} {w : World} {A : Around} {E : Value → Shared → Prop} {s : Shared} {K : Frag}
end
end Att
namespace L2
open PySem PySem.Spec PyProof.Rows
theorem vals_ints : ∀ {vs : List Value} {ns : List Int}, IntsAre vs ns → Vals (ns.map V.int) vs
  | _, _, .nil => .nil
  | _, _, .cons n t h => .cons ⟨t, rfl⟩ (vals_ints h)
def Only (H : Hp) : Prop := ∀ b, H b = none ∨ ∃ o xs, H b = some (.frz o (.lst xs))
theorem law_call {P : Program} {w : World} {K : PySem.W.Frag} {mg mb : Str → Option Value} {CX : CXT} {k : Nat} {fa a : Addr} {fd : FuncData} {x : Str} {sp : Sp} {s₁ : Shared} {vs : List Value} {ns : List Int}
    (KX : K.In s₁.heap) (hns : s₁.heap.Ns mainGlobals mg) (hb : s₁.heap.Ns builtinsNs mb) (hbb : ∀ x : Str, x ≠ "__name__" → mb x = bootBuiltins x) (hlim : s₁.heap.NoLimit) (hg : s₁.gens = #[])
    (ha : s₁.heap.get? a = some { cls := .type "list", data := .seq vs.toArray }) (hi : IntsAre vs ns) (hl : ns.length ≤ sizeLine) (hr : Room k callerA)
    (F : ∀ base : Heap, K.In base → base.Ns mainGlobals mg → FnOk P w K mg base CX k fa fd [x] sp) (hbind : ∀ (s : Shared) (u : Value), BindsTo s fd ⟨[u], []⟩ [(x, u)])
    (hsp : ∀ H : Hp, Only H → SqL K H a (ns.map V.int) → sp [.ref a] H (fun v _ => v = .bl true) fun _ _ _ => False)
    (hCX : ∀ H e s', CX [] H s₁ (fun _ _ _ => False) e s' → False) :
    codeAny (model P w) callerA (.call (.ref fa) ⟨[.ref a], []⟩) (fun r s' => r = .ok (.ret (.bool true)) ∧ OldK s₁.heap s'.heap ∧ s'.os = s₁.os ∧ AllBare s'.gens) s₁ := by
  have rv := vals_ints hi
  have lenV := hi.length
  have core : ∀ H : Hp, Only H → SqL K H a (ns.map V.int) → HOk P w H s₁.heap → (∀ b, H b ≠ none → b = a) → (H a ≠ none → K.lookup a = none) →
      codeAny (model P w) callerA (.call (.ref fa) ⟨[.ref a], []⟩) (fun r s' => r = .ok (.ret (.bool true)) ∧ OldK s₁.heap s'.heap ∧ s'.os = s₁.os ∧ AllBare s'.gens) s₁ := by
    intro H hO hS hok hA hK
    have base_of : ∀ {b : Addr} {o : Obj}, s₁.heap.get? b = some o → H b = none → (hidT s₁.heap H).get? b = some o := fun e n => hidT_get e n
    have noA : ∀ {b : Addr} {o : Obj} {es : Array DictEntry} {ep : Nat}, s₁.heap.get? b = some o → o.data = .dict es ep → H b = none := fun {b o es ep} e d => by
      cases q : H b with
      | none => rfl
      | some u =>
        have e' : b = a := hA b (by rw [q]; simp)
        subst e'
        rw [ha] at e; cases e
        have d' : Data.seq vs.toArray _ = Data.dict es ep := d
        cases d'
    have nsK : ∀ {b : Addr} {m : Str → Option Value}, s₁.heap.Ns b m → (hidT s₁.heap H).Ns b m := fun {b m} ⟨o, es, ep, e, d, r⟩ => ⟨o, es, ep, base_of e (noA e d), d, r⟩
    have hKb : K.In (hidT s₁.heap H) := fun b o e => base_of (KX b o e) (by
      cases q : H b with
      | none => rfl
      | some u =>
        have e' : b = a := hA b (by rw [q]; simp)
        subst e'
        rw [hK (by rw [q]; simp)] at e; cases e)
    have hM : Mod K mg (hidT s₁.heap H) := ⟨hKb, nsK hns, ⟨mb, nsK hb, hbb⟩, let ⟨mc, h1, h2⟩ := hlim; ⟨mc, nsK h1, h2⟩⟩
    have e0 : Env0 P w K mg (hidT s₁.heap H) callerA [] s₁ H := ⟨rfl, hM, fun b o e => of_hidT e, Nat.le_of_eq (hidT_size _ _), trivial, fun b hb => absurd (show b ∈ ([] : List Addr) from hb) (by simp), hok, .of_eq hg⟩
    refine codeAny_mono ((F _ hKb (nsK hns)).run callerA [] s₁ H ⟨[.ref a], []⟩ [.ref a] [.ref a] _ _ hr e0 (hbind s₁ (.ref a)) (.cons rfl .nil) (hsp H hO hS)) fun r s' h => ?_
    cases r with
    | error e => exact (hCX H e s' h).elim
    | ok fl =>
      cases fl with
      | next => exact False.elim h
      | brk => exact False.elim h
      | cont => exact False.elim h
      | ret u =>
        obtain ⟨v, H', os, bare, un, hok', r', q⟩ := h
        have q' : v = .bl true := q
        subst q'
        obtain rfl : u = Value.bool true := r'
        refine ⟨rfl, OldK.of_keep fun b o e => ?_, os, bare⟩
        cases q : H b with
        | none => exact un.keep b o e q (by intro z; exact absurd (show b ∈ ([] : List Addr) from z) (by simp)) (by simp)
        | some u =>
          rcases hO b with z | ⟨ob, xs, z⟩
          · rw [q] at z; cases z
          · have z2 := un.frzs b ob _ z
            obtain ⟨e1, _⟩ := hok b _ z
            obtain ⟨e2, _⟩ := hok' b _ z2
            rw [e] at e1; cases e1
            exact e2
  cases hk : K.lookup a with
  | some o =>
    have e := KX a o hk
    rw [ha] at e
    cases e
    refine core (fun _ => none) (fun _ => .inl rfl) (.inr ⟨_, vs.toArray, _, hk, rfl, rfl, rfl, by rw [List.size_toArray, lenV]; exact hl, by simpa using rv⟩) (fun b u z => by have z' : (none : Option HO) = some u := z; cases z') (fun b z => absurd rfl z) fun z => absurd rfl z
  | none =>
    refine core (fun b => if b = a then some (.frz { cls := .type "list", data := .seq vs.toArray } (.lst (ns.map V.int))) else none) (fun b => ?_) (.inl (.inr ⟨{ cls := .type "list", data := .seq vs.toArray }, if_pos rfl⟩)) (fun b u z => ?_) (fun b z => ?_) fun _ => hk
    · by_cases hb : b = a
      · exact .inr ⟨_, _, if_pos hb⟩
      · exact .inl (if_neg hb)
    · by_cases hb : b = a
      · have z' := (if_pos hb).symm.trans z
        cases z'
        subst hb
        exact ⟨ha, by rw [List.length_map]; exact hl, vs, _, rv, ha⟩
      · have z' := (if_neg hb).symm.trans z
        cases z'
    · by_cases hb : b = a
      · exact hb
      · exact absurd (if_neg hb) z
end L2
namespace L2
open PySem PySem.Spec PyProof.Rows
theorem walk_of {l : PySem.W.OpenLaw} {n k : Nat} {q : Program} {loose : List Str} {XP : (Str → Option Value) → Heap → Prop} {YP : World → Heap → Prop} {d : DefRec} {K : Params → PySem.W.Frag} {CX : World → CXT} {sp : World → Sp} {x : Str}
    (hn : l.most = some n) (hn2 : n ≤ sizeLine) (hdf : d.params.defaults = []) (hr : Room k callerA)
    (hY : ∀ (w : World) (h : Heap), YP w h → (K w.params).In h)
    (F : ∀ (w : World) (mg : Str → Option Value) (fa : Addr) (h : Heap), (K w.params).In h → h.Ns mainGlobals mg → mg d.name = some (.ref fa) →
      ∃ fd : FuncData, (∀ (s : Shared) (u : Value), BindsTo s fd ⟨[u], []⟩ [(x, u)]) ∧
        ∀ base : Heap, (K w.params).In base → base.Ns mainGlobals mg → FnOk l.prog w (K w.params) mg base (CX w) k fa fd [x] (sp w))
    (hsp : ∀ (w : World) (H : Hp) (a : Addr) (ns : List Int), ns.length ≤ n → Only H → SqL (K w.params) H a (ns.map V.int) → sp w [.ref a] H (fun v _ => v = .bl true) fun _ _ _ => False)
    (hCX : ∀ (w : World) (H : Hp) (s : Shared) (e : Value) (s' : Shared), CX w [] H s (fun _ _ _ => False) e s' → False) :
    PySem.W.WalkO q loose XP YP l.row.toRowW d [] (fun f vs => PySem.call f vs) := by
  refine Att.attach_call hn hdf fun w s₀ s₁ mg mb fa o pm cd doc a vs ns G Y ho hd hcd hmg hobj hints hlen hg => ?_
  have KX := hY w _ Y
  obtain ⟨fd, hb, hF⟩ := F w mg fa _ KX G.T.g hmg
  exact law_call KX G.T.g G.T.b G.T.builtins G.T.nolimit hg hobj hints (Nat.le_trans hlen hn2) hr hF hb (fun H hO hS => hsp w H a ns hlen hO hS) fun H e s' => hCX w H s₁ e s'
end L2
namespace L2
open PySem PySem.Spec PyProof.Rows
def inClass (s : Stmt) (j : Nat) : Stmt := match s with
  | .ClassDef _ _ _ body _ _ _ _ _ _ _ => body.getD j (.Pass ⟨0, 0, 0, 0⟩)
  | _ => .Pass ⟨0, 0, 0, 0⟩
def defArgs (s : Stmt) : Arguments := match s with
  | .FunctionDef _ a _ _ _ _ _ _ _ _ => a
  | _ => { posonlyargs := [], args := [], vararg := none, kwonlyargs := [], kw_defaults := [], kwarg := none, defaults := [] }
def defBody (s : Stmt) : List Stmt := match s with
  | .FunctionDef _ _ b _ _ _ _ _ _ _ => b
  | _ => []
def defScope (s : Stmt) : Scope := match s with
  | .FunctionDef _ _ _ _ _ _ sc _ _ _ => sc
  | _ => { kind := .function, names := [], isGenerator := false, isCoroutine := false }
abbrev CX0 : CXT := fun _ _ _ _ _ _ => False
abbrev E0 : XK := fun _ _ _ => False
theorem pass0 {X : Cx} : Passes CX0 X E0 := fun _ _ _ _ _ _ _ h => h.elim
structure Fun (K : PySem.W.Frag) (x qual : Str) (st : Stmt) (f : Addr) (fd : FuncData) : Prop where
  ex : ∃ (oc : Value) (od : Option Addr) (kV doc pm : Value) (an : Option Addr) (cdv ct : Value) (osl : Array (Option Value)),
    fd = PySem.W.fnOf x qual (defArgs st) (defBody st) (defScope st) .none kV doc pm an cdv ct ∧ K.lookup f = some ⟨oc, od, .func fd, osl⟩ ∧ PySem.W.codeIn K cdv qual = true
  kp : PySem.W.keepIn K (.ref f) = true
section
variable {P : Program} {w : World} {K : PySem.W.Frag} {mg : Str → Option Value} {base : Heap}
theorem Fun.ok {x qual : Str} {st : Stmt} {f : Addr} {fd : FuncData} {N ps : List Str} {k : Nat} {sp : Sp} (F : Fun K x qual st f fd) (S : FnScope N ps (defScope st)) (len : ∀ vs H Q E, sp vs H Q E → vs.length = ps.length)
    (hbody : ∀ (cdv : Value) (A : Around) (outer : List Env) (s : Shared) (H : Hp) (vs : List V) (Q : VK) (E : XK), Room k (A.deeper (envOfC qual (defScope st) s.heap.objs.size f cdv)) → sp vs H Q E →
      ∃ t, PSs (cxOf CX0 P w K mg base N qual (defScope st) f cdv A outer s H E).nox (defBody st) t ∧ t { nx := fun _ H' => Q .non H', rt := Q } (start N vs) H) : FnOk P w K mg base CX0 (k + 1) f fd ps sp := by
  obtain ⟨oc, od, kV, doc, pm, an, cdv, ct, osl, rfl, lk, hcd⟩ := F.ex
  refine fn_of lk hcd S len fun A outer s H vs Q E hr hsp => ?_
  obtain ⟨t, h, q⟩ := hbody cdv A outer s H vs Q E hr hsp
  exact ⟨t, h.nox, q⟩
theorem Fun.binds {x qual : Str} {st : Stmt} {f : Addr} {fd : FuncData} {ps : List Str} (F : Fun K x qual st f fd)
    (h : ∀ (kV doc pm : Value) (an : Option Addr) (cdv ct : Value) (us : List Value), us.length = ps.length → bindArgs (PySem.W.fnOf x qual (defArgs st) (defBody st) (defScope st) .none kV doc pm an cdv ct) ⟨us, []⟩ = pure (ps.zip us)) : Binds K fd ps [] := by
  obtain ⟨oc, od, kV, doc, pm, an, cdv, ct, osl, rfl, lk, hcd⟩ := F.ex
  exact .all (h kV doc pm an cdv ct)
theorem fun_mk {x qual : Str} {st : Stmt} {f : Addr} {oc : Value} {od an : Option Addr} {osl : Array (Option Value)} {kV doc pm cdv ct : Value} (l : K.lookup f = some ⟨oc, od, .func (PySem.W.fnOf x qual (defArgs st) (defBody st) (defScope st) .none kV doc pm an cdv ct), osl⟩)
    (c : PySem.W.codeIn K cdv qual = true) (k : PySem.W.keepIn K (.ref f) = true) : Fun K x qual st f (PySem.W.fnOf x qual (defArgs st) (defBody st) (defScope st) .none kV doc pm an cdv ct) := ⟨⟨oc, od, kV, doc, pm, an, cdv, ct, osl, rfl, l, c⟩, k⟩
end
theorem hu_of {A : Around} {k : Nat} (hr : Room k A) : A.units + 1 < cLine := Nat.lt_of_le_of_lt (Nat.add_le_add_left (by decide : 1 ≤ 64) _) hr.units
section
variable {X : Cx}
theorem pv (i : Nat) {x : Str} {pos : Pos} (hN : X.N[i]? = some x := by rfl) (hv : Vis X.env.scope x := by first | exact Or.inl rfl | exact Or.inr (Or.inl rfl) | exact Or.inr (Or.inr rfl)) (hd : (x == ("__debug__" : Str)) = false := by decide)
    (hcd : (x == ("__classdict__" : Str)) = false := by decide) : PE X (.Name x pos) (tVar i) := pe_var hN hv hd hcd
end
theorem iteF {A B : Prop} (h : B) : if false = true then A else B := by
  rw [if_neg Bool.false_ne_true]
  exact h
theorem iteT {A B : Prop} (h : A) : if true = true then A else B := by
  rw [if_pos rfl]
  exact h
theorem ite2 {c A B : Prop} [Decidable c] (h1 : c → A) (h2 : ¬ c → B) : if c then A else B := by
  by_cases h : c
  · rw [if_pos h]
    exact h1 h
  · rw [if_neg h]
    exact h2 h
theorem iteNS {c A B : Prop} [Decidable c] (hc : c) (h : B) : if (!decide c) = true then A else B := by
  rw [decide_eq_true hc]
  exact iteF h
def Same (H H' : Hp) : Prop := ∀ b o, H b = some o → H' b = some o
theorem Same.refl (H : Hp) : Same H H := fun _ _ h => h
theorem Same.trans {H H1 H2 : Hp} (a : Same H H1) (b : Same H1 H2) : Same H H2 := fun c o h => b c o (a c o h)
theorem Same.seq {K : PySem.W.Frag} {H H' : Hp} {a : Addr} {xs : List V} (e : Same H H') (h : SqL K H a xs) : SqL K H' a xs := by
  rcases h with (h | ⟨o, h⟩) | h
  · exact .inl (.inl (e _ _ h))
  · exact .inl (.inr ⟨o, e _ _ h⟩)
  · exact .inr h
end L2
namespace L2
open PySem PySem.Spec PyProof.Rows
section
variable {κ : Type} [DecidableEq κ]
def valV (kvs : List (κ × V)) (k : κ) : Option V := (kvs.find? fun kv => decide (kv.1 = k)).map (·.2)
def putK (kvs : List (κ × V)) (k : κ) (v : V) : List (κ × V) :=
  if (kvs.any fun kv => decide (kv.1 = k)) = true then kvs.map (fun kv => if kv.1 = k then (kv.1, v) else kv) else kvs ++ [(k, v)]
theorem valV_pos {p : κ × V} {r : List (κ × V)} {k : κ} (e : p.1 = k) : valV (p :: r) k = some p.2 := by simp [valV, List.find?_cons, e]
theorem valV_neg {p : κ × V} {r : List (κ × V)} {k : κ} (e : ¬ p.1 = k) : valV (p :: r) k = valV r k := by simp [valV, List.find?_cons, e]
theorem valV_any (k : κ) : ∀ kvs : List (κ × V), (kvs.any fun kv => decide (kv.1 = k)) = (valV kvs k).isSome
  | [] => rfl
  | p :: r => by
    rw [List.any_cons]
    by_cases e : p.1 = k
    · simp only [valV_pos e, decide_eq_true e, Bool.true_or, Option.isSome_some]
    · rw [valV_neg e, decide_eq_false e, Bool.false_or]; exact valV_any k r
theorem length_putK (kvs : List (κ × V)) (k : κ) (v : V) : (putK kvs k v).length ≤ kvs.length + 1 := by
  unfold putK
  split
  · rw [List.length_map]; omega
  · rw [List.length_append, List.length_cons, List.length_nil]; omega
theorem RelO.isSome_eq {o : Option V} {u : Option Value} (r : RelO o u) : o.isSome = u.isSome := by
  cases o with
  | none => cases u with
    | none => rfl
    | some _ => exact (show False from r).elim
  | some _ => cases u with
    | none => exact (show False from r).elim
    | some _ => rfl
theorem RelO.getD {o : Option V} {u : Option Value} {d : V} {d' : Value} (r : RelO o u) (rd : RelV d d') : RelV (o.getD d) (u.getD d') := by
  cases o with
  | none => cases u with
    | none => exact rd
    | some _ => exact (show False from r).elim
  | some _ => cases u with
    | none => exact (show False from r).elim
    | some _ => exact r
theorem KV.val {kvs : List (κ × V)} {vs : List (κ × Value)} (r : KV kvs vs) (k : κ) : RelO (valV kvs k) (valueAt vs k) := by
  unfold KV at r
  induction r with
  | nil => exact True.intro
  | @cons p q ps qs h t ih =>
    obtain ⟨h1, h2⟩ := h
    by_cases e : p.1 = k
    · have e' : q.1 = k := h1.symm.trans e
      have b : valueAt (q :: qs) k = some q.2 := by simp [valueAt, List.find?_cons, e']
      rw [valV_pos e, b]; exact h2
    · have e' : ¬ q.1 = k := fun z => e (h1.trans z)
      have b : valueAt (q :: qs) k = valueAt qs k := by simp [valueAt, List.find?_cons, e']
      rw [valV_neg e, b]; exact ih
theorem KV.any {kvs : List (κ × V)} {vs : List (κ × Value)} (r : KV kvs vs) (k : κ) : (kvs.any fun kv => decide (kv.1 = k)) = vs.any fun kv => decide (kv.1 = k) := by
  unfold KV at r
  induction r with
  | nil => rfl
  | cons h t ih => rw [List.any_cons, List.any_cons, ih, h.1]
theorem KV.repl {kvs : List (κ × V)} {vs : List (κ × Value)} (r : KV kvs vs) (k : κ) {y : V} {u : Value} (ry : RelV y u) :
    KV (kvs.map fun kv => if kv.1 = k then (kv.1, y) else kv) (vs.map fun kv => if kv.1 = k then (kv.1, u) else kv) := by
  unfold KV at r ⊢
  induction r with
  | nil => exact .nil
  | @cons p q ps qs h t ih =>
    rw [List.map_cons, List.map_cons]
    refine .cons ?_ ih
    obtain ⟨h1, h2⟩ := h
    by_cases e : p.1 = k
    · rw [if_pos e, if_pos (h1.symm.trans e)]; exact ⟨h1, ry⟩
    · rw [if_neg e, if_neg (fun z => e (h1.trans z))]; exact ⟨h1, h2⟩
theorem KV.put {kvs : List (κ × V)} {vs : List (κ × Value)} (r : KV kvs vs) (k : κ) {y : V} {u : Value} (ry : RelV y u) : KV (putK kvs k y) (stored vs k u) := by
  unfold putK stored
  rw [r.any k]
  by_cases e : (vs.any fun kv => decide (kv.1 = k)) = true
  · rw [if_pos e, if_pos e]; exact r.repl k ry
  · rw [if_neg e, if_neg e]; exact Paired.snoc r ⟨rfl, ry⟩
theorem KV.keys {kvs : List (κ × V)} {vs : List (κ × Value)} (r : KV kvs vs) : kvs.map (·.1) = vs.map (·.1) := by
  unfold KV at r
  induction r with
  | nil => rfl
  | cons h t ih => rw [List.map_cons, List.map_cons, ih, h.1]
theorem KV.length {kvs : List (κ × V)} {vs : List (κ × Value)} (r : KV kvs vs) : kvs.length = vs.length := Paired.length r
end
theorem kV_is {P : Program} {w : World} {k : Key} {u : Value} (r : RelV (kV k) u) : (mixKind P w).is k u = true := by
  cases k with
  | inl i => obtain ⟨t, e⟩ := (show ∃ t, u = Value.int i t from r); subst e; exact mixKind_int P w i t
  | inr x => obtain ⟨t, e⟩ := (show ∃ t, u = Value.str x t from r); subst e; exact mixKind_str P w x t
theorem items_are {P : Program} {w : World} : ∀ {ks : List Key} {us : List Value}, Vals (ks.map kV) us → ItemsAre (mixKind P w) ks us
  | [], _, r => by rw [List.map_nil] at r; cases r; exact .nil
  | k :: ks, _, r => by
    rw [List.map_cons] at r
    cases r with
    | cons h t => exact .cons (kV_is h) (items_are t)
abbrev KT (H : Hp) : List (List Key × V) → List (List Key × Addr × Value) → Prop := Paired fun p q => p.1 = q.1 ∧ H q.2.1 = some (.tup (p.1.map kV)) ∧ RelV p.2 q.2.2
theorem KT.val {H : Hp} {kvs : List (List Key × V)} {xs : List (List Key × Addr × Value)} (r : KT H kvs xs) (k : List Key) : RelO (valV kvs k) ((atKey xs k).map (·.2)) := by
  induction r with
  | nil => exact True.intro
  | @cons p q ps qs h t ih =>
    obtain ⟨h1, _, h2⟩ := h
    by_cases e : p.1 = k
    · have e' : q.1 = k := h1.symm.trans e
      have b : atKey (q :: qs) k = some q.2 := by simp [atKey, List.find?_cons, e']
      rw [valV_pos e, b]; exact h2
    · have e' : ¬ q.1 = k := fun z => e (h1.trans z)
      have b : atKey (q :: qs) k = atKey qs k := by simp [atKey, List.find?_cons, e']
      rw [valV_neg e, b]; exact ih
theorem KT.repl {H : Hp} {kvs : List (List Key × V)} {xs : List (List Key × Addr × Value)} (r : KT H kvs xs) (k : List Key) {y : V} {u : Value} (ry : RelV y u) :
    KT H (kvs.map fun kv => if kv.1 = k then (kv.1, y) else kv) (xs.map (putAt k u)) := by
  induction r with
  | nil => exact .nil
  | @cons p q ps qs h t ih =>
    rw [List.map_cons, List.map_cons]
    refine .cons ?_ ih
    obtain ⟨h1, h2, h3⟩ := h
    unfold putAt
    by_cases e : p.1 = k
    · rw [if_pos e, if_pos (h1.symm.trans e)]; exact ⟨h1, h2, ry⟩
    · rw [if_neg e, if_neg (fun z => e (h1.trans z))]; exact ⟨h1, h2, h3⟩
theorem KT.put {H : Hp} {kvs : List (List Key × V)} {xs : List (List Key × Addr × Value)} (r : KT H kvs xs) (k : List Key) {b : Addr} {y : V} {u : Value} (hb : H b = some (.tup (k.map kV))) (ry : RelV y u) :
    KT H (putK kvs k y) (storedH xs k b u) := by
  have e : (kvs.any fun kv => decide (kv.1 = k)) = (atKey xs k).isSome := by
    rw [valV_any, (r.val k).isSome_eq, Option.isSome_map]
  unfold putK storedH
  rw [e]
  by_cases q : (atKey xs k).isSome = true
  · rw [if_pos q, if_pos q]; exact r.repl k ry
  · rw [if_neg q, if_neg q]; exact Paired.snoc r ⟨rfl, hb, ry⟩
theorem KT.keeps {H H' : Hp} {kvs : List (List Key × V)} {xs : List (List Key × Addr × Value)} (r : KT H kvs xs) (ht : ∀ b ys, H b = some (.tup ys) → H' b = some (.tup ys)) : KT H' kvs xs :=
  Paired.mapP r fun _ _ z => ⟨z.1, ht _ _ z.2.1, z.2.2⟩
section
variable {P : Program} {w : World} {H : Hp} {h : Heap} {a : Addr}
theorem rd_of {u : HO} (ok : HOk P w H h) (e : Rd H a u) : ObjOk P w H h a u := e.ok ok
theorem dk_rd {kvs : List (Key × V)} (ok : HOk P w H h) (e : Rd H a (.dK kvs)) : kvs.length ≤ sizeLine ∧ (a == sysModules) = false ∧ ∃ vs, KV kvs vs ∧ h.DictOf (mixKind P w) a vs :=
  show ObjOk P w H h a (.dK kvs) from rd_of ok e
theorem dk_of {kvs : List (Key × V)} (ok : HOk P w H h) (e : H a = some (.dK kvs)) : kvs.length ≤ sizeLine ∧ (a == sysModules) = false ∧ ∃ vs, KV kvs vs ∧ h.DictOf (mixKind P w) a vs := dk_rd ok (.inl e)
theorem key_of {ks : List Key} (ok : HOk P w H h) (e : H a = some (.tup (ks.map kV))) : (tupleKind (mixKind P w)).is h ks a := by
  obtain ⟨_, its, r, o, h1, h2, n, h3⟩ := (show ObjOk P w H h a (.tup (ks.map kV)) from ok a _ e)
  exact ⟨o, its.toArray, n, h1, h2, h3, by simpa using items_are r⟩
theorem dt_rd {kvs : List (List Key × V)} (ok : HOk P w H h) (e : Rd H a (.dT kvs)) : kvs.length ≤ sizeLine ∧ (a == sysModules) = false ∧
    ∃ xs, KT H kvs xs ∧ h.DictOfH (tupleKind (mixKind P w)) a xs := by
  obtain ⟨z, y, xs, r, o, es, ep, h1, h2, h3, h4, h5⟩ := (show ObjOk P w H h a (.dT kvs) from rd_of ok e)
  refine ⟨z, y, xs, r, o, es, ep, h1, h2, h3, h4, fun x hx => ?_, h5⟩
  have all : ∀ {l : List (List Key × V)} {m : List (List Key × Addr × Value)}, KT H l m → ∀ x ∈ m, (tupleKind (mixKind P w)).is h x.1 x.2.1 := by
    intro l m q
    induction q with
    | nil => intro x hx; exact nomatch hx
    | @cons p q ps qs hq t ih =>
      intro x hx
      rcases List.mem_cons.mp hx with e | hx
      · subst e
        exact key_of ok (by rw [← hq.1]; exact hq.2.1)
      · exact ih x hx
  exact all r x hx
theorem dt_of {kvs : List (List Key × V)} (ok : HOk P w H h) (e : H a = some (.dT kvs)) : kvs.length ≤ sizeLine ∧ (a == sysModules) = false ∧
    ∃ xs, KT H kvs xs ∧ h.DictOfH (tupleKind (mixKind P w)) a xs := dt_rd ok (.inl e)
end
def DGet (H : Hp) (a : Addr) (y : V) (r : Option V) : Prop :=
  (∃ kvs k, Rd H a (.dK kvs) ∧ y = kV k ∧ r = valV kvs k) ∨ ∃ kvs k b, Rd H a (.dT kvs) ∧ y = .ref b ∧ H b = some (.tup (k.map kV)) ∧ r = valV kvs k
def DPut (H : Hp) (a : Addr) (y v : V) (H' : Hp) : Prop :=
  (∃ kvs k, H a = some (.dK kvs) ∧ y = kV k ∧ kvs.length < sizeLine ∧ H' = upd H a (.dK (putK kvs k v))) ∨
  ∃ kvs k b, H a = some (.dT kvs) ∧ y = .ref b ∧ H b = some (.tup (k.map kV)) ∧ kvs.length < sizeLine ∧ H' = upd H a (.dT (putK kvs k v))
theorem DGet.k {H : Hp} {a : Addr} {kvs : List (Key × V)} {k : Key} (e : H a = some (.dK kvs)) : DGet H a (kV k) (valV kvs k) := .inl ⟨kvs, k, .inl e, rfl, rfl⟩
theorem DPut.k {H : Hp} {a : Addr} {kvs : List (Key × V)} {k : Key} {v : V} (e : H a = some (.dK kvs)) (hl : kvs.length < sizeLine) : DPut H a (kV k) v (upd H a (.dK (putK kvs k v))) := .inl ⟨kvs, k, e, rfl, hl, rfl⟩
section
variable {X : Cx} {pins : List (Addr × Obj)} {σ : St} {H : Hp} {s : Shared} {a : Addr} {y v : V} {u r : Value} {o : Option V} {A : Around} {E : Value → Shared → Prop}
theorem Inv.big (I : Inv X pins σ H s) : sysModules < s.heap.objs.size := by
  have h : mainGlobals < s.heap.objs.size := (I.mod.glob.keeps I.bk).lt
  exact Nat.lt_trans (by decide) h
theorem d_getItem {Q : Value → Shared → Prop} (hu : A.units + 1 < cLine) (I : Inv X pins σ H s) (g : DGet H a y (some v)) (ry : RelV y u) (h : ∀ w' s', Inv X pins σ H s' → RelV v w' → Q w' s') :
    wpAny (model X.prog X.w) A (getItem (.ref a) u) Q E s := by
  rcases g with ⟨kvs, k, e, ey, l⟩ | ⟨kvs, k, b, e, ey, eb, l⟩
  · subst ey
    obtain ⟨z, hd, vs, rel, dd⟩ := dk_rd I.hok e
    obtain ⟨w', hw, rw'⟩ := RelO.some_of (v := v) (o := valueAt vs k) (by rw [l]; exact rel.val k)
    exact wpAny_getItem_of (kV_is ry) dd.mapOf hw (h w' _ (I.tok _) rw')
  · subst ey
    cases (show u = Value.ref b from ry)
    obtain ⟨z, hd, xs, rel, dd⟩ := dt_rd I.hok e
    obtain ⟨w', hw, rw'⟩ := RelO.some_of (v := v) (o := (atKey xs k).map (·.2)) (by rw [l]; exact rel.val k)
    obtain ⟨p, hp, hp2⟩ := Option.map_eq_some_iff.mp hw
    refine wpAny_getItem_heap (tupleKind_room_in1 hu) (key_of I.hok eb) dd hp ?_
    rw [hp2]
    exact h w' _ (I.tok _) rw'
theorem d_write {h' : Heap} {t' : Nat} {ob : HO} (I : Inv X pins σ H s) (mu : Mut (H a)) (hs : Heap.SameBut a s.heap h') (he : ∃ q, h'.get? a = some q) (new : ObjOk X.prog X.w (upd H a ob) h' a ob) :
    Inv X pins σ (upd H a ob) { s with heap := h', toks := t' } :=
  I.write (x := a) (e := a) mu (.inl rfl) (fun b q hb z => (hs.2 b hb).trans z) he new
theorem dk_new {P : Program} {w : World} {H' : Hp} {h' : Heap} {kvs : List (Key × V)} {vs : List (Key × Value)} (z : kvs.length ≤ sizeLine) (hd : (a == sysModules) = false) (rel : KV kvs vs) (dd : h'.DictOf (mixKind P w) a vs) :
    ObjOk P w H' h' a (.dK kvs) := ⟨z, hd, vs, rel, dd⟩
theorem d_setItem {H' : Hp} {Q : Unit → Shared → Prop} (hu : A.units + 1 < cLine) (I : Inv X pins σ H s) (g : DPut H a y v H') (ry : RelV y u) (rv : RelV v r) (h : ∀ s', Inv X pins σ H' s' → Q () s') :
    wpAny (model X.prog X.w) A (setItem (.ref a) u r) Q E s := by
  rcases g with ⟨kvs, k, e, ey, l, eH⟩ | ⟨kvs, k, b, e, ey, eb, l, eH⟩
  · subst ey eH
    obtain ⟨z, hd, vs, rel, dd⟩ := dk_of I.hok e
    have hz : vs.length ≤ sizeLine := by rw [← rel.length]; exact z
    have hl : (putK kvs k v).length ≤ sizeLine := by have := length_putK kvs k v; omega
    refine wpAny_setItem_pairs (hsz := hz) (kV_is ry) dd fun h' dd' hs => h _ ?_
    have he : ∃ q, h'.get? a = some q := let ⟨q, _, _, hq, _⟩ := dd'; ⟨q, hq⟩
    exact d_write I (by rw [e]; exact True.intro) hs he (dk_new hl hd (rel.put k rv) dd')
  · subst ey eH
    cases (show u = Value.ref b from ry)
    obtain ⟨z, hd, xs, rel, dd⟩ := dt_of I.hok e
    have hz : xs.length ≤ sizeLine := by rw [← Paired.length rel]; exact z
    have hl : (putK kvs k v).length ≤ sizeLine := by have := length_putK kvs k v; omega
    refine wpAny_setItem_heap (hsz := hz) (tupleKind_room_in1 hu) (key_of I.hok eb) dd fun h' dd' hs => h _ ?_
    obtain ⟨q, es, ep, hq, h2, h3, h4, _, h5⟩ := dd'
    refine d_write I (by rw [e]; exact True.intro) hs ⟨q, hq⟩ ⟨hl, hd, _, (rel.put k eb rv).keeps fun c ys ec => ?_, q, es, ep, hq, h2, h3, h4, h5⟩
    rw [upd_ne (ne_of ec e (fun z => nomatch z))]
    exact ec
end
section
variable {X : Cx} {pins : List (Addr × Obj)} {σ : St} {H : Hp} {s : Shared} {a : Addr} {kvs : List (Key × V)} {k : Key} {u : Value} {A : Around} {E : Value → Shared → Prop}
end
def NoSl (i : Expr) : Prop := ∀ ov iv, subscripted i false ov iv = operate [ov, iv] (getItem ov iv)
theorem subD_of {prog : Program} {w : World} {A : Around} {E : Value → Shared → Prop} {s : Shared} {env : Env} {value slice : Expr} {pos : Pos} {T id : String} {Q : Value → Shared → Prop}
    (hl : typeLookup (.type T) "__getitem__" = pure (some (.builtin id))) (hs : NoSl slice)
    (h : wpAny (model prog w) A (eval value env) (fun o s₁ => wpAny (model prog w) A (eval slice env) (fun i s₂ => s₂.TypeIs o T ∧ wpAny (model prog w) A (getItem o i) Q E s₂) E s₁) E s) :
    wpAny (model prog w) A (eval (.Subscript value slice pos) env) Q E s := by
  refine Subscript_ (wpAny_mono h (fun o s₁ h₁ => wpAny_mono h₁ (fun i s₂ h₂ => ?_) fun _ _ x => x) fun _ _ x => x)
  obtain ⟨hT, h₂⟩ := h₂
  unfold subscriptTail
  refine wpAny_bind ?_
  rw [getitemInPython_of_ne hT.not_modules]
  refine wpAny_bind (wpAny_specialOf hT hl ?_)
  have fin : wpAny (model prog w) A (subscripted slice false o i) (fun r s₃ => wpAny (model prog w) A (letTemporaryGo value o r >>= fun _ => pure r) Q E s₃) E s₂ := by
    rw [hs o i]
    exact wpAny_operating (wpAny_mono h₂ (fun r s₃ h₃ => wpAny_bind (wpAny_letTemporaryGo (wpAny_pure h₃))) fun _ _ x => x)
  first
    | exact wpAny_pure (wpAny_bind fin)
    | exact wpAny_bind (wpAny_pure (wpAny_bind fin))
    | exact wpAny_bind fin
theorem dict_typeIs {X : Cx} {pins : List (Addr × Obj)} {σ : St} {H : Hp} {s : Shared} {a : Addr} {y : V} {o : Option V} (I : Inv X pins σ H s) (g : DGet H a y o) : s.TypeIs (.ref a) "dict" := by
  rcases g with ⟨kvs, k, e, _, _⟩ | ⟨kvs, k, b, e, _, _, _⟩
  · obtain ⟨_, _, vs, _, dd⟩ := dk_rd I.hok e
    exact dd.typeIs
  · obtain ⟨_, _, xs, _, dd⟩ := dt_rd I.hok e
    exact dd.typeIs
def tDGet (td ty : TE) : TE := fun σ H Q => td σ H fun x H1 => ty σ H1 fun y H2 => ∃ a v, x = .ref a ∧ DGet H2 a y (some v) ∧ Q v H2
def sDPut (td ty tv : TE) : TS := fun D σ H => tv σ H fun v H1 => td σ H1 fun x H2 => ty σ H2 fun y H3 => ∃ a H4, x = .ref a ∧ DPut H3 a y v H4 ∧ D.nx σ H4
section
variable {X : Cx} {o i e value : Expr} {pos pos' tpos : Pos} {td ty tv : TE}
theorem pe_dget (hu : X.A.units + 1 < cLine) (ho : PE X o td) (hi : PE X i ty) (hs : NoSl i) : PE X (.Subscript o i pos) (tDGet td ty) := by
  intro pins s σ H Q I h
  refine subD_of PySem.F.slot_dict_getitem.lookup hs (thn (ho pins s σ H _ I h) fun u s1 ⟨x, H1, I1, rx, q1⟩ => thn (hi pins s1 σ H1 _ I1 q1) fun iv s2 ⟨y, H2, I2, ry, a, v, ex, g, q2⟩ => ?_)
  subst ex
  obtain rfl : u = Value.ref a := rx
  exact ⟨dict_typeIs I2 g, d_getItem hu I2 g ry fun w' s3 I3 rw' => ⟨v, H2, I3, rw', q2⟩⟩
theorem ps_dput (hu : X.A.units + 1 < cLine) (ho : PE X o td) (hi : PE X i ty) (hv : PE X value tv) (hs : swapsWith value (some (.Subscript o i pos')) pos.line X.env = pure false) :
    PS X (.Assign [.Subscript o i pos'] value pos) (sDPut td ty tv) := by
  intro pins s σ H D I h
  refine wpAny_Assign_Subscript (thn (hv pins s σ H _ I h) fun r s1 ⟨v, H1, I1, rv, q1⟩ => thn (ho pins s1 σ H1 _ I1 q1) fun u s2 ⟨x, H2, I2, rx, q2⟩ => thn (hi pins s2 σ H2 _ I2 q2) fun iv s3 ⟨y, H3, I3, ry, a, H4, ex, g, q3⟩ => ?_) hs
  subst ex
  obtain rfl : u = Value.ref a := rx
  exact d_setItem hu I3 g ry rv fun s4 I4 => ⟨σ, H4, I4, q3⟩
end
theorem dk_empty {P : Program} {w : World} {H : Hp} (h : Heap) (hb : sysModules < h.objs.size) : ObjOk P w H (h.push { cls := .type "dict", data := .dict #[] }) h.objs.size (.dK []) :=
  ⟨Nat.zero_le _, beq_eq_false_iff_ne.mpr (Ne.symm (Nat.ne_of_lt hb)), [], .nil, Heap.DictOf.new h⟩
def tDNewK : TE := fun _ H Q => ∀ p, H p = none → Q (.ref p) (upd H p (.dK []))
section
variable {X : Cx} {pos : Pos}
theorem pe_dnewK : PE X (.Dict [] [] pos) tDNewK := fun pins s σ H Q I h =>
  wpAny_Dict_empty ⟨.ref s.heap.objs.size, _, I.laid (a := s.heap.objs.size) (o := .dK []) (t' := s.toks) (fun _ _ q => Heap.get?_push_of_some _ q) (Nat.le_refl _) (dk_empty s.heap I.big), rfl, h _ (I.hok.fresh (Nat.le_refl _))⟩
end
def tPairs : List (TE × TE) → St → Hp → (List (V × V) → Hp → Prop) → Prop
  | [], _, H, Q => Q [] H
  | (tk, tv) :: r, σ, H, Q => tk σ H fun x H1 => tv σ H1 fun y H2 => tPairs r σ H2 fun ps H3 => Q ((x, y) :: ps) H3
abbrev VV : List (V × V) → List (Value × Value) → Prop := Paired fun p q => RelV p.1 q.1 ∧ RelV p.2 q.2
def PPs (X : Cx) (pos : Pos) (keys : List (Option Expr)) (values : List Expr) (trs : List (TE × TE)) : Prop :=
  ∀ (pins : List (Addr × Obj)) (s : Shared) (σ : St) (H : Hp) (Q : List (V × V) → Hp → Prop), Inv X pins σ H s → tPairs trs σ H Q →
    wpAny (model X.prog X.w) X.A (evalPairs (pairTrees keys values X.env pos)) (fun vs s' => ∃ ps H', Inv X pins σ H' s' ∧ VV ps vs ∧ Q ps H') X.xe s
theorem pps_nil {X : Cx} {pos : Pos} : PPs X pos [] [] [] := fun pins s σ H Q I h => pairTrees_nil_walk ⟨[], H, I, .nil, h⟩
theorem pps_cons {X : Cx} {pos : Pos} {k v : Expr} {ks : List (Option Expr)} {vs : List Expr} {tk tv : TE} {trs : List (TE × TE)} (hk : PE X k tk) (hv : PE X v tv) (hr : PPs X pos ks vs trs) :
    PPs X pos (some k :: ks) (v :: vs) ((tk, tv) :: trs) := fun pins s σ H Q I h =>
  pairTrees_cons_walk (thn (hk pins s σ H _ I h) fun u s1 ⟨x, H1, I1, rx, q1⟩ => thn (hv pins s1 σ H1 _ I1 q1) fun w2 s2 ⟨y, H2, I2, ry, q2⟩ =>
    thn (hr pins s2 σ H2 _ I2 q2) fun ws s3 ⟨ps, H3, I3, rel, q3⟩ => ⟨(x, y) :: ps, H3, I3, .cons ⟨rx, ry⟩ rel, q3⟩)
def mergeK (kvs more : List (Key × V)) : List (Key × V) := more.foldl (fun acc kv => putK acc kv.1 kv.2) kvs
theorem KV.merge : ∀ {more : List (Key × V)} {rs : List (Key × Value)} {kvs : List (Key × V)} {vs : List (Key × Value)}, KV more rs → KV kvs vs → KV (mergeK kvs more) (merged vs rs) := by
  intro more rs kvs vs r
  unfold KV at r
  induction r generalizing kvs vs with
  | nil => intro q; exact q
  | @cons p q ps qs h t ih =>
    intro r0
    have e : KV (putK kvs p.1 p.2) (stored vs q.1 q.2) := by
      have := r0.put p.1 h.2
      rw [← h.1]; exact this
    exact ih e
theorem length_mergeK : ∀ (more kvs : List (Key × V)), (mergeK kvs more).length ≤ kvs.length + more.length
  | [], kvs => by show kvs.length ≤ kvs.length + 0; omega
  | p :: r, kvs => by
    have h1 := length_mergeK r (putK kvs p.1 p.2)
    have h2 := length_putK kvs p.1 p.2
    show (mergeK (putK kvs p.1 p.2) r).length ≤ _
    rw [List.length_cons]; omega
theorem carries_of {P : Program} {w : World} : ∀ {kvs : List (Key × V)} {ws : List (Value × Value)}, VV (kvs.map fun kv => (kV kv.1, kv.2)) ws → ∃ rs, Carries (mixKind P w) ws rs ∧ KV kvs rs
  | [], _, r => by rw [List.map_nil] at r; cases r; exact ⟨[], True.intro, .nil⟩
  | p :: kvs, _, r => by
    rw [List.map_cons] at r
    cases r with
    | @cons a b as bs h t =>
      obtain ⟨rs, c, q⟩ := carries_of (P := P) (w := w) t
      obtain ⟨b1, b2⟩ := b
      exact ⟨(p.1, b2) :: rs, ⟨kV_is h.1, rfl, c⟩, .cons ⟨rfl, h.2⟩ q⟩
def tDisp (trs : List (TE × TE)) : TE := fun σ H Q => ∀ p, H p = none → tPairs trs σ (upd H p (.dK [])) fun ps H2 => H2 p = some (.dK []) ∧ ∃ kvs : List (Key × V), ps = kvs.map (fun kv => (kV kv.1, kv.2)) ∧ kvs.length ≤ 15 ∧ Q (.ref p) (upd H2 p (.dK (mergeK [] kvs)))
theorem pe_disp {X : Cx} {pos : Pos} {keys : List (Option Expr)} {values : List Expr} {trs : List (TE × TE)} (h : PPs X pos keys values trs) (hall : keys.all (·.isSome) = true) (hl : keys.length = values.length) (h0 : keys ≠ [])
    (h15 : keys.length ≤ 15) : PE X (.Dict keys values pos) (tDisp trs) := by
  intro pins s σ H Q I q
  have hn := I.hok.fresh (Nat.le_refl s.heap.objs.size)
  have I1 := I.laid (a := s.heap.objs.size) (o := .dK []) (h' := s.heap.push { cls := .type "dict", data := .dict #[] }) (t' := s.toks) (fun _ _ q => Heap.get?_push_of_some _ q) (Nat.le_refl _) (dk_empty s.heap I.big)
  refine wpAny_Dict_walk (knd := mixKind X.prog X.w) hall hl h0 h15 (thn (h pins _ σ _ _ I1 (q _ hn)) fun ws s2 ⟨ps, H2, I2, rel, e, kvs, ep, lk, q2⟩ => ?_)
  subst ep
  obtain ⟨rs, c, rk⟩ := carries_of (P := X.prog) (w := X.w) rel
  obtain ⟨z, hd, vs0, r0, dd⟩ := dk_of I2.hok e
  cases r0
  refine ⟨rs, c, dd, fun h' dd' hs => ⟨.ref s.heap.objs.size, _, ?_, rfl, q2⟩⟩
  have hz : (mergeK [] kvs).length ≤ sizeLine := by
    have h1 := length_mergeK kvs []
    rw [List.length_nil] at h1
    rw [sizeLine_eq]; omega
  have he : ∃ q, h'.get? s.heap.objs.size = some q := let ⟨q, _, _, hq, _⟩ := dd'; ⟨q, hq⟩
  exact d_write I2 (by rw [e]; exact True.intro) hs he (dk_new hz hd (rk.merge .nil) dd')
structure M2 (X : Cx) (o : Expr) (m : Str) (apos : Pos) (e f : Expr) (cpos : Pos) : Prop where
  base : attributeBase o m X.env (eval o X.env) = eval o X.env
  few : ((backTo cpos (starEach [e, f] X.env)).all (fun x => !x.1) && (backToKw cpos (keywordEach [] X.env)).all (fun x => x.1.isSome)
    && decide (([e, f] : List Expr).length + ([] : List Keyword).length + (if ([] : List Keyword).isEmpty then 0 else 1) < 30)) = true
  line : (apos.endLine == cpos.line) = true
  trees : backTo cpos (starEach [e, f] X.env) = [(false, eval e X.env), (false, eval f X.env)]
def IsD (H : Hp) (a : Addr) : Prop := (∃ kvs, Rd H a (.dK kvs)) ∨ ∃ kvs, Rd H a (.dT kvs)
theorem isD_at {X : Cx} {pins : List (Addr × Obj)} {σ : St} {H : Hp} {s : Shared} {a : Addr} (I : Inv X pins σ H s) (d : IsD H a) :
    s.TypeIs (.ref a) "dict" ∧ (∀ b, Value.ref a = .ref b → ∃ ob, s.heap.get? b = some ob ∧ ob.dict = none) ∧ (a == sysModules) = false := by
  rcases d with ⟨kvs, e⟩ | ⟨kvs, e⟩
  · obtain ⟨_, hd, vs, _, dd⟩ := dk_rd I.hok e
    refine ⟨dd.typeIs, fun b q => ?_, hd⟩
    cases q
    obtain ⟨ob, _, _, h1, h2, _⟩ := dd
    exact ⟨ob, h1, h2.2.1⟩
  · obtain ⟨_, hd, xs, _, dd⟩ := dt_rd I.hok e
    refine ⟨dd.typeIs, fun b q => ?_, hd⟩
    cases q
    obtain ⟨ob, _, _, h1, h2, _⟩ := dd
    exact ⟨ob, h1, h2.2.1⟩
section
variable {X : Cx} {pins : List (Addr × Obj)} {σ : St} {H : Hp} {s : Shared} {a : Addr} {y d : V} {u r : Value} {o : Option V} {A : Around} {E : Value → Shared → Prop}
theorem d_get2 {Q : Value → Shared → Prop} (hu : A.units + 1 < cLine) (I : Inv X pins σ H s) (g : DGet H a y o) (ry : RelV y u) (rd : RelV d r) (h : ∀ w' s', Inv X pins σ H s' → RelV (o.getD d) w' → Q w' s') :
    wpAny (model X.prog X.w) A (call (.builtin "dict.get") [.ref a, u, r]) Q E s := by
  rcases g with ⟨kvs, k, e, ey, l⟩ | ⟨kvs, k, b, e, ey, eb, l⟩
  · subst ey
    obtain ⟨z, hd, vs, rel, dd⟩ := dk_rd I.hok e
    refine call_meetsIn PySem.F.slot_dict_get dd.typeIs PySem.F.entry_dict_get (PySem.F.args_dict_get_3 _ _ _) (meets_dict_get_default (mixKind X.prog X.w) a (kV_is ry) hd r) ⟨_, dd.mapOf, h _ _ (I.tok _) ?_⟩
    rw [l]
    exact (rel.val k).getD rd
  · subst ey
    cases (show u = Value.ref b from ry)
    obtain ⟨z, hd, xs, rel, dd⟩ := dt_rd I.hok e
    refine call_meetsIn PySem.F.slot_dict_get dd.typeIs PySem.F.entry_dict_get (PySem.F.args_dict_get_3 _ _ _) (meetsH_dict_get_default (tupleKind (mixKind X.prog X.w)) a b hd r) ⟨tupleKind_room_in1 hu, k, xs, key_of I.hok eb, dd, h _ _ (I.tok _) ?_⟩
    rw [l]
    exact (rel.val k).getD rd
end
def tDGet2 (td ty tx : TE) : TE := fun σ H Q => td σ H fun x H1 => ∃ a, x = .ref a ∧ IsD H1 a ∧ ty σ H1 fun y H2 => tx σ H2 fun z H3 => ∃ o, DGet H3 a y o ∧ Q (o.getD z) H3
section
variable {X : Cx} {o e f : Expr} {apos cpos : Pos} {td ty tx : TE}
theorem pe_dget2 (hu : X.A.units + 1 < cLine) (ho : PE X o td) (he : PE X e ty) (hf : PE X f tx) (m : M2 X o "get" apos e f cpos) : PE X (.Call (.Attribute o "get" apos) [e, f] [] cpos) (tDGet2 td ty tx) := by
  intro pins s σ H Q I h
  refine wpAny_Call_method m.base m.few m.line PySem.F.plainAttrs_dict PySem.F.slot_dict_get PySem.F.type_dict_get (thn (ho pins s σ H _ I h) fun u s1 ⟨x, H1, I1, rx, a, ex, d, q1⟩ => ?_)
  subst ex
  obtain rfl : u = Value.ref a := rx
  obtain ⟨t1, t2, _⟩ := isD_at I1 d
  refine ⟨t1, t2, ?_⟩
  rw [m.trees]
  refine Calls.callWith_builtin rfl (Calls.evalArgs_plain (Calls.spliced_cons (thn (he pins s1 σ H1 _ I1 q1) fun iv s2 ⟨y, H2, I2, ry, q2⟩ =>
    Calls.spliced_cons (thn (hf pins s2 σ H2 _ I2 q2) fun fv s3 ⟨z, H3, I3, rz, ov, g, q3⟩ => Calls.spliced_nil ?_))))
  exact d_get2 hu I3 g ry rz fun w' s4 I4 rw' => ⟨_, H3, I4, rw', q3⟩
end
section
variable {X : Cx} {pins : List (Addr × Obj)} {σ : St} {H : Hp} {s : Shared} {a : Addr} {kvs : List (Key × V)} {A : Around} {E : Value → Shared → Prop}
end
section
variable {X : Cx} {pins : List (Addr × Obj)} {σ : St} {H : Hp} {s : Shared} {a : Addr} {y : V} {u : Value} {A : Around} {E : Value → Shared → Prop}
end
end L2
namespace L2
open PySem PySem.Spec PyProof.Rows
section
variable {X : Cx}
end
section
variable {κ : Type} [DecidableEq κ]
end
end L2
namespace Hw
open PySem PySem.Spec
def lt (a b : Str) : Bool := ltCps a.cps.toList b.cps.toList
theorem c_irr : ∀ a : List Nat, ltCps a a = false
  | [] => rfl
  | x :: r => by simp [ltCps, c_irr r]
theorem c_trans : ∀ a b c : List Nat, ltCps a b = true → ltCps b c = true → ltCps a c = true
  | [], [], _, h, _ => by simp [ltCps] at h
  | [], _ :: _, [], _, h => by simp [ltCps] at h
  | [], _ :: _, _ :: _, _, _ => rfl
  | _ :: _, [], _, h, _ => by simp [ltCps] at h
  | _ :: _, _ :: _, [], _, h => by simp [ltCps] at h
  | x :: a, y :: b, z :: c, h, g => by
    simp only [ltCps, Bool.or_eq_true, Bool.and_eq_true, decide_eq_true_eq, beq_iff_eq] at h g ⊢
    rcases h with h | ⟨h, h'⟩ <;> rcases g with g | ⟨g, g'⟩
    · left; omega
    · left; omega
    · left; omega
    · right; exact ⟨by omega, c_trans a b c h' g'⟩
theorem c_tri : ∀ a b : List Nat, ltCps a b = true ∨ a = b ∨ ltCps b a = true
  | [], [] => .inr (.inl rfl)
  | [], _ :: _ => .inl rfl
  | _ :: _, [] => .inr (.inr rfl)
  | x :: a, y :: b => by
    simp only [ltCps, Bool.or_eq_true, Bool.and_eq_true, decide_eq_true_eq, beq_iff_eq, List.cons.injEq]
    rcases Nat.lt_trichotomy x y with h | h | h
    · exact .inl (.inl h)
    · rcases c_tri a b with g | g | g
      · exact .inl (.inr ⟨h, g⟩)
      · exact .inr (.inl ⟨h, g⟩)
      · exact .inr (.inr (.inr ⟨h.symm, g⟩))
    · exact .inr (.inr (.inl h))
theorem lt_irr (a : Str) : lt a a = false := c_irr _
theorem lt_trans {a b c : Str} : lt a b = true → lt b c = true → lt a c = true := c_trans _ _ _
theorem lt_tri (a b : Str) : lt a b = true ∨ a = b ∨ lt b a = true := by
  rcases c_tri a.cps.toList b.cps.toList with h | h | h
  · exact .inl h
  · refine .inr (.inl ?_)
    obtain ⟨⟨x⟩⟩ := a; obtain ⟨⟨y⟩⟩ := b
    have h : x = y := h
    rw [h]
  · exact .inr (.inr h)
theorem lt_ne {a b : Str} (h : lt a b = true) : a ≠ b := fun e => by rw [e, lt_irr] at h; cases h
theorem not_lt_trans {a b c : Str} (h : lt b a = false) (g : lt c b = false) : lt c a = false := by
  rcases lt_tri c a with e | e | e
  · rcases lt_tri b a with k | k | k
    · rw [h] at k; cases k
    · rw [k] at g; rw [g] at e; cases e
    · rw [lt_trans e k] at g; cases g
  · rw [e]; exact lt_irr a
  · cases q : lt c a with
    | false => rfl
    | true => have := lt_trans e q; rw [lt_irr] at this; cases this
abbrev Ps := List (Str × Int)
def lin : Ps → (Str → Int) → Int
  | [], _ => 0
  | p :: r, f => p.2 * f p.1 + lin r f
theorem lin_append : ∀ (a b : Ps) (f : Str → Int), lin (a ++ b) f = lin a f + lin b f
  | [], b, f => by simp [lin]
  | p :: a, b, f => by simp only [List.cons_append, lin, lin_append a b f]; omega
theorem lin_perm {a b : Ps} (h : a.Perm b) (f : Str → Int) : lin a f = lin b f := by
  induction h with
  | nil => rfl
  | cons x _ ih => simp only [lin, ih]
  | swap x y l => simp only [lin]; omega
  | trans _ _ i j => exact i.trans j
theorem lin_filter : ∀ (a : Ps) (f : Str → Int), lin (a.filter fun p => decide (p.2 ≠ 0)) f = lin a f
  | [], f => rfl
  | p :: a, f => by
    by_cases h : p.2 = 0
    · rw [List.filter_cons_of_neg (by simp [h]), lin_filter a f, lin, h]; simp
    · rw [List.filter_cons_of_pos (by simp [h]), lin, lin, lin_filter a f]
structure Canon (a : Ps) : Prop where
  up : a.Pairwise fun p q => lt p.1 q.1 = true
  nz : ∀ p ∈ a, p.2 ≠ 0
def ind (t : Str) : Str → Int := fun s => if s = t then 1 else 0
theorem lin_none {t : Str} : ∀ {a : Ps}, (∀ p ∈ a, p.1 ≠ t) → lin a (ind t) = 0
  | [], _ => rfl
  | p :: a, h => by
    have h1 : p.1 ≠ t := h p (List.mem_cons_self ..)
    rw [lin, lin_none (a := a) fun q hq => h q (List.mem_cons_of_mem _ hq)]
    simp [ind, h1]
theorem Canon.head {p : Str × Int} {a : Ps} (c : Canon (p :: a)) : lin (p :: a) (ind p.1) = p.2 := by
  rw [lin, lin_none fun q hq => (lt_ne ((List.pairwise_cons.mp c.up).1 q hq)).symm]
  simp [ind]
def Gat (a b : Ps) : Prop := Canon b ∧ ∀ f, lin b f = lin a f
def get (d : Ps) (t : Str) : Int := ((d.find? fun p => decide (p.1 = t)).map (·.2)).getD 0
def put (d : Ps) (t : Str) (n : Int) : Ps := if (d.any fun p => decide (p.1 = t)) = true then d.map (fun p => if p.1 = t then (p.1, n) else p) else d ++ [(t, n)]
def keys (d : Ps) : List Str := d.map (·.1)
theorem get_cons (p : Str × Int) (r : Ps) (t : Str) : get (p :: r) t = if p.1 = t then p.2 else get r t := by
  unfold get
  by_cases e : p.1 = t
  · simp [List.find?_cons, e]
  · simp [List.find?_cons, e]
theorem any_iff (d : Ps) (t : Str) : (d.any fun p => decide (p.1 = t)) = true ↔ t ∈ keys d := by
  unfold keys
  rw [List.any_eq_true, List.mem_map]
  constructor
  · rintro ⟨p, h, e⟩; exact ⟨p, h, of_decide_eq_true e⟩
  · rintro ⟨p, h, e⟩; exact ⟨p, h, decide_eq_true e⟩
theorem get_no : ∀ {d : Ps} {t : Str}, t ∉ keys d → get d t = 0
  | [], _, _ => rfl
  | p :: r, t, h => by
    have h' : p.1 ≠ t ∧ t ∉ keys r := by
      constructor
      · intro e; exact h (by unfold keys; rw [List.map_cons, e]; exact List.mem_cons_self ..)
      · intro e; exact h (List.mem_cons_of_mem _ e)
    rw [get_cons, if_neg h'.1, get_no h'.2]
theorem keys_put (d : Ps) (t : Str) (n : Int) : keys (put d t n) = if t ∈ keys d then keys d else keys d ++ [t] := by
  unfold put
  by_cases h : t ∈ keys d
  · rw [if_pos ((any_iff d t).mpr h), if_pos h]
    unfold keys
    rw [List.map_map]
    refine List.map_congr_left fun p _ => ?_
    show (if p.1 = t then (p.1, n) else p).1 = p.1
    split <;> rfl
  · rw [if_neg (fun e => h ((any_iff d t).mp e)), if_neg h]
    unfold keys
    rw [List.map_append]; rfl
theorem nodup_put {d : Ps} {t : Str} {n : Int} (h : (keys d).Nodup) : (keys (put d t n)).Nodup := by
  rw [keys_put]
  by_cases e : t ∈ keys d
  · rw [if_pos e]; exact h
  · rw [if_neg e, List.nodup_append]
    refine ⟨h, by simp, fun x hx y hy => ?_⟩
    rw [List.mem_singleton] at hy
    rw [hy]; rintro rfl; exact e hx
theorem len_put (d : Ps) (t : Str) (n : Int) : (put d t n).length ≤ d.length + 1 := by
  have h : (keys (put d t n)).length ≤ (keys d).length + 1 := by
    rw [keys_put]; split
    · omega
    · simp
  simpa [keys] using h
theorem lin_repl (t : Str) (n : Int) (f : Str → Int) : ∀ {d : Ps}, (keys d).Nodup → t ∈ keys d → lin (d.map fun p => if p.1 = t then (p.1, n) else p) f = lin d f + (n - get d t) * f t
  | [], _, h => by simp [keys] at h
  | p :: r, nd, h => by
    have nd' : p.1 ∉ keys r ∧ (keys r).Nodup := List.nodup_cons.mp nd
    rw [List.map_cons, lin, lin, get_cons]
    by_cases e : p.1 = t
    · have hr : r.map (fun p => if p.1 = t then (p.1, n) else p) = r := by
        refine (List.map_congr_left fun q hq => ?_).trans (List.map_id r)
        rw [if_neg]; rfl
        intro z
        exact nd'.1 (by rw [e, ← z]; exact List.mem_map.mpr ⟨q, hq, rfl⟩)
      rw [hr, if_pos e, if_pos e, Int.sub_mul]
      show n * f p.1 + _ = _
      rw [e]; omega
    · have ht : t ∈ keys r := (List.mem_cons.mp h).resolve_left fun z => e z.symm
      rw [if_neg e, if_neg e, lin_repl t n f nd'.2 ht]; omega
theorem lin_put {d : Ps} (t : Str) (n : Int) (f : Str → Int) (nd : (keys d).Nodup) : lin (put d t n) f = lin d f + (n - get d t) * f t := by
  unfold put
  by_cases h : t ∈ keys d
  · rw [if_pos ((any_iff d t).mpr h), lin_repl t n f nd h]
  · rw [if_neg (fun e => h ((any_iff d t).mp e)), lin_append, get_no h]; simp [lin]
def step (d : Ps) (p : Str × Int) : Ps := put d p.1 (get d p.1 + p.2)
structure Tab (pre d : Ps) : Prop where
  nd : (keys d).Nodup
  len : d.length ≤ pre.length
  lin : ∀ f, lin d f = lin pre f
theorem Tab.nil : Tab [] [] := ⟨.nil, Nat.le_refl _, fun _ => rfl⟩
theorem Tab.step {pre d : Ps} (h : Tab pre d) (p : Str × Int) : Tab (pre ++ [p]) (step d p) := by
  refine ⟨nodup_put h.nd, ?_, fun f => ?_⟩
  · have := len_put d p.1 (get d p.1 + p.2); have := h.len; simp; unfold Hw.step; omega
  · unfold Hw.step
    rw [lin_put _ _ _ h.nd, lin_append, h.lin]
    simp only [Hw.lin]
    have : get d p.1 + p.2 - get d p.1 = p.2 := by omega
    rw [this]; omega
theorem lin_keys : ∀ {d : Ps} (f : Str → Int), (keys d).Nodup → lin ((keys d).map fun t => (t, get d t)) f = lin d f
  | [], _, _ => rfl
  | p :: r, f, nd => by
    have nd' : p.1 ∉ keys r ∧ (keys r).Nodup := List.nodup_cons.mp nd
    show lin ((p.1, get (p :: r) p.1) :: (keys r).map fun t => (t, get (p :: r) t)) f = _
    have e : ((keys r).map fun t => (t, get (p :: r) t)) = (keys r).map fun t => (t, get r t) := by
      refine List.map_congr_left fun t ht => ?_
      rw [get_cons, if_neg (fun z => nd'.1 (by rw [z]; exact ht))]
    rw [e, lin, lin_keys f nd'.2, get_cons, if_pos rfl, lin]
def outs (d : Ps) (ys : List Str) : Ps := (ys.map fun t => (t, get d t)).filter fun p => decide (p.2 ≠ 0)
theorem Tab.gat {pre d : Ps} {ys : List Str} (h : Tab pre d) (hp : ys.Perm (keys d)) (hs : ys.Pairwise fun a b => lt b a = false) : Gat pre (outs d ys) := by
  have nd : ys.Nodup := hp.nodup_iff.mpr h.nd
  have up : ys.Pairwise fun a b => lt a b = true := by
    have := hs.and nd
    refine this.imp fun {a b} q => ?_
    rcases lt_tri a b with e | e | e
    · exact e
    · exact absurd e q.2
    · rw [q.1] at e; cases e
  refine ⟨⟨?_, fun p hp => ?_⟩, fun f => ?_⟩
  · unfold outs
    refine List.Pairwise.filter _ ?_
    rw [List.pairwise_map]; exact up
  · exact of_decide_eq_true (List.mem_filter.mp hp).2
  · unfold outs
    rw [lin_filter, lin_perm (hp.map _), lin_keys f h.nd, h.lin]
end Hw
set_option maxHeartbeats 4000000
namespace L2
open PySem PySem.Spec PyProof.Rows
abbrev nowish : Value → Shared → Prop := fun _ _ => False
abbrev cxB (X : Cx) (sc : Scope) (N : List Str) (cl : List (Str × Addr)) (C : Addr) (s : Shared) (H : Hp) (fp : List Addr) : Cx :=
  { X with N := N, s₀ := s, H₀ := H, env := compEnvC sc cl C X.env, outer := X.stack, ex := fp, fn := fun _ => false, pn := [], xe := nowish }
def Ext (σ σ' : St) : Prop := σ'.length = σ.length ∧ ∀ (i : Nat) v, σ[i]? = some (some v) → σ'[i]? = some (some v)
theorem Ext.one {x : V} {r : St} : Ext (none :: r) (some x :: r) := ⟨rfl, fun i v h => by cases i with | zero => cases h | succ i => exact h⟩
theorem Ext.two {x y : V} {r : St} : Ext (none :: none :: r) (some x :: some y :: r) := ⟨rfl, fun i v h => by
  cases i with
  | zero => cases h
  | succ i => cases i with | zero => cases h | succ i => exact h⟩
def testsOf (cs : List Expr) (env : Env) : Sem Bool := forIn cs true fun c r => if r = true then do let ok ← isTrue c env (eval c env); pure (ForInStep.yield ok) else pure (ForInStep.yield r)
def PTs (X : Cx) (cs : List Expr) (t : TT) : Prop :=
  ∀ (pins : List (Addr × Obj)) (s : Shared) (σ : St) (H : Hp) (Q : Bool → Hp → Prop), Inv X pins σ H s → t σ H Q → wpAny (model X.prog X.w) X.A (testsOf cs X.env) (TP X pins σ Q) X.xe s
def tAlways : TT := fun _ H Q => Q true H
theorem pts_nil {X : Cx} : PTs X [] tAlways := fun pins s σ H Q I h => wpAny_tests_nil ⟨H, I, h⟩
theorem pts_one {X : Cx} {c : Expr} {t : TT} (hc : PT X c t) : PTs X [c] t := fun pins s σ H Q I h => wpAny_tests_one (hc pins s σ H Q I h)
section
variable {prog : Program} {w : World} {A : Around} {R : Result → Shared → Prop} {s : Shared}
theorem comp_loop {elt target iter : Expr} {cs : List Expr} {scope : Scope} {pos : Pos} {it acc : Value} {env : Env} (J : Nat → Shared → Prop)
    (turn : ∀ n s, J n s → wpAny (model prog w) A (pyNext it) (fun r s1 => match r with
      | none => R (.ok .next) s1
      | some v => wpAny (model prog w) A (letOwnedTupleGo target it v) (fun _ s2 => wpAny (model prog w) A (assign target env v) (fun _ s3 =>
          wpAny (model prog w) A (testsOf cs env) (fun ok s4 => if ok = true then wpAny (model prog w) A (eval elt env) (fun x s5 =>
              wpAny (model prog w) A (call (.builtin "list.append") [acc, x]) (fun _ s6 => ∃ m, m < n ∧ J m s6) nowish s5) nowish s4
            else ∃ m, m < n ∧ J m s4) nowish s3) nowish s2) nowish s1) nowish s) (n : Nat) (h : J n s) :
    codeAny (model prog w) A (.compLoop (.ListComp elt [⟨target, iter, cs, 0⟩] scope pos) 0 it acc env) R s := by
  refine codeAny_loop rfl J (fun k s' hk => ?_) n h
  show wpAny (model prog w) A ((compTurn (.ListComp elt [⟨target, iter, cs, 0⟩] scope pos) 0 it acc env).onRaise (fun x => do noteFrame x env; theTreesLotGoes x)) _ _ s'
  refine wpAny_noted ?_
  have no : ∀ (e : Value) (s2 : Shared), nowish e s2 → notedBy (model prog w) A env (fun e s' => R (.error e) s') e s2 := fun _ _ f => f.elim
  rw [compTurn_list]
  refine wpAny_bind (wpAny_standAt (wpAny_bind (wpAny_mono (turn k s' hk) (fun r s1 g1 => ?_) no)))
  cases r with
  | none => exact wpAny_pure g1
  | some v =>
    refine wpAny_bind (wpAny_mono g1 (fun _ s2 g2 => ?_) no)
    refine wpAny_bind (wpAny_mono g2 (fun _ s3 g3 => ?_) no)
    refine wpAny_bind (wpAny_mono g3 (fun ok s4 g4 => ?_) no)
    cases ok with
    | false => exact wpAny_pure ⟨rfl, g4⟩
    | true => exact wpAny_bind (wpAny_bind (wpAny_mono g4 (fun x s5 g5 => wpAny_bind (wpAny_mono g5 (fun _ s6 g6 => wpAny_pure (wpAny_pure ⟨rfl, g6⟩)) no)) no))
end
def cWalk (J : It) (g : TG) (tt : TT) (te : TE) (σ0 : St) (W : Nat → Nat → List V → Hp → Prop) (R : List V → Hp → Prop) : Prop :=
  ∀ i m ys H, W i m ys H → (J.stop i H ∧ R ys H) ∨ (J.go i H ∧ ∃ F : List V → Hp → Prop, (∀ ys' H', F ys' H' → ∃ m', m' < m ∧ W (i + 1) m' ys' H') ∧ ∀ x H', J.yld i H x H' → g x σ0 H' fun σ2 H2 => Ext σ0 σ2 ∧ tt σ2 H2 fun b H3 =>
    if b = true then te σ2 H3 fun v H4 => ys.length < sizeLine ∧ F (ys ++ [v]) H4 else F ys H3)
structure CompSc (X : Cx) (sc : Scope) (cl : List (Str × Addr)) (own : Nat) (N : List Str) (fr : List Nat) : Prop where
  kind : sc.kind = .function
  names : ∀ x ∈ sc.names, x.2 = .local → sc.names.lookup x.1 = some .local
  nocell : ∀ x ∈ sc.names, x.2 ≠ .cell
  clos : closureFor sc X.env = pure cl
  cells : ∀ x c, cl.lookup x = some c → X.env.cells.lookup x = some c
  has : ∀ x, ((relabel sc X.env).names.lookup x = some .cell ∨ (relabel sc X.env).names.lookup x = some .free) → ∃ c, cl.lookup x = some c
  len : N.length = own + fr.length
  fro : ∀ (i : Nat) j, fr[i]? = some j → ∃ x, N[own + i]? = some x ∧ X.N[j]? = some x ∧ (X.env.kindOf x = some .cell ∨ X.env.kindOf x = some .free) ∧ ((relabel sc X.env).names.lookup x = some .cell ∨ (relabel sc X.env).names.lookup x = some .free)
def AllC (env : Env) : List (Str × Addr) → Prop
  | [] => True
  | p :: r => env.cells.lookup p.1 = some p.2 ∧ AllC env r
theorem AllC.mem {env : Env} : ∀ {cl : List (Str × Addr)}, AllC env cl → ∀ p ∈ cl, env.cells.lookup p.1 = some p.2
  | [], _, _, h => nomatch h
  | _ :: _, h, p, hp => by
    rcases List.mem_cons.mp hp with rfl | hp
    · exact h.1
    · exact h.2.mem p hp
def isCF (k : Option NameKind) : Bool := match k with
  | some .cell => true
  | some .free => true
  | _ => false
theorem isCF_of {k : Option NameKind} (h : isCF k = true) : k = some .cell ∨ k = some .free := by
  cases k with
  | none => cases h
  | some k => cases k <;> first | exact .inl rfl | exact .inr rfl | cases h
def froOk (X : Cx) (sc : Scope) : List Str → List Nat → Bool
  | [], [] => true
  | x :: ns, j :: fr => decide (X.N[j]? = some x) && isCF (X.env.kindOf x) && isCF ((relabel sc X.env).names.lookup x) && froOk X sc ns fr
  | _, _ => false
theorem froOk_at {X : Cx} {sc : Scope} : ∀ {ns : List Str} {fr : List Nat}, froOk X sc ns fr = true → ns.length = fr.length ∧ ∀ (i : Nat) j, fr[i]? = some j → ∃ x, ns[i]? = some x ∧ X.N[j]? = some x ∧ isCF (X.env.kindOf x) = true ∧ isCF ((relabel sc X.env).names.lookup x) = true
  | [], [], _ => ⟨rfl, fun i j h => by simp at h⟩
  | [], _ :: _, h => by cases h
  | _ :: _, [], h => by cases h
  | x :: ns, j :: fr, h => by
    have h : (decide (X.N[j]? = some x) && isCF (X.env.kindOf x) && isCF ((relabel sc X.env).names.lookup x) && froOk X sc ns fr) = true := h
    rw [Bool.and_eq_true, Bool.and_eq_true, Bool.and_eq_true] at h
    obtain ⟨⟨⟨h1, h2⟩, h3⟩, h4⟩ := h
    obtain ⟨l, g⟩ := froOk_at h4
    refine ⟨by simp [l], fun i k e => ?_⟩
    cases i with
    | zero => cases e; exact ⟨x, rfl, of_decide_eq_true h1, h2, h3⟩
    | succ i => exact g i k e
theorem compSc_mk {X : Cx} {sc : Scope} {cl : List (Str × Addr)} (ownN frN : List Str) (fr : List Nat) (kind : sc.kind = .function) (names : (sc.names.all fun x => x.2 != .local || sc.names.lookup x.1 == some .local) = true)
    (nocell : (sc.names.all fun x => x.2 != .cell) = true) (clos : closureFor sc X.env = pure cl) (cells : AllC X.env cl) (has : ((relabel sc X.env).names.all fun y => !isCF (some y.2) || (cl.lookup y.1).isSome) = true)
    (len : frN.length = fr.length) (fro : froOk X sc frN fr = true) : CompSc X sc cl ownN.length (ownN ++ frN) fr where
  kind := kind
  names := fun x hx hl => by
    have := List.all_eq_true.mp names x hx
    rw [hl] at this
    simpa using this
  nocell := fun x hx => by simpa using List.all_eq_true.mp nocell x hx
  clos := clos
  cells := fun x c h => cells.mem (x, c) (PySem.mem_of_lookup h)
  has := fun x h => by
    obtain ⟨k, hk, e⟩ : ∃ k, (relabel sc X.env).names.lookup x = some k ∧ isCF (some k) = true := by
      rcases h with h | h
      · exact ⟨_, h, rfl⟩
      · exact ⟨_, h, rfl⟩
    have := List.all_eq_true.mp has (x, k) (PySem.mem_of_lookup hk)
    rw [e] at this
    exact Option.isSome_iff_exists.mp (by simpa using this)
  len := by rw [List.length_append, len]
  fro := fun i j e => by
    obtain ⟨_, g⟩ := froOk_at fro
    obtain ⟨x, e1, e2, e3, e4⟩ := g i j e
    refine ⟨x, ?_, e2, isCF_of e3, isCF_of e4⟩
    rw [List.getElem?_append_right (Nat.le_add_right _ _), Nat.add_sub_cancel_left]
    exact e1
def st0 (own : Nat) (fr : List Nat) (σ : St) : St := List.replicate own none ++ fr.map fun j => (σ[j]?).join
section
variable {X : Cx} {sc : Scope} {cl : List (Str × Addr)} {own : Nat} {N : List Str} {fr : List Nat}
theorem st0_at {σ : St} {i : Nat} {v : V} (h : (st0 own fr σ)[i]? = some (some v)) : ∃ k j, i = own + k ∧ fr[k]? = some j ∧ σ[j]? = some (some v) := by
  unfold st0 at h
  by_cases hi : i < own
  · rw [List.getElem?_append_left (by simpa using hi), List.getElem?_replicate, if_pos hi] at h
    cases h
  · rw [List.getElem?_append_right (by simpa using hi), List.length_replicate, List.getElem?_map] at h
    cases e : fr[i - own]? with
    | none => rw [e] at h; cases h
    | some j =>
      rw [e] at h
      have h : (σ[j]?).join = some v := Option.some.inj h
      refine ⟨i - own, j, by omega, e, ?_⟩
      cases q : σ[j]? with
      | none => rw [q] at h; cases h
      | some o => rw [q] at h; exact congrArg some h
theorem block_inv {pins : List (Addr × Obj)} {σ : St} {H : Hp} {s : Shared} {fp : List Addr} {h1 : Heap} {m1 : Str → Option Value} {t : Nat} {C D : Addr} {od : Obj} (S : CompSc X sc cl own N fr) (I : Inv X pins σ H s) (hfp : ∀ b ∈ fp, FpOk X pins H b)
    (hob : ∀ b ∈ fp, ∃ o, s.heap.get? b = some o) (kp : ∀ b o, s.heap.get? b = some o → h1.get? b = some o) (hC : s.heap.objs.size ≤ C) (hns : h1.Ns C m1) (hD : s.heap.objs.size ≤ D) (hDC : D ≠ C) (ho : h1.get? D = some od) (hod : ∀ v, od.data ≠ .cell v) :
    Inv (cxB X sc N cl C s H fp) [(D, od)] (st0 own fr σ) H { s with heap := h1, toks := t } := by
  have subL : ∀ b ∈ fp, b < s.heap.objs.size := fun b hb => let ⟨o, e⟩ := hob b hb; Heap.lt_size e
  refine ⟨⟨I.ok.mod, S.kind, I.ok.glob, I.ok.blt, hC, fun x y c a b => I.ok.inj x y c (S.cells x c a) (S.cells y c b), S.has, (fun x c z => nomatch z), I.ok.hd, I.ok.frames, .inl rfl, fun b hb => ?_, I.bs, Nat.le_trans I.ok.bsz I.sz, fun b o e hb => ?_, fun b hb hf => ?_, I.stack, I.stkFree⟩,
    rfl, I.bare, Un.kept kp, ⟨m1, hns, fun i x v e1 e2 e3 => ?_⟩, fun x c e => ?_, I.hok.fresh hC, fun x c e => I.freeC x c (S.cells x c e), fun p hp => ?_, I.hok.kept kp, ?_⟩
  · exact ⟨Nat.ne_of_lt (Nat.lt_of_lt_of_le (subL b hb) hC), fun x c e => (hfp b hb).2.2.2.2.1 x c (S.cells x c e)⟩
  · rcases (hfp b hb).2.2.2.1 with z | z
    · exact I.ok.noex b o e z
    · exact absurd (Nat.lt_of_lt_of_le (Heap.lt_size e) (Nat.le_trans I.ok.bsz z)) (Nat.lt_irrefl _)
  · rcases List.mem_cons.mp (I.stkSub b hf) with z | z
    · exact (hfp b hb).2.1 z
    · exact (hfp b hb).2.2.1 z
  · obtain ⟨k, j, rfl, ej, eσ⟩ := st0_at e2
    obtain ⟨y, n1, n2, k1, k2⟩ := S.fro k j ej
    have e1 : N[own + k]? = some x := e1
    rw [n1] at e1
    cases e1
    obtain ⟨m, hn, hl⟩ := I.loc
    obtain ⟨u, ru, l⟩ := hl j x v n2 eσ (by rcases k1 with z | z; exact .inr (.inl z); exact .inr (.inr z))
    refine ⟨u, ru, .inr ⟨k2, ?_⟩⟩
    obtain ⟨c, hc⟩ := S.has x k2
    refine ⟨c, hc, ?_⟩
    rcases l with ⟨q, _⟩ | ⟨_, c', e', z⟩
    · rcases k1 with k1 | k1 <;> (rw [k1] at q; cases q)
    · have := S.cells x c hc
      rw [e'] at this; cases this
      obtain ⟨o, h1', h2'⟩ := z
      exact ⟨o, kp _ _ h1', h2'⟩
  · obtain ⟨v, o, h1', h2'⟩ := I.cell x c (S.cells x c e)
    exact ⟨v, o, kp _ _ h1', h2'⟩
  · have hp : p = (D, od) := by simpa using hp
    subst hp
    refine ⟨ho, I.hok.fresh hD, hDC, fun hf => ?_, hod⟩
    have : D ∈ X.env.locals :: X.fs := I.stkSub D hf
    rcases List.mem_cons.mp this with z | z
    · exact absurd (Nat.lt_of_lt_of_le I.lt hD) (by rw [z]; exact Nat.lt_irrefl _)
    · exact I.nofs hD z
  · unfold st0
    rw [List.length_append, List.length_replicate, List.length_map]
    exact S.len.symm
theorem block_end {pins pl : List (Addr × Obj)} {σ τ : St} {H H' : Hp} {s s' : Shared} {fp : List Addr} {C D : Addr} {ys : List V} {its : List Value} {n : Nat} (I : Inv X pins σ H s) (hfp : ∀ b ∈ fp, FpOk X pins H b) (hC : s.heap.objs.size ≤ C) (hD : s.heap.objs.size ≤ D)
    (B : Inv (cxB X sc N cl C s H fp) pl τ H' s') (hn : H' D = none) (ho : s'.heap.get? D = some { cls := .type "list", data := .seq its.toArray n }) (r : Vals ys its) (hz : ys.length ≤ sizeLine) :
    Inv X pins σ (upd H' D (.lst ys)) s' := by
  have ne : ∀ b o, s.heap.get? b = some o → b ≠ D := fun b o e => Nat.ne_of_lt (Nat.lt_of_lt_of_le (Heap.lt_size e) hD)
  have nt : ∀ b u, H' b = some u → b ≠ D := fun b u e => ne_of_none e hn
  refine I.call' (ch := fp) B.os ⟨B.base.keep, B.base.slot, fun b o e q hx => ?_, B.base.there, fun b xs e => ?_, fun b o u e => ?_, fun b ps e => ?_⟩ (fun b u e => ?_) B.bare fun b hb => ?_
  · rw [upd_ne (ne b o e)]; exact B.base.free b o e q hx
  · have := B.base.tups b xs e; rw [upd_ne (nt _ _ this)]; exact this
  · have := B.base.frzs b o u e; rw [upd_ne (nt _ _ this)]; exact this
  · obtain ⟨mo, this⟩ := B.base.tbls b ps e; exact ⟨mo, by rw [upd_ne (nt _ _ this)]; exact this⟩
  · by_cases hb : b = D
    · subst hb
      rw [upd_same] at e
      cases e
      exact ⟨hz, its, n, r, ho⟩
    · rw [upd_ne hb] at e
      exact (B.hok b u e).stay (fun _ _ _ q => q) (fun c q => by rw [upd_ne (nt _ _ q)]; exact q) fun c xs q => by rw [upd_ne (nt _ _ q)]; exact q
  · obtain ⟨_, f1, _, f3, f4, f5⟩ := hfp b hb
    exact ⟨f3, f1, f4, f5⟩
end
end L2
namespace L2
open PySem PySem.Spec PyProof.Rows
section
variable {X : Cx} {sc : Scope} {cl : List (Str × Addr)} {own : Nat} {N : List Str} {fr : List Nat}
theorem Inv.pins_sub {pins pins' : List (Addr × Obj)} {σ : St} {H : Hp} {s : Shared} (I : Inv X pins σ H s) (h : ∀ p ∈ pins', p ∈ pins) : Inv X pins' σ H s := I.pins_of fun p hp => I.pin p (List.mem_append_right _ (h p hp))
theorem comp_core {elt tg iter : Expr} {cs : List Expr} {pos : Pos} {g : TG} {tt : TT} {te : TE} {pins : List (Addr × Obj)} {σ : St} {H : Hp} {s : Shared} {it : Addr} {fp : List Addr} {tn : Nat → Heap → Prop} {J : It} {RR : Value → Addr → Result → Shared → Prop}
    (S : CompSc X sc cl own N fr) (hc : X.calm = true) (I : Inv X pins σ H s) (T : Turn X.prog X.w X.K tg J fp it tn) (st : tn 0 s.heap) (hfp : ∀ b ∈ fp, FpOk X pins H b)
    (hg : ∀ C s H, PG (cxB X sc N cl C s H fp) tg g) (ht : ∀ C s H, PTs (cxB X sc N cl C s H fp) cs tt) (he : ∀ C s H, PE (cxB X sc N cl C s H fp) elt te)
    {W : Nat → Nat → List V → Hp → Prop} {R : List V → Hp → Prop} (w0 : ∃ m, W 0 m [] H) (walk : cWalk J g tt te (st0 own fr σ) W R)
    (fin : ∀ D C H' ys s' m, s'.heap.Ns C m → H' D = none → FpOk X pins (upd H' D (.lst ys)) C → Inv X pins σ (upd H' D (.lst ys)) s' → R ys H' → RR (.ref D) C (.ok .next) s') :
    wpAny (model X.prog X.w) X.A (newList []) (fun acc s3 => wpAny (model X.prog X.w) X.A (newFunctionEnv sc X.env.globals cl [] X.env.qual none .none (some X.env)) (fun cenv s4 =>
      codeAny (model X.prog X.w) X.A (.compStart (.ListComp elt [⟨tg, iter, cs, 0⟩] sc pos) 0 (.ref it) acc { cenv with scope := relabel sc X.env }) (RR acc cenv.locals) s4) X.xe s3) X.xe s := by
  refine wpAny_newObj_type (wpAny_newFunctionEnv S.nocell (by intro y hy; simp at hy) (fun h1 hns hsb => ?_) S.kind)
  dsimp only at hns hsb ⊢
  generalize hH : s.heap.push { cls := .type "list", dict := none, data := .seq ([] : List Value).toArray } = hp at hns hsb ⊢
  have sC : hp.objs.size = s.heap.objs.size + 1 := by rw [← hH, Heap.size_push]
  have hDC : s.heap.objs.size ≠ hp.objs.size := by omega
  have kp : ∀ b o, s.heap.get? b = some o → h1.get? b = some o := fun b o e => by
    have l := Heap.lt_size e
    exact hsb.extBut b o (Nat.ne_of_lt (by rw [sC]; exact Nat.lt_succ_of_lt l)) (Heap.get?_push_of_some _ (hH ▸ Heap.get?_push_of_some _ e))
  have hD1 : h1.get? s.heap.objs.size = some { cls := .type "list", data := .seq ([] : List Value).toArray } := hsb.extBut _ _ hDC (Heap.get?_push_of_some _ (hH ▸ Heap.get?_push_size _ rfl))
  have subL : ∀ b ∈ fp, b < s.heap.objs.size := fun b hb => let ⟨o, e, _⟩ := T.obj 0 _ st b hb; Heap.lt_size e
  generalize hCC : hp.objs.size = C at *
  generalize hDD : s.heap.objs.size = D at *
  have I1 : ∀ t, Inv (cxB X sc N cl C s H fp) [(D, { cls := .type "list", data := .seq ([] : List Value).toArray })] (st0 own fr σ) H { s with heap := h1, toks := t } := fun t =>
    block_inv S I hfp (fun b hb => let ⟨o, e, _⟩ := T.obj 0 _ st b hb; ⟨o, e⟩) kp (by omega) hns (by omega) hDC hD1 (by intro v z; cases z)
  have st1 : tn 0 h1 := T.keep 0 _ _ st fun b hb o e => kp b o e
  have fpo : ∀ {H' : Hp} {s' : Shared} {τ : St} {pl : List (Addr × Obj)} {od : Obj}, Inv (cxB X sc N cl C s H fp) pl τ H' s' → (∀ p ∈ pl, p.1 = D) → (∀ b ∈ fp, H' b = none) → ∀ b ∈ fp, FpOk (cxB X sc N cl C s H fp) pl H' b := fun {H' s' τ pl od} B hpl hn b hb => by
    have q := subL b hb
    refine ⟨hn b hb, (B.ok.exf b hb).1, B.ok.exfs b hb, .inl hb, (B.ok.exf b hb).2, fun p hp => ?_⟩
    have hp : p ∈ pl := by simpa using hp
    rw [hpl p hp]; exact (Nat.ne_of_lt q).symm
  have loop : ∀ t, codeAny (model X.prog X.w) X.A (.compLoop (.ListComp elt [⟨tg, iter, cs, 0⟩] sc pos) 0 (.ref it) (.ref D) (compEnvC sc cl C X.env)) (RR (.ref D) C) { s with heap := h1, toks := t } := by
    intro t
    obtain ⟨m0, w0⟩ := w0
    refine comp_loop (fun n s' => ∃ i ys its k H', Inv (cxB X sc N cl C s H fp) [(D, { cls := .type "list", data := .seq (List.toArray its) k })] (st0 own fr σ) H' s' ∧ tn i s'.heap ∧ (∀ b ∈ fp, H' b = none) ∧ Vals ys its ∧ ys.length ≤ sizeLine ∧ W i n ys H') ?_ m0
      ⟨0, [], [], _, H, I1 t, st1, fun b hb => (hfp b hb).1, .nil, Nat.zero_le _, w0⟩
    rintro n s2 ⟨i, ys, its, k, H2, B2, st2, fr2, rv, hz, w2⟩
    have pD := B2.pin (D, { cls := .type "list", data := .seq (List.toArray its) k }) (List.mem_append_right _ (List.mem_singleton.mpr rfl))
    rcases walk i n ys H2 w2 with ⟨stop, rr⟩ | ⟨go, nx, hnx, tk⟩
    · refine wpAny_mono (T.done (cxB X sc N cl C s H fp) rfl rfl rfl hc i _ s2 _ H2 nowish B2 (fpo (od := default) B2 (by simp) fr2) st2 stop) (fun r s3 ⟨hr, B3⟩ => ?_) fun _ _ z => z
      subst hr
      obtain ⟨m3, n3, _⟩ := B3.loc
      have pD3 := B3.pin (D, { cls := .type "list", data := .seq (List.toArray its) k }) (List.mem_append_right _ (List.mem_singleton.mpr rfl))
      refine fin D C H2 ys s3 m3 n3 pD3.2.1 ?_ (block_end I hfp (by omega) (by omega) B3 pD3.2.1 pD3.1 rv hz) rr
      exact I.fpOk (by omega) (by rw [upd_ne (Ne.symm hDC)]; exact B3.free)
    · refine wpAny_mono (T.item (cxB X sc N cl C s H fp) rfl rfl rfl hc i _ s2 _ H2 nowish B2 (fpo (od := default) B2 (by simp) fr2) st2 go) (fun r s3 ⟨u, hr, g3⟩ => ?_) fun _ _ z => z
      subst hr
      refine wpAny_mono g3 (fun _ s4 ⟨x, H4, B4, rx, y4, st4, fr4⟩ => ?_) fun _ _ z => z
      have B5 := B4.pinned (fpo (od := default) B4 (by simp) fr4) (T.obj _ _ st4)
      refine wpAny_mono (hg C s H _ s4 _ H4 x u _ B5 rx (tk x H4 y4)) (fun _ s5 ⟨σ5, H5, B6, ex, q5⟩ => ?_) fun _ _ z => z
      refine wpAny_mono (ht C s H _ s5 σ5 H5 _ B6 q5) (fun b s6 ⟨H6, B7, q6⟩ => ?_) fun _ _ z => z
      have back : ∀ {H' : Hp} {s' : Shared}, Inv (cxB X sc N cl C s H fp) ([(D, { cls := .type "list", data := .seq (List.toArray its) k })] ++ pinsAt fp s4.heap) σ5 H' s' → tn (i + 1) s'.heap ∧ ∀ b ∈ fp, H' b = none := fun {H' s'} B => by
        refine ⟨T.keep _ _ _ st4 fun b hb o e => (B.pin (b, o) (List.mem_append_right _ (List.mem_append_right _ (mem_pinsAt hb e)))).1, fun b hb => ?_⟩
        obtain ⟨o, e, _⟩ := T.obj _ _ st4 b hb
        exact (B.pin (b, o) (List.mem_append_right _ (List.mem_append_right _ (mem_pinsAt hb e)))).2.1
      cases b with
      | false =>
        obtain ⟨m', hm, w'⟩ := hnx _ _ q6
        obtain ⟨t7, f7⟩ := back B7
        exact ⟨m', hm, i + 1, ys, its, k, H6, (B7.unpinned).weak ex.1.symm ex.2, t7, f7, rv, hz, w'⟩
      | true =>
        refine wpAny_mono (he C s H _ s6 σ5 H6 _ B7 q6) (fun x7 s7 ⟨v7, H7, B8, r7, hz7, q7⟩ => ?_) fun _ _ z => z
        obtain ⟨m', hm, w'⟩ := hnx _ _ q7
        obtain ⟨t8, f8⟩ := back B8
        have pD8 := B8.pin (D, { cls := .type "list", data := .seq (List.toArray its) k }) (List.mem_append_right _ (List.mem_append_left _ (List.mem_singleton.mpr rfl)))
        have lz : its.length = ys.length := rv.length.symm
        refine call_meets F.slot_list_append ⟨_, pD8.1, rfl⟩ F.entry_list_append (F.args_list_append_2 _ _) (PySem.list_append D its.toArray k x7 (by rw [List.size_toArray]; omega)) ⟨pD8.1, ?_⟩
        have q := PySem.IsL.update pD8.1 (·.push x7)
        have eo : its.toArray.push x7 = (its ++ [x7]).toArray := by simp
        have B9 : Inv (cxB X sc N cl C s H fp) [] (st0 own fr σ) H7 { s7 with heap := s7.heap.update D (Obj.mapSeq (·.push x7)) } :=
          Inv.turned (t' := s7.toks) (((B8.pins_sub (pins' := []) (by intro p hp; simp at hp)).weak ex.1.symm ex.2)) (fun b o hb e => (Heap.get?_update_other _ _ (Ne.symm hb)).trans e) pD8.2.1 hDC (.inr (by show s.heap.objs.size ≤ D; omega)) (fun y c e z => by
            have := B8.cell y c e
            obtain ⟨v, o, h1', h2'⟩ := this
            have h1' : s7.heap.get? c = some o := h1'
            rw [z, pD8.1] at h1'
            cases h1'
            cases h2') (by intro p hp; simp at hp)
        have B10 : ∀ o', (s7.heap.update D (Obj.mapSeq (·.push x7))).get? D = some o' → (∀ v, o'.data ≠ .cell v) → Inv (cxB X sc N cl C s H fp) [(D, o')] (st0 own fr σ) H7 { s7 with heap := s7.heap.update D (Obj.mapSeq (·.push x7)) } := fun o' e1 e2 =>
          Inv.pins_of B9 fun p hp => by
            have hp : p = (D, o') := by simpa using hp
            subst hp
            exact ⟨e1, pD8.2.1, hDC, pD8.2.2.2.1, e2⟩
        rw [eo] at q
        refine ⟨m', hm, i + 1, ys ++ [v7], its ++ [x7], _, H7, B10 _ q (by intro v z; cases z), T.keep _ _ _ t8 fun b hb o e => (Heap.get?_update_other _ _ (Nat.ne_of_gt (subL b hb))).trans e, f8, rv.append (.cons r7 .nil), by rw [List.length_append, List.length_singleton]; omega, w'⟩
  exact codeAny_compStart_list (loop _) (T.self _ 0 _ _ _ st1 (loop _))
def tComp (own : Nat) (fr : List Nat) (wi : TI) (g : TG) (tt : TT) (te : TE) : TE := fun σ H Q => wi σ H fun J H1 => ∃ W : Nat → Nat → List V → Hp → Prop, (∃ m, W 0 m [] H1) ∧
  cWalk J g tt te (st0 own fr σ) W fun ys H2 => ∀ p, H2 p = none → Q (.ref p) (upd H2 p (.lst ys))
theorem pe_comp {elt tg iter : Expr} {cs : List Expr} {pos : Pos} {wi : TI} {g : TG} {tt : TT} {te : TE} (S : CompSc X sc cl own N fr) (hc : X.calm = true) (hi : PI X tg iter wi) (hg : ∀ C s H fp, PG (cxB X sc N cl C s H fp) tg g)
    (ht : ∀ C s H fp, PTs (cxB X sc N cl C s H fp) cs tt) (he : ∀ C s H fp, PE (cxB X sc N cl C s H fp) elt te) (hs : ∀ x, foldedSetIterable iter X.env x = pure x := by intro _; rfl) :
    PE X (.ListComp elt [⟨tg, iter, cs, 0⟩] sc pos) (tComp own fr wi g tt te) := by
  intro pins s σ H Q I h
  rw [eval_ListComp]
  refine wpAny_comprehension_free (use := none) rfl hs S.clos S.kind S.names (thn (hi pins s σ H _ I h) fun v s1 h1 => thn h1 fun itv s2 h2 => ?_)
  obtain ⟨it, fp, tn, J, H2, e, I2, T, st2, f2, W, w0, walk⟩ := h2
  subst e
  refine comp_core (RR := fun acc C => compPost (model X.prog X.w) X.A X.xe none (EP X pins σ Q) acc C) S hc I2 T st2 f2 (fun C s H => hg C s H fp) (fun C s H => ht C s H fp) (fun C s H => he C s H fp) w0 walk ?_
  intro D C H' ys s' m hn hD fC I' rr
  obtain ⟨f0, f1, f2', f3, f4, f5⟩ := fC
  exact ⟨m, hn, fun h' hs' => ⟨.ref D, _, Inv.turned (t' := s'.toks) I' (fun b o hb e => hs'.extBut b o hb e) f0 f1 f3 f4 f5, rfl, rr D hD⟩⟩
theorem ps_setC {elt tg iter : Expr} {cs : List Expr} {pos spos py : Pos} {wi : TI} {g : TG} {tt : TT} {te : TE} {i : Nat} {y : Str} (hN : X.N.Nodup) (hiy : X.N[i]? = some y) (hy : Loc X.env.scope y) (S : CompSc X sc cl own N fr) (hc : X.calm = true) (hi : PI X tg iter wi)
    (hg : ∀ C s H fp, PG (cxB X sc N cl C s H fp) tg g) (ht : ∀ C s H fp, PTs (cxB X sc N cl C s H fp) cs tt) (he : ∀ C s H fp, PE (cxB X sc N cl C s H fp) elt te)
    (hsw : swapsWith (.ListComp elt [⟨tg, iter, cs, 0⟩] sc pos) (some (.Name y py)) spos.line X.env = pure true := by rfl) (hs : ∀ x, foldedSetIterable iter X.env x = pure x := by intro _; rfl)
    (hf : X.fn y = true ∨ X.env.scope.names.lookup y = some .local := by first | exact .inl rfl | exact .inr rfl | assumption) :
    PS X (.Assign [.Name y py] (.ListComp elt [⟨tg, iter, cs, 0⟩] sc pos) spos) (tAsg (tComp own fr wi g tt te) (gName i)) := by
  intro pins s σ H D0 I h
  rw [exec_Assign_Name_used _ _ _ _ hsw]
  refine wpAny_bind (wpAny_standAt (wpAny_bind ?_))
  show wpAny _ X.A (do let _ ← comprehension (.ListComp elt [⟨tg, iter, cs, 0⟩] sc pos) sc X.env _ (newList []) false (eval iter X.env) (some (assign (.Name y py) X.env))) _ _ s
  refine wpAny_bind (thn (wpAny_comprehension_free (use := some (assign (.Name y py) X.env)) (Q := fun _ s' => SP X pins D0 .next s') rfl hs S.clos S.kind S.names
    (thn (hi pins s σ H _ I h) fun v s1 h1 => thn h1 fun itv s2 h2 => ?_)) fun _ s' hq => wpAny_pure (wpAny_pure hq))
  obtain ⟨it, fp, tn, J, H2, e, I2, T, st2, f2, W, w0, walk⟩ := h2
  subst e
  refine comp_core (RR := fun acc C => compPost (model X.prog X.w) X.A X.xe (some (assign (.Name y py) X.env)) (fun _ s' => SP X pins D0 .next s') acc C) S hc I2 T st2 f2 (fun C s H => hg C s H fp) (fun C s H => ht C s H fp) (fun C s H => he C s H fp) w0 walk ?_
  intro D C H' ys s' m hn hD fC I' rr
  obtain ⟨f0, f1, f2', f3, f4, f5⟩ := fC
  show wpAny _ X.A (assign (.Name y py) X.env (.ref D)) _ _ _
  refine wpAny_assign_Name (store_ok2 I' hN hiy hy (v := .ref D) rfl (fun s2 I2 ⟨a, sb, ha⟩ => ?_) hf)
  have aC : C ≠ a := by
    rcases ha with z | z
    · rw [z]; exact f1
    · exact fun q => f4 y a z q.symm
  exact ⟨m, hn.sameBut sb aC, fun h' hs' => ⟨_, _, Inv.turned (t' := s2.toks) I2 (fun b o hb e => hs'.extBut b o hb e) f0 f1 f3 f4 f5, rr D hD⟩⟩
end
theorem comp_list {K : PySem.W.Frag} {a : Addr} {xs : List V} {g : TG} {tt : TT} {te : TE} {σ0 : St} {H : Hp} {R : List V → Hp → Prop} (Pv : Nat → List V → Hp → Prop) (h0 : Pv 0 [] H) (hl : ∀ i ys H, i ≤ xs.length → Pv i ys H → SqL K H a xs)
    (hs : ∀ i x ys H, xs[i]? = some x → Pv i ys H → g x σ0 H fun σ2 H2 => Ext σ0 σ2 ∧ tt σ2 H2 fun b H3 => if b = true then te σ2 H3 fun v H4 => ys.length < sizeLine ∧ Pv (i + 1) (ys ++ [v]) H4 else Pv (i + 1) ys H3)
    (hd : ∀ ys H, Pv xs.length ys H → R ys H) : ∃ W : Nat → Nat → List V → Hp → Prop, (∃ m, W 0 m [] H) ∧ cWalk (Itl K a) g tt te σ0 W R := by
  refine ⟨fun i m ys H => m = xs.length - i ∧ i ≤ xs.length ∧ Pv i ys H, ⟨xs.length, by simp, Nat.zero_le _, h0⟩, ?_⟩
  rintro i m ys H ⟨rfl, hi, p⟩
  have q := hl i ys H hi p
  by_cases hlt : i < xs.length
  · refine .inr ⟨⟨xs, xs[i], q, by simp [hlt]⟩, Pv (i + 1), fun ys' H' p' => ⟨xs.length - (i + 1), by omega, rfl, hlt, p'⟩, fun x H' y => ?_⟩
    obtain ⟨e, y⟩ := y
    subst e
    exact hs i x ys _ (y xs q) p
  · have e : i = xs.length := by omega
    subst e
    exact .inl ⟨⟨xs, q, Nat.le_refl _⟩, hd ys H p⟩
theorem comp_tup {K : PySem.W.Frag} {a : Addr} {xs : List V} {g : TG} {tt : TT} {te : TE} {σ0 : St} {H : Hp} {R : List V → Hp → Prop} (Pv : Nat → List V → Hp → Prop) (h0 : Pv 0 [] H) (hl : ∀ i ys H, i ≤ xs.length → Pv i ys H → SqT K H a xs)
    (hs : ∀ i x ys H, xs[i]? = some x → Pv i ys H → g x σ0 H fun σ2 H2 => Ext σ0 σ2 ∧ tt σ2 H2 fun b H3 => if b = true then te σ2 H3 fun v H4 => ys.length < sizeLine ∧ Pv (i + 1) (ys ++ [v]) H4 else Pv (i + 1) ys H3)
    (hd : ∀ ys H, Pv xs.length ys H → R ys H) : ∃ W : Nat → Nat → List V → Hp → Prop, (∃ m, W 0 m [] H) ∧ cWalk (Itt K a) g tt te σ0 W R := by
  refine ⟨fun i m ys H => m = xs.length - i ∧ i ≤ xs.length ∧ Pv i ys H, ⟨xs.length, by simp, Nat.zero_le _, h0⟩, ?_⟩
  rintro i m ys H ⟨rfl, hi, p⟩
  have q := hl i ys H hi p
  by_cases hlt : i < xs.length
  · refine .inr ⟨⟨xs, xs[i], q, by simp [hlt]⟩, Pv (i + 1), fun ys' H' p' => ⟨xs.length - (i + 1), by omega, rfl, hlt, p'⟩, fun x H' y => ?_⟩
    obtain ⟨e, y⟩ := y
    subst e
    exact hs i x ys _ (y xs q) p
  · have e : i = xs.length := by omega
    subst e
    exact .inl ⟨⟨xs, q, Nat.le_refl _⟩, hd ys H p⟩
theorem comp_range {lo : Int} {n : Nat} {g : TG} {tt : TT} {te : TE} {σ0 : St} {H : Hp} {R : List V → Hp → Prop} (Pv : Nat → List V → Hp → Prop) (h0 : Pv 0 [] H)
    (hs : ∀ i ys H, i < n → Pv i ys H → g (.int (lo + i)) σ0 H fun σ2 H2 => Ext σ0 σ2 ∧ tt σ2 H2 fun b H3 => if b = true then te σ2 H3 fun v H4 => ys.length < sizeLine ∧ Pv (i + 1) (ys ++ [v]) H4 else Pv (i + 1) ys H3)
    (hd : ∀ ys H, Pv n ys H → R ys H) : ∃ W : Nat → Nat → List V → Hp → Prop, (∃ m, W 0 m [] H) ∧ cWalk (Itr lo n) g tt te σ0 W R := by
  refine ⟨fun i m ys H => m = n - i ∧ i ≤ n ∧ Pv i ys H, ⟨n, by simp, Nat.zero_le _, h0⟩, ?_⟩
  rintro i m ys H ⟨rfl, hi, p⟩
  by_cases hlt : i < n
  · refine .inr ⟨hlt, Pv (i + 1), fun ys' H' p' => ⟨n - (i + 1), by omega, rfl, hlt, p'⟩, fun x H' y => ?_⟩
    obtain ⟨e, y⟩ := y
    subst e y
    exact hs i ys _ hlt p
  · have e : i = n := by omega
    subst e
    exact .inl ⟨Nat.le_refl _, hd ys H p⟩
def iSeq (K : PySem.W.Frag) (tl : TE) : TI := fun σ H R => tl σ H fun x H1 => ∃ a, x = .ref a ∧ (((∃ xs, SqL K H1 a xs) ∧ R (Itl K a) H1) ∨ ((∃ xs, SqT K H1 a xs) ∧ R (Itt K a) H1))
theorem pi_seq {X : Cx} {tg l : Expr} {tl : TE} (hl : PE X l tl) : PI X tg l (iSeq X.K tl) := by
  intro pins s σ H R I h
  refine thn (hl pins s σ H _ I h) fun v s1 ⟨x, H1, I1, r1, q1⟩ => ?_
  obtain ⟨a, e, q⟩ := q1
  subst e
  cases r1
  have fo : ∀ b ∈ [s1.heap.objs.size], FpOk X pins H1 b := fun b hb => by
    have e : b = s1.heap.objs.size := by simpa using hb
    subst e
    exact I1.fpOk (Nat.le_refl _) (I1.hok.fresh (Nat.le_refl _))
  rcases q with ⟨⟨xs, hq⟩, q⟩ | ⟨⟨xs, hq⟩, q⟩
  · obtain ⟨its, rv, p, hz⟩ := I1.list hq
    refine wpAny_pyIter_list p.isList ?_
    exact ⟨s1.heap.objs.size, [s1.heap.objs.size], _, _, H1, rfl, I1.kept (t' := s1.toks) fun b o e => Heap.get?_push_of_some _ e, turn_list a _, ⟨_, Heap.get?_push_size _ rfl, rfl, rfl⟩, fo, q⟩
  · obtain ⟨its, rv, p, hz⟩ := I1.tuple hq
    refine wpAny_pyIter_tuple (show s1.heap.IsTuple a its.toArray from p) ?_
    exact ⟨s1.heap.objs.size, [s1.heap.objs.size], _, _, H1, rfl, I1.kept (t' := s1.toks) fun b o e => Heap.get?_push_of_some _ e, turn_tuple a _, ⟨_, Heap.get?_push_size _ rfl, rfl, rfl⟩, fo, q⟩
end L2
namespace L2
open PySem PySem.Spec PyProof.Rows
section
variable {X : Cx}
theorem preSum_list : ∀ (ns : List Int), PySem.preSum (fun i => ns.getD i 0) ns.length = ns.sum := by
  intro ns
  induction ns with
  | nil => rfl
  | cons n r ih =>
    rw [List.length_cons, PySem.W.kdu_shift, List.sum_cons, ← ih]
    rfl
theorem call_sum (hc : X.calm = true) : CallR X (.builtin "sum") (fun xs H Q => ∃ (p : Addr) (ns : List Int), xs = [.ref p] ∧ SqL X.K H p (ns.map V.int) ∧ Q (.int ns.sum) H) := by
  intro pins s σ H xs us Q I r h
  obtain ⟨p, ns, rfl, hq, q⟩ := h
  obtain ⟨u, rfl, ru⟩ := vals1 r
  cases ru
  obtain ⟨its, rv, pl, hz⟩ := I.list hq
  have hi : IntsAre its ns := intsAre_of rv
  have lp : p < s.heap.objs.size := let ⟨o, _, e, _⟩ := pl; Heap.lt_size e
  refine call_sum_walkAnyS (wpAny_pyIter_list pl.isList ?_)
  have W := Walks.list (prog := X.prog) (w := X.w) (A := X.A.in1) (I.ok.hd hc) s.heap.objs.size p (Nat.ne_of_lt lp) its.toArray
  refine ⟨s.heap.objs.size, _, _, _, _, _, _, (fun i => ns.getD i 0), rfl, W.toS, ⟨⟨_, Heap.get?_push_size _ rfl, rfl, rfl⟩, pl.isList.at fun o e => Heap.get?_push_of_some _ e⟩, fun b hb => ?_, fun i v hv => ?_, fun s' t' hm => ?_⟩
  · show b < (s.heap.push _).objs.size
    rw [Heap.size_push]
    rcases List.mem_cons.mp hb with e | hb
    · rw [e]; exact Nat.lt_succ_self _
    · rw [List.mem_singleton.mp hb]; exact Nat.lt_succ_of_lt lp
  · have hv : its.toArray[i]? = some v := hv
    have hv : its[i]? = some v := by simpa using hv
    have hl := rv.length
    have hil : i < its.length := (List.getElem?_eq_some_iff.mp hv).1
    rw [List.length_map] at hl
    obtain ⟨u, hu, ru⟩ := rv.get (i := i) (x := .int (ns.getD i 0)) (by rw [List.getElem?_map, List.getD_eq_getElem?_getD, List.getElem?_eq_getElem (by omega)]; rfl)
    rw [hv] at hu
    cases hu
    exact ru
  · have kp : ∀ b o, s.heap.get? b = some o → s'.heap.get? b = some o := fun b o e =>
      hm.heap b o (fun hI => absurd (Heap.lt_size e) (by rw [List.mem_singleton.mp hI]; exact Nat.lt_irrefl _)) (Heap.get?_push_of_some _ e)
    rw [Moved.eq_with hm]
    have hl := rv.length
    rw [List.length_map] at hl
    have e : PySem.preSum (fun i => ns.getD i 0) its.toArray.size = ns.sum := by rw [List.size_toArray, ← hl]; exact preSum_list ns
    rw [e]
    exact ⟨.int ns.sum, H, I.kept (t' := s'.toks) kp, ⟨_, rfl⟩, q⟩
theorem rising_pair : ∀ (p : Str) (l : List Str), risingS p l = true → (p :: l).Pairwise fun a b => Hw.lt b a = false
  | p, [], _ => by simp
  | p, x :: r, h => by
    have h : (!ltCps x.cps.toList p.cps.toList && risingS x r) = true := h
    rw [Bool.and_eq_true, Bool.not_eq_true'] at h
    have ih := rising_pair x r h.2
    refine List.pairwise_cons.mpr ⟨fun y hy => ?_, ih⟩
    rcases List.mem_cons.mp hy with rfl | hy
    · exact h.1
    · exact Hw.not_lt_trans h.1 ((List.pairwise_cons.mp ih).1 y hy)
theorem sortedS_pair : ∀ (l : List Str), sortedS l = true → l.Pairwise fun a b => Hw.lt b a = false
  | [], _ => .nil
  | x :: r, h => rising_pair x r h
theorem strsAre_of : ∀ {ss : List Str} {us : List Value}, StrsAre us ss → Vals (ss.map V.str) us
  | _, _, .nil => .nil
  | _, _, .cons x t h => .cons ⟨t, rfl⟩ (strsAre_of h)
theorem of_vals_str : ∀ {ss : List Str} {us : List Value}, Vals (ss.map V.str) us → StrsAre us ss := by
  intro ss
  induction ss with
  | nil => intro us r; rw [List.map_nil] at r; cases r; exact .nil
  | cons x ss ih =>
    intro us r
    rw [List.map_cons] at r
    cases r with
    | cons r1 r2 =>
      obtain ⟨t, e⟩ := r1
      subst e
      exact .cons x t (ih r2)
theorem vals_of_get : ∀ {xs : List V} {us : List Value}, xs.length = us.length → (∀ (i : Nat) x, xs[i]? = some x → ∃ u, us[i]? = some u ∧ RelV x u) → Vals xs us
  | [], [], _, _ => .nil
  | [], _ :: _, h, _ => by simp at h
  | _ :: _, [], h, _ => by simp at h
  | x :: xs, u :: us, h, g => by
    obtain ⟨v, e, r⟩ := g 0 x rfl
    cases e
    exact .cons r (vals_of_get (by simpa using h) fun i y hy => g (i + 1) y hy)
theorem ObjOk.here {P : Program} {w : World} {H : Hp} {h : Heap} {a : Addr} {o : HO} (x : ObjOk P w H h a o) : ∃ u, h.get? a = some u := by
  cases o with
  | lst xs => obtain ⟨_, _, _, _, e⟩ := x; exact ⟨_, e⟩
  | tup xs => obtain ⟨_, _, _, o, e, _⟩ := x; exact ⟨_, e⟩
  | dK kvs => obtain ⟨_, _, _, _, o, _, _, e, _⟩ := x; exact ⟨_, e⟩
  | dT kvs => obtain ⟨_, _, _, _, o, _, _, e, _⟩ := x; exact ⟨_, e⟩
  | set S n => obtain ⟨o, _, _, _, e, _⟩ := x; exact ⟨_, e⟩
  | ins C dx fs => obtain ⟨_, _, _, e, _⟩ := x; exact ⟨_, e⟩
  | own y => obtain ⟨_, e⟩ := x; exact ⟨_, e⟩
  | xd fs => obtain ⟨_, ⟨_, _, _, e, _⟩, _⟩ := x; exact ⟨_, e⟩
  | rng lo hi => obtain ⟨_, _, _, e⟩ := x; exact ⟨_, e⟩
  | frz ob u => obtain ⟨e, _⟩ := x; exact ⟨_, e⟩
  | tbl ps => exact ⟨_, (show h.get? a = some _ from x)⟩
  | met f y => exact ⟨_, (show h.get? a = some _ from x)⟩
  | ext φ => obtain ⟨_, ⟨_, e⟩, _⟩ := x; exact ⟨_, e⟩
theorem Inv.laid2 {pins : List (Addr × Obj)} {σ : St} {H : Hp} {s : Shared} {h' : Heap} {a : Addr} {o : HO} {t' : Nat} (I : Inv X pins σ H s) (k : ∀ b u, s.heap.get? b = some u → h'.get? b = some u) (hp : ∀ b u, s.heap.get? b = some u → b ≠ a) (new : ObjOk X.prog X.w (upd H a o) h' a o) :
    H a = none ∧ Inv X pins σ (upd H a o) { s with heap := h', toks := t' } := by
  have hn : H a = none := by
    cases q : H a with
    | none => rfl
    | some u => obtain ⟨v, e⟩ := (I.hok a u q).here; exact absurd rfl (hp a v e)
  refine ⟨hn, I.un ⟨fun b u e _ _ _ => k b u e, fun b u e _ _ _ => ⟨u.slots, k b u e⟩, fun b u e n _ => by rw [upd_ne (hp b u e)]; exact n, fun b u e _ => ⟨u, k b u e⟩, fun b xs e => by rw [upd_ne (ne_of_none e hn)]; exact e, fun b u xs e => by rw [upd_ne (ne_of_none e hn)]; exact e, fun b ps e => ⟨#[], by rw [upd_ne (ne_of_none e hn), e]; simp⟩⟩ fun b u e => ?_⟩
  by_cases hb : b = a
  · subst hb; rw [upd_same] at e; cases e; exact new
  · rw [upd_ne hb] at e
    exact (I.hok b u e).stay (fun c v _ q => k c v q) (fun c q => by rw [upd_ne (ne_of_none q hn)]; exact q) fun c xs q => by rw [upd_ne (ne_of_none q hn)]; exact q
theorem call_sortedD (hc : X.calm = true) : CallR X (.builtin "sorted") (fun xs H Q => ∃ p kvs ss, xs = [.ref p] ∧ H p = some (.dK kvs) ∧ kvs.map (·.1) = List.map (Sum.inr : Str → Key) ss ∧ kvs.length < 64 ∧
    ∀ l ys, H l = none → List.Perm ys ss → ys.Pairwise (fun a b => Hw.lt b a = false) → Q (.ref l) (upd H l (.lst (ys.map V.str)))) := by
  intro pins s σ H xs us Q I r h
  obtain ⟨p, kvs, ss, rfl, hp, hk, h64, q⟩ := h
  obtain ⟨u, rfl, ru⟩ := vals1 r
  cases ru
  obtain ⟨hz, lo, vs, rel, dd⟩ := dk_rd I.hok (.inl hp)
  obtain ⟨ep, hat⟩ := dd.dictAt
  have hlv := rel.length
  refine Calls.call_function_entry kind_sorted plain_sorted entry_sorted (args_sorted1 _) ?_
  unfold Builtin.«sorted»
  refine wpAny_bind (m := checkCount "sorted" 1 1 _) (wpAny_pure (wpAny_bind (PySem.W.kdu_collect (A := X.A.in1) (PySem.W.kdl_dict (knd := mixKind X.prog X.w) (kvs := vs) (ep := ep) lo) (I.ok.hd hc) hat (by rw [← hlv]; exact hz) fun h' tk acc kp hacc => ?_)))
  have hS : StrsAre acc.toList ss := by
    refine of_vals_str (vals_of_get ?_ fun i x hx => ?_)
    · have : (kvs.map (·.1)).length = (List.map (Sum.inr : Str → Key) ss).length := by rw [hk]
      rw [List.length_map, List.length_map] at this
      have el : acc.toList.length = kvs.length := by rw [Array.length_toList, hacc.1, ← hlv]
      rw [List.length_map, el, this]
    · rw [List.getElem?_map] at hx
      cases e : ss[i]? with
      | none => rw [e] at hx; cases hx
      | some y =>
        rw [e] at hx
        cases hx
        have hi : i < acc.size := by
          have h1 : i < ss.length := (List.getElem?_eq_some_iff.mp e).1
          have : (kvs.map (·.1)).length = (List.map (Sum.inr : Str → Key) ss).length := by rw [hk]
          rw [List.length_map, List.length_map] at this
          rw [hacc.1]; omega
        obtain ⟨k, x, hv, hkk⟩ := hacc.2 i acc[i] (by simp)
        have ek : (vs.map (·.1))[i]? = some (Sum.inr y) := by rw [← rel.keys, hk, List.getElem?_map, e]; rfl
        rw [List.getElem?_map, hv] at ek
        have ek : k = Sum.inr y := Option.some.inj ek
        subst ek
        rcases keyIs_shape (show keyIs (Sum.inr y) acc[i] = true from hkk) with ⟨_, _, z, _⟩ | ⟨z, t, z1, z2⟩
        · cases z
        · cases z1
          exact ⟨acc[i], by simp, t, z2⟩
  have hla : acc.toList.length < 64 := by rw [Array.length_toList, hacc.1, ← hlv]; exact h64
  refine wpAny_bind (wpAny_newList ?_ (by have : 64 ≤ sizeLine := by rw [sizeLine_eq]; decide
                                          omega))
  have ho : (h'.push (seqObj "list" acc.toList.toArray 0)).get? h'.objs.size = some (seqObj "list" acc.toList.toArray 0) := Heap.get?_push_size _ rfl
  refine wpAny_bind (wpAny_holding (wpAny_call_entry slot_list_sort ⟨_, ho, rfl⟩ entry_list_sort (list_sort_treeK (s := { s with heap := h'.push (seqObj "list" acc.toList.toArray 0), toks := tk }) strKind_oneLt ho hS.keysOf (fun v1 v2 rest e => keyKind_strs (by rw [← e]; exact hS)) hla fun st' a1 a2 => ⟨_, rfl, ?_⟩) (args_list_sort _)))
  obtain ⟨ss', b1, b2, b3⟩ := sorted_out_str hS a1 a2
  obtain ⟨e, he⟩ := sortedHeap_at (out := (arrOf st').map (·.2)) ho
  have hss : (ss'.map V.str).length ≤ sizeLine := by
    have h1 : 64 ≤ sizeLine := by rw [sizeLine_eq]; decide
    have h2 : (ss'.map V.str).length = acc.toList.length := by rw [List.length_map, b2.length_eq, ← StrsAre.length hS]
    rw [h2]
    exact Nat.le_trans (Nat.le_of_lt hla) h1
  have L := I.laid2 (h' := sortedHeap (h'.push (seqObj "list" acc.toList.toArray 0)) h'.objs.size acc.toList ((arrOf st').map (·.2))) (a := h'.objs.size) (o := .lst (ss'.map V.str)) (t' := tk)
    (fun b u q => by
      have l := Heap.lt_size (kp b u q)
      rw [sortedHeap_old (Nat.ne_of_lt l) (by rw [Heap.size_push]; exact Nat.lt_succ_of_lt l)]
      exact Heap.get?_push_of_some _ (kp b u q))
    (fun b u q => Nat.ne_of_lt (Heap.lt_size (kp b u q)))
    ⟨hss, ((arrOf st').map (·.2)).toList, e, strsAre_of b1, by rw [Array.toArray_toList]; exact he⟩
  exact wpAny_pure ⟨_, rfl, .ref h'.objs.size, _, L.2, rfl, q _ ss' L.1 b2 (sortedS_pair _ b3)⟩
def Like (K : PySem.W.Frag) (H : Hp) : Nat → V → V → Prop
  | 0, x, y => flatV x = true ∧ x = y
  | n + 1, x, y => (flatV x = true ∧ x = y) ∨ ∃ a b xs ys, x = .ref a ∧ y = .ref b ∧ ((SqL K H a xs ∧ SqL K H b ys) ∨ (SqT K H a xs ∧ SqT K H b ys)) ∧ Paired (Like K H n) xs ys
theorem eqV_same {x : V} (h : flatV x = true) : eqV x x = true := by
  cases x with
  | non => rfl
  | bl b => simp [eqV]
  | int i => simp [eqV]
  | str z => simp [eqV]
  | _ => cases h
theorem pair_get {F : V → V → Prop} : ∀ {xs ys : List V}, Paired F xs ys → ∀ {i : Nat} {x y : V}, xs[i]? = some x → ys[i]? = some y → F x y
  | _, _, .nil, _, _, _, e, _ => by simp at e
  | _, _, .cons r t, 0, _, _, e, e' => by simp at e e'; rw [← e, ← e']; exact r
  | _, _, .cons r t, i + 1, _, _, e, e' => pair_get t (by simpa using e) (by simpa using e')
theorem like_items {K : PySem.W.Frag} {n : Nat} {H : Hp} {A : Around} {s : Shared} {xs ys : List V} {us vs : List Value} (p : Paired (Like K H n) xs ys) (r : Vals xs us) (r' : Vals ys vs)
    (ih : ∀ x y u v, RelV x u → RelV y v → Like K H n x y → SeqAt.EqAt A s u v true) : ∀ (j : Nat) (h1 : j < us.toArray.size) (h2 : j < vs.toArray.size), SeqAt.EqAt A s us.toArray[j] vs.toArray[j] true := by
  intro j h1 h2
  have l1 := r.length
  have l2 := r'.length
  simp only [List.size_toArray] at h1 h2
  have e1 : xs[j]? = some xs[j] := List.getElem?_eq_getElem (by omega)
  have e2 : ys[j]? = some ys[j] := List.getElem?_eq_getElem (by omega)
  obtain ⟨u, hu, ru⟩ := r.get e1
  obtain ⟨v, hv, rv⟩ := r'.get e2
  have hu' : us.toArray[j] = u := by
    rw [List.getElem?_eq_getElem h1] at hu; simpa using hu
  have hv' : vs.toArray[j] = v := by
    rw [List.getElem?_eq_getElem h2] at hv; simpa using hv
  rw [hu', hv']
  exact ih _ _ u v ru rv (pair_get p e1 e2)
theorem all_tt (n : Nat) : ((List.range n).all fun _ => true) = true := by rw [List.all_eq_true]; intro _ _; rfl
theorem like_eq {pins : List (Addr × Obj)} {σ : St} {H : Hp} {s : Shared} (I : Inv X pins σ H s) : ∀ (n : Nat) (A : Around), A.units + n < cLine → ∀ x y u v, RelV x u → RelV y v → Like X.K H n x y → SeqAt.EqAt A s u v true := by
  intro n
  have flat : ∀ (A : Around) (x y : V) (u v : Value), RelV x u → RelV y v → flatV x = true ∧ x = y → SeqAt.EqAt A s u v true := by
    rintro A x y u v ru rv ⟨f, rfl⟩
    have := eqAt_V (A := A) (s := s) ru rv f f
    rw [eqV_same f] at this
    exact this
  induction n with
  | zero => intro A hu x y u v ru rv h; exact flat A x y u v ru rv h
  | succ n ih =>
    intro A hu x y u v ru rv h
    rcases h with h | ⟨a, b, xs, ys, rfl, rfl, h, p⟩
    · exact flat A x y u v ru rv h
    · cases ru
      cases rv
      have ih' := ih A.in1 (by show A.units + 1 + n < cLine; omega)
      by_cases hab : a = b
      · subst hab; exact SeqAt.EqAt.same _
      · refine .of_refs hab ?_
        have lp : xs.length = ys.length := Paired.length p
        rcases h with ⟨ha, hb⟩ | ⟨ha, hb⟩
        · obtain ⟨us, r1, p1, _⟩ := I.list ha
          obtain ⟨vs, r2, p2, _⟩ := I.list hb
          have l1 := r1.length
          have l2 := r2.length
          have := SeqAt.RcAt.lists (A := A) (e := fun _ => true) p1.isList p2.isList (by simp only [List.size_toArray]; omega) (by omega) (like_items p r1 r2 ih')
          rw [all_tt] at this
          exact this
        · obtain ⟨us, r1, p1, _⟩ := I.tuple ha
          obtain ⟨vs, r2, p2, _⟩ := I.tuple hb
          have l1 := r1.length
          have l2 := r2.length
          have := SeqAt.RcAt.tuples (A := A) (e := fun _ => true) (show s.heap.IsTuple a us.toArray from p1) (show s.heap.IsTuple b vs.toArray from p2) (by omega) (like_items p r1 r2 ih')
          have e : (us.toArray.size == vs.toArray.size) = true := by simp only [List.size_toArray, beq_iff_eq]; omega
          rw [all_tt, e] at this
          exact this
def rLike (K : PySem.W.Frag) (n : Nat) (k : Bool) : R2 := fun x y H Q => ∃ a b xs ys, x = .ref a ∧ y = .ref b ∧ ((SqL K H a xs ∧ SqL K H b ys) ∨ (SqT K H a xs ∧ SqT K H b ys)) ∧ Paired (Like K H n) xs ys ∧ Q (.bl k) H
theorem op_eqL (n : Nat) (hu : X.A.units + 1 + n < cLine) : OpR X (compareOp .Eq) (rLike X.K n true) := by
  intro pins s σ H x y v u Q I rx ry h
  obtain ⟨a, b, xs, ys, rfl, rfl, h, p, q⟩ := h
  cases rx
  cases ry
  have ih' := like_eq I n X.A.in1 (by show X.A.units + 1 + n < cLine; omega)
  have lp : xs.length = ys.length := Paired.length p
  have fin : EP X pins σ Q (.bool true) s := ⟨.bl true, H, I, rfl, q⟩
  rcases h with ⟨ha, hb⟩ | ⟨ha, hb⟩
  · obtain ⟨us, r1, p1, _⟩ := I.list ha
    obtain ⟨vs, r2, p2, _⟩ := I.list hb
    have l1 := r1.length
    have l2 := r2.length
    exact SeqAt.eq_listAt (e := fun _ => true) p1.isList p2.isList (by simp only [List.size_toArray]; omega) (by omega) (like_items p r1 r2 ih') (by rw [all_tt]; exact fin)
  · obtain ⟨us, r1, p1, _⟩ := I.tuple ha
    obtain ⟨vs, r2, p2, _⟩ := I.tuple hb
    have l1 := r1.length
    have l2 := r2.length
    have e : (us.toArray.size == vs.toArray.size) = true := by simp only [List.size_toArray, beq_iff_eq]; omega
    exact SeqAt.eq_tupleAt (e := fun _ => true) (show s.heap.IsTuple a us.toArray from p1) (show s.heap.IsTuple b vs.toArray from p2) (by omega) (like_items p r1 r2 ih') (by rw [all_tt, e]; exact fin)
theorem op_neL (n : Nat) (hu : X.A.units + 1 + n < cLine) : OpR X (compareOp .NotEq) (rLike X.K n false) := by
  intro pins s σ H x y v u Q I rx ry h
  obtain ⟨a, b, xs, ys, rfl, rfl, h, p, q⟩ := h
  cases rx
  cases ry
  have ih' := like_eq I n X.A.in1 (by show X.A.units + 1 + n < cLine; omega)
  have lp : xs.length = ys.length := Paired.length p
  have fin : EP X pins σ Q (.bool false) s := ⟨.bl false, H, I, rfl, q⟩
  rcases h with ⟨ha, hb⟩ | ⟨ha, hb⟩
  · obtain ⟨us, r1, p1, _⟩ := I.list ha
    obtain ⟨vs, r2, p2, _⟩ := I.list hb
    have l1 := r1.length
    have l2 := r2.length
    exact SeqAt.RcNeAt.lists (A := X.A) (e := fun _ => true) p1.isList p2.isList (by simp only [List.size_toArray]; omega) (by omega) (like_items p r1 r2 ih') _ _ _ _ (by rw [all_tt]; exact fin)
  · obtain ⟨us, r1, p1, _⟩ := I.tuple ha
    obtain ⟨vs, r2, p2, _⟩ := I.tuple hb
    have l1 := r1.length
    have l2 := r2.length
    have e : (us.toArray.size == vs.toArray.size) = true := by simp only [List.size_toArray, beq_iff_eq]; omega
    exact SeqAt.RcNeAt.tuples (A := X.A) (e := fun _ => true) (show s.heap.IsTuple a us.toArray from p1) (show s.heap.IsTuple b vs.toArray from p2) (by omega) (like_items p r1 r2 ih') _ _ _ _ (by rw [all_tt, e]; exact fin)
def rIsi (K : PySem.W.Frag) (c : V) : List V → Hp → VK → Prop := fun vs H Q => ∃ x t u b, vs = [x, c] ∧ TyOf K H x t ∧ RelV c u ∧ PySem.W.kitOne K t u = some b ∧ Q (.bl b) H
theorem RelV.inj2 {c : V} {u u' : Value} (hc : match c with | .ref _ => True | .ty _ => True | _ => False) (r : RelV c u) (r' : RelV c u') : u = u' := by
  cases c with
  | ref a => cases r; cases r'; rfl
  | ty n => cases r; cases r'; rfl
  | _ => exact hc.elim
theorem call_isi {c : V} (hc : match c with | .ref _ => True | .ty _ => True | _ => False) : CallR X (.builtin "isinstance") (rIsi X.K c) := by
  intro pins s σ H xs us Q I r h
  obtain ⟨x, t, u, b, rfl, ty, rc, hb, q⟩ := h
  obtain ⟨w1, w2, rfl, rx, r2⟩ := vals2 r
  rw [RelV.inj2 hc r2 rc]
  exact isinst_ok I rx ty hb fun tk => ⟨.bl b, H, I.tok _, rfl, q⟩
def rCatU (K : PySem.W.Frag) : R2 := fun x y H Q => ∃ a b xs ys, x = .ref a ∧ y = .ref b ∧ SqT K H a xs ∧ SqT K H b ys ∧ xs.length + ys.length ≤ sizeLine ∧
  (xs = [] → Q (.ref b) H) ∧ (xs ≠ [] → ys = [] → Q (.ref a) H) ∧ (xs ≠ [] → ys ≠ [] → ∀ p, H p = none → Q (.ref p) (upd H p (.tup (xs ++ ys))))
theorem op_catU : OpR X (binaryOp .Add) (rCatU X.K) := by
  intro pins s σ H x y v u Q I rx ry h
  obtain ⟨a, b, xs, ys, rfl, rfl, ha, hb, hz, q0, q1, q2⟩ := h
  by_cases hx : xs = []
  · cases rx
    cases ry
    obtain ⟨its, r1, p1, _⟩ := I.tuple ha
    obtain ⟨its2, r2, p2, _⟩ := I.tuple hb
    obtain ⟨⟨cls, dd, data, sl⟩, ho, hc, n, hd⟩ := id p1
    obtain ⟨⟨cls2, dd2, data2, sl2⟩, ho2, hc2, n2, hd2⟩ := id p2
    simp only at hc hd hc2 hd2
    subst hc hd hc2 hd2
    have hi : its = [] := r1.nil_iff.mpr hx
    refine concat_meets ⟨_, ho, rfl⟩ ⟨_, ho2, rfl⟩ noFill_tuple_add seq_tuple_add PySem.F.slot_tuple_add PySem.F.entry_tuple_add (PySem.F.args_tuple_add_2 _ _)
      (tuple_addW0 a b its.toArray its2.toArray n n2 dd dd2 sl sl2 (by simp [hi])) ⟨ho, ho2, ?_⟩
    exact ⟨.ref b, H, I, rfl, q0 hx⟩
  · exact op_catT pins s σ H _ _ v u Q I rx ry ⟨a, b, xs, ys, rfl, rfl, ha, hb, hx, hz, q1 hx, fun hy => q2 hx hy⟩
def rIxN (K : PySem.W.Frag) : R2 := fun x y H Q => ∃ p xs k v, x = .ref p ∧ y = .int (k : Nat) ∧ SqL K H p xs ∧ xs[k]? = some v ∧ Q v H
theorem get_list : PGet X (rIxN X.K) := by
  intro pins s σ H o i ov iv Q I ro ri h
  obtain ⟨p, xs, k, v, rfl, rfl, hq, he, q⟩ := h
  cases ro
  obtain ⟨t, rfl⟩ := ri
  obtain ⟨its, r, pl, hz⟩ := I.list hq
  obtain ⟨w, ew, rw'⟩ := r.get he
  have hk : k < xs.length := (List.getElem?_eq_some_iff.mp he).1
  have hn := line63
  exact wpAny_getItem_list pl.isList (by omega) (by omega) (by simpa using ew) ⟨v, H, I, rw', q⟩
end
end L2
namespace Hw
open PySem L2
theorem new {H : Hp} {p : Addr} {o : HO} (h : H p = none) : Same H (upd H p o) := fun b u e => by rw [upd_ne (ne_of_none e h)]; exact e
def But (d : Addr) (H H' : Hp) : Prop := ∀ b o, H b = some o → b ≠ d → H' b = some o
theorem But.of {d : Addr} {H H' : Hp} (h : Same H H') : But d H H' := fun b o e _ => h b o e
theorem But.trans {d : Addr} {H H1 H2 : Hp} (a : But d H H1) (b : But d H1 H2) : But d H H2 := fun c o e n => b c o (a c o e n) n
theorem But.upd {d : Addr} {H : Hp} {o : HO} : But d H (L2.upd H d o) := fun b u e n => by rw [upd_ne n]; exact e
theorem But.new {d : Addr} {H H1 : Hp} {p : Addr} {o : HO} (a : But d H H1) (h : H1 p = none) : But d H (L2.upd H1 p o) := fun b u e n => Hw.new h b u (a b u e n)
theorem Same.new {H H1 : Hp} {p : Addr} {o : HO} (a : Same H H1) (h : H1 p = none) : Same H (L2.upd H1 p o) := a.trans (Hw.new h)
theorem But.back {d : Addr} {H H0 H1 : Hp} (s : Same H0 H) (a : But d H H1) (h : H0 d = none) : Same H0 H1 := fun b u e => a b u (s b u e) (ne_of_none e h)
def Pr (H : Hp) (v : V) (p : Str × Int) : Prop := ∃ a, v = .ref a ∧ H a = some (.tup [.str p.1, .int p.2])
abbrev Prs (H : Hp) : List V → Ps → Prop := Paired (Pr H)
theorem Pr.keep {H H' : Hp} {v : V} {p : Str × Int} (h : ∀ a xs, H a = some (.tup xs) → H' a = some (.tup xs)) (x : Pr H v p) : Pr H' v p := let ⟨a, e, q⟩ := x; ⟨a, e, h _ _ q⟩
theorem Prs.keep {H H' : Hp} {vs : List V} {ps : Ps} (h : ∀ a xs, H a = some (.tup xs) → H' a = some (.tup xs)) (x : Prs H vs ps) : Prs H' vs ps := L2.Paired.mapP x fun _ _ q => q.keep h
def Lp (H : Hp) (a : Addr) (ps : Ps) : Prop := ∃ vs, H a = some (.lst vs) ∧ Prs H vs ps
def Tp (H : Hp) (a : Addr) (ps : Ps) : Prop := ∃ vs, H a = some (.tup vs) ∧ Prs H vs ps
theorem Lp.same {H H' : Hp} {a : Addr} {ps : Ps} (h : Lp H a ps) (s : Same H H') : Lp H' a ps := let ⟨vs, e, q⟩ := h; ⟨vs, s _ _ e, q.keep fun _ _ z => s _ _ z⟩
theorem Tp.same {H H' : Hp} {a : Addr} {ps : Ps} (h : Tp H a ps) (s : Same H H') : Tp H' a ps := let ⟨vs, e, q⟩ := h; ⟨vs, s _ _ e, q.keep fun _ _ z => s _ _ z⟩
theorem But.tups {d : Addr} {H H' : Hp} (b : But d H H') {xs : List V} (hd : H d = some (.lst xs)) : ∀ a ys, H a = some (.tup ys) → H' a = some (.tup ys) := fun a ys e => b a _ e fun z => by rw [z, hd] at e; cases e
theorem prs_at {H : Hp} : ∀ {vs : List V} {ps : Ps}, Prs H vs ps → ∀ {i : Nat} {v : V}, vs[i]? = some v → ∃ p, ps[i]? = some p ∧ Pr H v p
  | _, _, .nil, _, _, e => by simp at e
  | _, _, .cons r t, 0, _, e => by simp at e; subst e; exact ⟨_, rfl, r⟩
  | _, _, .cons r t, i + 1, _, e => prs_at t (i := i) (by simpa using e)
theorem prs_len {H : Hp} {vs : List V} {ps : Ps} (h : Prs H vs ps) : vs.length = ps.length := Paired.length h
theorem prs_app {H : Hp} : ∀ {vs ws : List V} {ps qs : Ps}, Prs H vs ps → Prs H ws qs → Prs H (vs ++ ws) (ps ++ qs)
  | _, _, _, _, .nil, s => s
  | _, _, _, _, .cons r t, s => .cons r (prs_app t s)
theorem prs_one {H : Hp} {v : V} {p : Str × Int} (h : Pr H v p) : Prs H [v] [p] := .cons h .nil
def enc (d : Ps) : List (Key × V) := d.map fun p => (Sum.inr p.1, V.int p.2)
theorem enc_keys (d : Ps) : (enc d).map (·.1) = List.map (Sum.inr : Str → Key) (keys d) := by
  unfold enc keys
  rw [List.map_map, List.map_map]; rfl
theorem enc_len (d : Ps) : (enc d).length = d.length := List.length_map ..
theorem enc_val (t : Str) : ∀ d : Ps, valV (enc d) (Sum.inr t) = if t ∈ keys d then some (V.int (get d t)) else none
  | [] => by simp [enc, valV, keys]
  | p :: r => by
    have ih := enc_val t r
    show valV ((Sum.inr p.1, V.int p.2) :: enc r) (Sum.inr t) = _
    by_cases e : p.1 = t
    · rw [valV_pos (by simp [e]), get_cons, if_pos e, if_pos (by simp [keys, e])]
    · have e' : ¬ t = p.1 := fun z => e z.symm
      have hk : t ∈ keys (p :: r) ↔ t ∈ keys r := by
        unfold keys
        rw [List.map_cons, List.mem_cons]
        exact ⟨fun h => h.resolve_left e', .inr⟩
      rw [valV_neg (by simpa using e), ih, get_cons, if_neg e]
      simp only [hk]
theorem enc_getD (d : Ps) (t : Str) : (valV (enc d) (Sum.inr t)).getD (V.int 0) = V.int (get d t) := by
  rw [enc_val]
  by_cases h : t ∈ keys d
  · rw [if_pos h]; rfl
  · rw [if_neg h, get_no h]; rfl
theorem enc_any (d : Ps) (t : Str) : ((enc d).any fun kv => decide (kv.1 = (Sum.inr t : Key))) = d.any fun p => decide (p.1 = t) := by
  unfold enc
  rw [List.any_map]
  congr 1
  funext p
  simp
theorem enc_put (d : Ps) (t : Str) (n : Int) : putK (enc d) (Sum.inr t) (V.int n) = enc (put d t n) := by
  unfold putK put
  rw [enc_any]
  split
  · unfold enc
    rw [List.map_map, List.map_map]
    refine List.map_congr_left fun p _ => ?_
    by_cases e : p.1 = t
    · simp [e]
    · simp [e]
  · unfold enc
    rw [List.map_append]; rfl
def sflds (t : Addr) (n : Int) : List (Str × V) := putF "number" (.int n) (putF "terms" (.ref t) [])
theorem tn : ¬ (("terms" : Str) = "number") := by decide +kernel
theorem sflds_terms (t : Addr) (n : Int) : (sflds t n).lookup ("terms" : Str) = some (.ref t) := by
  unfold sflds
  rw [lookup_putF, if_neg tn, lookup_putF, if_pos rfl]
theorem sflds_number (t : Addr) (n : Int) : (sflds t n).lookup ("number" : Str) = some (.int n) := by
  unfold sflds
  rw [lookup_putF, if_pos rfl]
theorem sflds_no (t : Addr) (n : Int) {m : Str} (h1 : ¬ m = "terms") (h2 : ¬ m = "number") : (sflds t n).lookup m = none := by
  unfold sflds
  rw [lookup_putF, if_neg h2, lookup_putF, if_neg h1]
  all_goals rfl
def SumAt (C : Addr) (H : Hp) (p : Addr) (ts : Ps) (n : Int) : Prop := ∃ dx t, H p = some (.ins C dx (sflds t n)) ∧ Tp H t ts ∧ ts.length ≤ 1000
theorem SumAt.same {C : Addr} {H H' : Hp} {p : Addr} {ts : Ps} {n : Int} (h : SumAt C H p ts n) (s : Same H H') : SumAt C H' p ts n := let ⟨dx, t, e, q, z⟩ := h; ⟨dx, t, s _ _ e, q.same s, z⟩
end Hw
namespace Hw
open PySem L2
def Dn (P : Program) (w : World) (K : PySem.W.Frag) (mg : Str → Option Value) (base : Heap) (k : Nat) (x : Str) (ps : List Str) (sp : Sp) : Prop :=
  ∃ (f : Addr) (fd : FuncData), FnOk P w K mg base CX0 k f fd ps sp ∧ mg x = some (.ref f) ∧ PySem.W.keepIn K (.ref f) = true ∧ Binds K fd ps []
def Mt (P : Program) (w : World) (K : PySem.W.Frag) (mg : Str → Option Value) (base : Heap) (k : Nat) (C : Addr) (m : Str) (ps : List Str) (sp : Sp) : Prop :=
  ∃ (f : Addr) (fd : FuncData), FnOk P w K mg base CX0 k f fd ps sp ∧ Meth K C m f ∧ Binds K fd ps []
def Mr (P : Program) (w : World) (K : PySem.W.Frag) (mg : Str → Option Value) (base : Heap) (k : Nat) (C : Addr) (ps : List Str) (sp : Sp) : Prop :=
  ∃ (f : Addr) (fd : FuncData), FnOk P w K mg base CX0 k f fd ps sp ∧ Mk K C f ∧ Binds K fd ps []
structure Txt (K : PySem.W.Frag) (mg : Str → Option Value) (C : Addr) : Prop where
  cl : Cls K C
  nT : NoAttr K C "terms"
  nN : NoAttr K C "number"
  mg_Sum : mg "Sum" = some (.ref C)
  len : mg "len" = none
  sum : mg "sum" = none
  sorted : mg "sorted" = none
  list : mg "list" = none
  tuple : mg "tuple" = none
  isinstance : mg "isinstance" = none
  range : mg "range" = none
  abs : mg "abs" = none
  str : mg "str" = none
  int : mg "int" = none
  dict : mg "dict" = none
  ca : PySem.W.findIn K (.ref C) "__class__" = some (some (.builtin "object.__class__"))
  cg : PySem.W.specialIn K (.builtin "object.__class__") "__get__" = some (some (.builtin "getset_descriptor.__get__"))
  ct : PySem.W.takesIn K (.builtin "object.__class__") = some true
  cm : PySem.W.mroIn K C (.type "object") = some true
  kS : PySem.W.kitOne K (.ref C) (.ref C) = some true
  kT : PySem.W.kitOne K (.type "tuple") (.type "tuple") = some true
def Sq (H : Hp) (a : Addr) (ps : Ps) : Prop := Lp H a ps ∨ Tp H a ps
theorem Sq.same {H H' : Hp} {a : Addr} {ps : Ps} (h : Sq H a ps) (s : Same H H') : Sq H' a ps := h.elim (fun z => .inl (z.same s)) fun z => .inr (z.same s)
def spInit (C : Addr) : Sp := fun vs H Q _ => ∃ (p dx l : Addr) (n : Int) (ps : Ps), vs = [.ref p, .ref l, .int n] ∧ H p = some (.ins C dx []) ∧ Sq H l ps ∧ ps.length ≤ 1000 ∧
  ∀ H', But p H H' → SumAt C H' p ps n → Q .non H'
def spSumOf (C : Addr) : Sp := fun vs H Q _ => ∃ (a : Addr) (n : Int) (ps : Ps), vs = [.ref a, .int n] ∧ Sq H a ps ∧ ps.length < 64 ∧
  ∀ (r : Addr) (ts : Ps) (H' : Hp), Same H H' → Gat ps ts → ts.length ≤ ps.length → SumAt C H' r ts n → Q (.ref r) H'
structure Nums (H : Hp) (d : Addr) (ns : Ps) : Prop where
  at_ : H d = some (.dK (enc ns))
  fit : ∀ t, -(2 ^ 64) < get ns t ∧ get ns t < 2 ^ 64
theorem Nums.same {H H' : Hp} {d : Addr} {ns : Ps} (h : Nums H d ns) (s : Same H H') : Nums H' d ns := ⟨s _ _ h.at_, h.fit⟩
def spValue (C : Addr) : Sp := fun vs H Q _ => ∃ (p d : Addr) (ts ns : Ps) (n : Int), vs = [.ref p, .ref d] ∧ SumAt C H p ts n ∧ Nums H d ns ∧ (∀ t ∈ keys ts, t ∈ keys ns) ∧
  ∀ H', Same H H' → Q (.int (n + lin ts (get ns))) H'
end Hw
namespace Hw
open PySem L2
structure Kp (H H' : Hp) : Prop where
  l : ∀ b xs, H b = some (.lst xs) → H' b = some (.lst xs)
  t : ∀ b xs, H b = some (.tup xs) → H' b = some (.tup xs)
theorem Kp.refl {H : Hp} : Kp H H := ⟨fun _ _ h => h, fun _ _ h => h⟩
theorem Kp.but {d : Addr} {H H' : Hp} (s : But d H H') (hl : ∀ xs, H d ≠ some (.lst xs)) (ht : ∀ xs, H d ≠ some (.tup xs)) : Kp H H' :=
  ⟨fun b xs h => s b _ h fun z => hl xs (z ▸ h), fun b xs h => s b _ h fun z => ht xs (z ▸ h)⟩
theorem take_snoc {α : Type} {l : List α} {i : Nat} {x : α} (h : l[i]? = some x) : l.take (i + 1) = l.take i ++ [x] := by
  rw [List.take_add_one, h]; rfl
theorem get_some {H : Hp} {vs : List V} {ps : Ps} (r : Prs H vs ps) {i : Nat} {v : V} (h : vs[i]? = some v) : ∃ p, ps[i]? = some p ∧ Pr H v p := prs_at r h
theorem comp_tp {K : PySem.W.Frag} {a : Addr} {ps : Ps} {g : TG} {tt : TT} {te : TE} {σ0 : St} {H : Hp} {R : List V → Hp → Prop} (h : Tp H a ps) (Pv : Nat → List V → Hp → Prop) (h0 : Pv 0 [] H) (hS : ∀ i ys H', Pv i ys H' → Kp H H')
    (hs : ∀ i v p ys H', ps[i]? = some p → Pr H' v p → Pv i ys H' → g v σ0 H' fun σ2 H2 => Ext σ0 σ2 ∧ tt σ2 H2 fun b H3 => if b = true then te σ2 H3 fun v H4 => ys.length < sizeLine ∧ Pv (i + 1) (ys ++ [v]) H4 else Pv (i + 1) ys H3)
    (hd : ∀ ys H', Pv ps.length ys H' → R ys H') : (∃ xs, SqT K H a xs) ∧ ∃ W : Nat → Nat → List V → Hp → Prop, (∃ m, W 0 m [] H) ∧ cWalk (Itt K a) g tt te σ0 W R := by
  obtain ⟨vs, e, r⟩ := h
  refine ⟨⟨vs, SqT.of e⟩, comp_tup (xs := vs) Pv h0 (fun i ys H' _ p => SqT.of ((hS i ys H' p).t _ _ e)) (fun i v ys H' hi p => ?_) ?_⟩
  · obtain ⟨q, hq, pr⟩ := get_some r hi
    exact hs i v q ys H' hq (pr.keep (hS i ys H' p).t) p
  · rw [prs_len r]; exact hd
theorem comp_sq {K : PySem.W.Frag} {a : Addr} {ps : Ps} {g : TG} {tt : TT} {te : TE} {σ0 : St} {H : Hp} {R : List V → Hp → Prop} (h : Sq H a ps) (Pv : Nat → List V → Hp → Prop) (h0 : Pv 0 [] H) (hS : ∀ i ys H', Pv i ys H' → Kp H H')
    (hs : ∀ i v p ys H', ps[i]? = some p → Pr H' v p → Pv i ys H' → g v σ0 H' fun σ2 H2 => Ext σ0 σ2 ∧ tt σ2 H2 fun b H3 => if b = true then te σ2 H3 fun v H4 => ys.length < sizeLine ∧ Pv (i + 1) (ys ++ [v]) H4 else Pv (i + 1) ys H3)
    (hd : ∀ ys H', Pv ps.length ys H' → R ys H') : ((∃ xs, SqL K H a xs) ∧ ∃ W : Nat → Nat → List V → Hp → Prop, (∃ m, W 0 m [] H) ∧ cWalk (Itl K a) g tt te σ0 W R) ∨ ((∃ xs, SqT K H a xs) ∧ ∃ W : Nat → Nat → List V → Hp → Prop, (∃ m, W 0 m [] H) ∧ cWalk (Itt K a) g tt te σ0 W R) := by
  rcases h with h | h
  · obtain ⟨vs, e, r⟩ := h
    refine .inl ⟨⟨vs, SqL.of e⟩, comp_list (xs := vs) Pv h0 (fun i ys H' _ p => SqL.of ((hS i ys H' p).l _ _ e)) (fun i v ys H' hi p => ?_) ?_⟩
    · obtain ⟨q, hq, pr⟩ := get_some r hi
      exact hs i v q ys H' hq (pr.keep (hS i ys H' p).t) p
    · rw [prs_len r]; exact hd
  · exact .inr (comp_tp h Pv h0 hS hs hd)
abbrev ForW (J : It) (g : TG) (tb : TS) (D : Ends) (σ : St) (H : Hp) : Prop := ∃ W : Nat → Nat → St → Hp → Prop, (∃ m, W 0 m σ H) ∧ ∀ i m σ H, W i m σ H →
  (J.stop i H ∧ D.nx σ H) ∨ (J.go i H ∧ ∃ N : St → Hp → Prop, (∀ σ' H', N σ' H' → ∃ m', m' < m ∧ W (i + 1) m' σ' H') ∧ ∀ x H', J.yld i H x H' → g x σ H' fun σ2 H2 => tb { D with nx := N, ct := N, bk := D.nx } σ2 H2)
theorem for_sq {K : PySem.W.Frag} {a : Addr} {ps : Ps} {g : TG} {tb : TS} {D : Ends} {σ : St} {H : Hp} (h : Sq H a ps) (Pv : Nat → St → Hp → Prop) (h0 : Pv 0 σ H) (hS : ∀ i σ H', Pv i σ H' → Kp H H')
    (hs : ∀ i v p σ H', ps[i]? = some p → Pr H' v p → Pv i σ H' → g v σ H' fun σ2 H2 => tb { D with nx := Pv (i + 1), ct := Pv (i + 1), bk := D.nx } σ2 H2) (hd : ∀ σ H', Pv ps.length σ H' → D.nx σ H') :
    ((∃ xs, SqL K H a xs) ∧ ForW (Itl K a) g tb D σ H) ∨ ((∃ xs, SqT K H a xs) ∧ ForW (Itt K a) g tb D σ H) := by
  rcases h with ⟨vs, e, r⟩ | ⟨vs, e, r⟩
  · refine .inl ⟨⟨vs, SqL.of e⟩, for_list (xs := vs) Pv h0 (fun i σ H' _ p => SqL.of ((hS i σ H' p).l _ _ e)) (fun i v σ H' hi p => ?_) ?_⟩
    · obtain ⟨q, hq, pr⟩ := get_some r hi
      exact hs i v q σ H' hq (pr.keep (hS i σ H' p).t) p
    · rw [prs_len r]; exact hd
  · refine .inr ⟨⟨vs, SqT.of e⟩, for_tup (xs := vs) Pv h0 (fun i σ H' _ p => SqT.of ((hS i σ H' p).t _ _ e)) (fun i v σ H' hi p => ?_) ?_⟩
    · obtain ⟨q, hq, pr⟩ := get_some r hi
      exact hs i v q σ H' hq (pr.keep (hS i σ H' p).t) p
    · rw [prs_len r]; exact hd
theorem line (n : Nat) (h : n ≤ 100000) : n < sizeLine := by rw [sizeLine_eq]; omega
theorem upd_upd {H : Hp} {d : Addr} {x y : HO} : upd (upd H d x) d y = upd H d y := by
  funext b
  by_cases e : b = d
  · subst e; rw [upd_same, upd_same]
  · rw [upd_ne e, upd_ne e, upd_ne e]
theorem Kp.dict {H : Hp} {d : Addr} {x y : List (Key × V)} : Kp (upd H d (.dK x)) (upd H d (.dK y)) := by
  constructor
  · intro b xs h
    by_cases e : b = d
    · subst e; rw [upd_same] at h; cases h
    · rw [upd_ne e] at h ⊢; exact h
  · intro b xs h
    by_cases e : b = d
    · subst e; rw [upd_same] at h; cases h
    · rw [upd_ne e] at h ⊢; exact h
theorem lin_sum (f : Str → Int) : ∀ ts : Ps, (ts.map fun q => q.2 * f q.1).sum = lin ts f
  | [] => rfl
  | p :: r => by rw [List.map_cons, List.sum_cons, lin_sum f r, lin]
theorem nums_get {H : Hp} {d : Addr} {e : Ps} {t : Str} (h : H d = some (.dK (enc e))) (m : t ∈ keys e) : DGet H d (.str t) (some (.int (get e t))) := by
  have q := DGet.k (k := (Sum.inr t : Key)) h
  rw [enc_val, if_pos m] at q
  exact q
theorem outs_snoc (e : Ps) (ys : List Str) (y : Str) : outs e (ys ++ [y]) = outs e ys ++ if get e y = 0 then [] else [(y, get e y)] := by
  unfold outs
  rw [List.map_append, List.filter_append]
  congr 1
  by_cases h : get e y = 0
  · rw [if_pos h]; simp [h]
  · rw [if_neg h]; simp [h]
theorem outs_len (e : Ps) (ys : List Str) : (outs e ys).length ≤ ys.length := by
  unfold outs
  exact Nat.le_trans (List.length_filter_le _ _) (by rw [List.length_map]; exact Nat.le_refl _)
end Hw
namespace L2
open PySem PySem.Spec PyProof.Rows
section
variable {X : Cx} {K : PySem.W.Frag}
theorem ix_tupK (h : X.K = K) : IxR X (rIxT K) := h ▸ ix_tup
theorem call_tuple_ofK (h : X.K = K) : CallR X (.type "tuple") (fun xs H Q => ∃ p ys, xs = [.ref p] ∧ ((SqL K H p ys ∧ ∀ l, H l = none → Q (.ref l) (upd H l (.tup ys))) ∨ (SqT K H p ys ∧ Q (.ref p) H))) := h ▸ call_tuple_of
theorem pg_tupK {es : List Expr} {k : Nat} {t : TGs} {n : Nat} {pos : Pos} (hK : X.K = K) (hc : X.calm = true) (h : PGs X es t) (hn : (assignEach es X.env).length = n := by rfl) (hst : (assignEach es X.env).findIdx? (·.1) = none := by rfl) :
    PG X (.Tuple es k pos) (gTup K n t) := hK ▸ pg_tup hc h hn hst
theorem alwT {σ : St} {H : Hp} {F G : Hp → Prop} (h : F H) : tAlways σ H (fun b H3 => if b = true then F H3 else G H3) := by
  show if true = true then F H else G H
  exact iteT h
def strsOf : List Expr → Option (List Str)
  | [] => some []
  | .Constant (.str x) _ _ :: r => (strsOf r).map (x :: ·)
  | _ => none
def tStrs (xs : List Str) : TA := fun _ H Q => Q (xs.map V.str) H
theorem pa_strs : ∀ {es : List Expr} {xs : List Str}, strsOf es = some xs → PA X es (tStrs xs)
  | [], xs, h => by
    cases h
    exact pa_nil
  | e :: r, xs, h => by
    unfold strsOf at h
    split at h
    · rename_i he; cases he
    · rename_i x j pos r' he
      cases he
      cases q : strsOf r with
      | none => rw [q] at h; cases h
      | some ys =>
        rw [q] at h
        cases h
        have ih := pa_strs q
        exact pa_cons pe_str ih rfl
    · cases h
end
end L2
namespace L2
open PySem PySem.Spec PyProof.Rows
section
variable {X : Cx} {K : PySem.W.Frag}
end
end L2
namespace HT
open PySem PySem.Spec PyProof.Rows
section
variable {prog : Program} {w : World} {A : Around} {E : Value → Shared → Prop} {s : Shared}
end
end HT
namespace L2
open PySem PySem.Spec PyProof.Rows
section
variable {X : Cx} {K : PySem.W.Frag}
end
end L2
namespace L2
open PySem PySem.Spec PyProof.Rows
section
variable {X : Cx} {K : PySem.W.Frag}
variable {o e : Expr} {to : TE} {apos cpos : Pos}
def rNeNil (K : PySem.W.Frag) : R2 := fun x y H Q => ∃ a b xs, x = .ref a ∧ y = .ref b ∧ SqL K H a xs ∧ SqL K H b [] ∧ Q (.bl (!decide (xs = []))) H
theorem op_neNil (hu : X.A.units < cLine) : OpR X (compareOp .NotEq) (rNeNil X.K) := by
  intro pins s σ H x y v u Q I rx ry h
  obtain ⟨a, b, xs, rfl, rfl, ha, hb, q⟩ := h
  cases rx
  cases ry
  obtain ⟨us, r1, p1, _⟩ := I.list ha
  obtain ⟨vs, r2, p2, _⟩ := I.list hb
  cases r2
  have l1 := r1.length
  by_cases hx : xs = []
  · rw [decide_eq_true hx] at q
    subst hx
    cases r1
    exact SeqAt.RcNeAt.lists (A := X.A) (e := fun _ => true) p1.isList p2.isList rfl hu (fun j h1 h2 => absurd h2 (by simp)) _ _ _ _ ⟨.bl false, H, I, rfl, q⟩
  · rw [decide_eq_false hx] at q
    have : us ≠ [] := fun z => hx (by rw [z] at l1; exact List.length_eq_zero_iff.mp l1)
    refine SeqAt.RcNeAt.lists_lengths (A := X.A) p1.isList p2.isList ?_ hu _ _ _ _ ⟨.bl true, H, I, rfl, q⟩
    cases us with
    | nil => exact absurd rfl this
    | cons _ _ => simp
end
end L2
namespace L2
open PySem PySem.Spec PyProof.Rows
section
variable {X : Cx} {e : Expr} {te : TE}
end
end L2
namespace Hw
open PySem L2
theorem uL {A : Around} {k n : Nat} (hr : Room k A) (h : n ≤ 60 := by decide) : A.units + 1 + n < cLine := by have := hr.units; omega
theorem uN {A : Around} {k : Nat} (hr : Room k A) : A.units < cLine := by have := hr.units; omega
def Dr (H : Hp) (d : Addr) : Prop := ∃ a b : Int, H d = some (.lst [.int a, .int b])
theorem Dr.same {H H' : Hp} {d : Addr} (h : Dr H d) (s : Same H H') : Dr H' d := let ⟨a, b, e⟩ := h; ⟨a, b, s _ _ e⟩
def spMixed : Sp := fun vs H Q _ => ∃ c k : Int, vs = [.int c, .int k] ∧ ∀ r : Int, 0 ≤ r → r < 2147483399 → Q (.int r) H
def spCell (K : PySem.W.Frag) : Sp := fun vs H Q _ => ∃ (a : Addr) (ns : List Int) (k : Nat), vs = [.ref a, .int k] ∧ SqL K H a (ns.map V.int) ∧ ∀ r : Int, Q (.int r) H
def spNext : Sp := fun vs H Q _ => ∃ (d : Addr) (n : Int), vs = [.ref d, .int n] ∧ Dr H d ∧ 0 < n ∧ ∀ (r : Nat) (H' : Hp), (r : Int) < n → But d H H' → Dr H' d → Q (.int r) H'
def DueAt (H : Hp) (r : Addr) (ts : Ps) (n : Int) : Prop := ∃ t, H r = some (.tup [.ref t, .int n]) ∧ Tp H t ts
theorem DueAt.same {H H' : Hp} {r : Addr} {ts : Ps} {n : Int} (h : DueAt H r ts n) (s : Same H H') : DueAt H' r ts n := let ⟨t, e, q⟩ := h; ⟨t, s _ _ e, q.same s⟩
def spLaw (K : PySem.W.Frag) : Sp := fun vs H Q _ => ∃ (a : Addr) (ns : List Int), vs = [.ref a] ∧ SqL K H a (ns.map V.int) ∧ ns.length ≤ 63 ∧ ∀ H', Q (.bl true) H'
end Hw
namespace Hw
open PySem L2
theorem inV_str (w : Str) (xs : List Str) : inV (.str w) (xs.map V.str) = decide (w ∈ xs) := by
  unfold inV
  rw [List.any_map]
  by_cases h : w ∈ xs
  · rw [decide_eq_true h, List.any_eq_true]
    exact ⟨w, h, by simp [eqV]⟩
  · rw [decide_eq_false h, List.any_eq_false]
    intro y hy
    simp only [Function.comp, eqV, beq_iff_eq]
    intro e
    exact h (e ▸ hy)
theorem flat_strs (xs : List Str) : (xs.map V.str).all flatV = true := by rw [List.all_map, List.all_eq_true]; intro _ _; rfl
theorem Dr.ne {H : Hp} {d l : Addr} (h : Dr H d) (n : H l = none) : l ≠ d := let ⟨_, _, e⟩ := h; (ne_of_none e n).symm
end Hw
namespace Hw
open PySem L2
theorem Lp.but {H H' : Hp} {a d : Addr} {ps : Ps} (h : Lp H a ps) (s : But d H H') (n : a ≠ d) (hd : Dr H d) : Lp H' a ps :=
  let ⟨vs, e, q⟩ := h
  let ⟨_, _, ed⟩ := hd
  ⟨vs, s _ _ e n, q.keep (s.tups ed)⟩
theorem strs_at {xs : List Str} {r : Nat} (h : r < xs.length) : (xs.map V.str)[r]? = some (V.str xs[r]) := by rw [List.getElem?_map, List.getElem?_eq_getElem h]; rfl
end Hw
namespace Hw
open PySem L2
section
variable {C : Addr} {H H' : Hp} {tl pq q0 q1 hq du u0 u1 sl sa sb : Addr} {xs : List Str} {ps0 t0 t1 : Ps} {h0 h1 : Int}
end
theorem paired_snoc {α β : Type} {F : α → β → Prop} : ∀ {xs : List α} {ys : List β} {a : α} {b : β}, Paired F xs ys → F a b → Paired F (xs ++ [a]) (ys ++ [b])
  | _, _, _, _, .nil, h => .cons h .nil
  | _, _, _, _, .cons r t, h => .cons r (paired_snoc t h)
theorem e8 : (10 : Int) ^ Int.toNat 8 = 100000000 := by decide
theorem Gat.keys {ps ts : Ps} (g : Gat ps ts) {t : Str} (h : t ∈ keys ts) : t ∈ keys ps := by
  obtain ⟨p, hp, rfl⟩ := List.mem_map.mp h
  have e : lin ts (ind p.1) = p.2 := by
    have up := g.1.up
    have nz := g.1.nz
    clear g h
    induction ts with
    | nil => cases hp
    | cons q r ih =>
      rcases List.mem_cons.mp hp with z | z
      · subst z
        exact Canon.head ⟨up, nz⟩
      · have l : lt q.1 p.1 = true := (List.pairwise_cons.mp up).1 p z
        rw [lin, ih z (List.pairwise_cons.mp up).2 fun s hs => nz s (List.mem_cons_of_mem _ hs)]
        simp [ind, lt_ne l]
  refine Classical.byContradiction fun n => ?_
  have z : lin ps (ind p.1) = 0 := lin_none fun q hq e' => n (by rw [← e']; exact List.mem_map.mpr ⟨q, hq, rfl⟩)
  rw [g.2] at e
  rw [z] at e
  exact g.1.nz p hp e.symm
end Hw
namespace Hw
open PySem L2
def Small (i : Int) : Prop := -(2 ^ 60) < i ∧ i < 2 ^ 60
theorem Small.w {i : Int} (h : Small i) : -(2 ^ 64) < i ∧ i < 2 ^ 64 := ⟨by have := h.1; omega, by have := h.2; omega⟩
end Hw
namespace Hw
open PySem L2
theorem paired_at {α β : Type} {F : α → β → Prop} : ∀ {vs : List α} {ps : List β}, Paired F vs ps → ∀ {i : Nat} {v : α}, vs[i]? = some v → ∃ p, ps[i]? = some p ∧ F v p
  | _, _, .nil, _, _, e => by simp at e
  | _, _, .cons r t, 0, _, e => by simp at e; subst e; exact ⟨_, rfl, r⟩
  | _, _, .cons r t, i + 1, _, e => paired_at t (i := i) (by simpa using e)
end Hw
namespace Hw
open PySem L2
abbrev Sb := List (Str × Ps × Int)
theorem for_tpT {K : PySem.W.Frag} {a : Addr} {ps : Ps} {g : TG} {tb : TS} {D : Ends} {σ : St} {H : Hp} (h : Tp H a ps) (Pv : Nat → St → Hp → Prop) (h0 : Pv 0 σ H) (hS : ∀ i σ H', Pv i σ H' → ∀ b xs, H b = some (.tup xs) → H' b = some (.tup xs))
    (hs : ∀ i v p σ H', ps[i]? = some p → Pr H' v p → Pv i σ H' → g v σ H' fun σ2 H2 => tb { D with nx := Pv (i + 1), ct := Pv (i + 1), bk := D.nx } σ2 H2) (hd : ∀ σ H', Pv ps.length σ H' → D.nx σ H') :
    (∃ xs, SqT K H a xs) ∧ ForW (Itt K a) g tb D σ H := by
  obtain ⟨vs, e, r⟩ := h
  refine ⟨⟨vs, SqT.of e⟩, for_tup (xs := vs) Pv h0 (fun i σ H' _ p => SqT.of (hS i σ H' p _ _ e)) (fun i v σ H' hi p => ?_) ?_⟩
  · obtain ⟨q, hq, pr⟩ := get_some r hi
    exact hs i v q σ H' hq (pr.keep (hS i σ H' p)) p
  · rw [prs_len r]; exact hd
def Lt3 (ts : Ps) : Prop := ts.length ≤ 3 ∧ ∀ p ∈ ts, Small p.2
def spTold (C : Addr) : Sp := fun vs H Q _ => ∃ (p : Addr) (ts : Ps) (n : Int), vs = [.ref p] ∧ SumAt C H p ts n ∧ ∀ (r : Addr) (H' : Hp), Same H H' → DueAt H' r ts n → Q (.ref r) H'
def spLVal : Sp := fun vs H Q _ => ∃ (p d : Addr) (ts ns : Ps) (n : Int), vs = [.ref p, .ref d] ∧ DueAt H p ts n ∧ H d = some (.dK (enc ns)) ∧ Lt3 ts ∧ (∀ p ∈ ts, p.1 ∈ keys ns) ∧ ∀ H', Same H H' → Q (.int (n + lin ts (get ns))) H'
end Hw
namespace Hw
open PySem L2
structure Soft (o : HO) : Prop where
  t : ∀ xs, o ≠ .tup xs
  i : ∀ C dx fs, o ≠ .ins C dx fs
theorem soft_l {xs : List V} : Soft (.lst xs) := ⟨fun _ z => (by cases z), fun _ _ _ z => (by cases z)⟩
theorem soft_d {xs : List (Key × V)} : Soft (.dK xs) := ⟨fun _ z => (by cases z), fun _ _ _ z => (by cases z)⟩
section
variable {H H' : Hp} {z : Addr} {o : HO}
theorem But.tupS (b : But z H H') (hz : H z = some o) (so : Soft o) : ∀ a xs, H a = some (.tup xs) → H' a = some (.tup xs) := fun a xs e => b a _ e fun q => by rw [q, hz] at e; exact so.t xs (Option.some.inj e)
end
section
variable {H0 H H' : Hp} {d tl ro : Addr} {xs : List Str} {t0 : Ps} {n0 : Int}
end
theorem get_app (t : Str) (n : Int) (t' : Str) : ∀ e : Ps, get (e ++ [(t, n)]) t' = if t' ∈ keys e then get e t' else if t = t' then n else 0
  | [] => by
    rw [if_neg (by simp [keys])]
    show get [(t, n)] t' = _
    rw [get_cons]
    rfl
  | p :: r => by
    have ih := get_app t n t' r
    have mk : t' ∈ keys (p :: r) ↔ t' = p.1 ∨ t' ∈ keys r := by unfold keys; rw [List.map_cons, List.mem_cons]
    rw [List.cons_append, get_cons, get_cons, ih]
    by_cases z : p.1 = t'
    · have : t' ∈ keys (p :: r) := mk.mpr (.inl z.symm)
      simp only [z, if_true, this]
    · by_cases m : t' ∈ keys r
      · have : t' ∈ keys (p :: r) := mk.mpr (.inr m)
        simp only [z, if_false, m, if_true, this]
      · have : ¬ t' ∈ keys (p :: r) := fun w => (mk.mp w).elim (fun y => z y.symm) m
        simp only [z, if_false, m, this]
theorem get_put (e : Ps) (t t' : Str) (n : Int) : get (put e t n) t' = if t = t' then n else get e t' := by
  unfold put
  by_cases h : (e.any fun p => decide (p.1 = t)) = true
  · rw [if_pos h]
    by_cases q : t = t'
    · rw [if_pos q]
      subst q
      have m : t ∈ keys e := (any_iff e t).mp h
      clear h
      induction e with
      | nil => simp [keys] at m
      | cons p r ih =>
        rw [List.map_cons, get_cons]
        by_cases z : p.1 = t
        · simp only [z, if_true]
        · simp only [z, if_false]
          exact ih ((List.mem_cons.mp m).resolve_left fun w => z w.symm)
    · rw [if_neg q]
      clear h
      induction e with
      | nil => rfl
      | cons p r ih =>
        rw [List.map_cons, get_cons, get_cons, ih]
        by_cases z : p.1 = t
        · have z' : ¬ p.1 = t' := fun w => q (z.symm.trans w)
          rw [if_pos z]
          show (if p.1 = t' then n else get r t') = _
          rw [if_neg z', if_neg z']
        · rw [if_neg z]
  · rw [if_neg h, get_app]
    have nm : t ∉ keys e := fun m => h ((any_iff e t).mpr m)
    by_cases q : t = t'
    · subst q
      rw [if_neg nm, if_pos rfl, if_pos rfl]
    · by_cases m : t' ∈ keys e
      · rw [if_pos m, if_neg q]
      · rw [if_neg m, if_neg q, if_neg q, get_no m]
end Hw
namespace Hw
open PySem L2
inductive Cd where
  | cmp (a : Ps) (n : Int) (s : Str) (b : Ps) (m : Int)
  | neg (c : Cd)
  | con (k : Bool) (cs : List Cd)
mutual
def Cd.dep : Cd → Nat
  | .cmp .. => 1
  | .neg c => c.dep + 1
  | .con _ cs => depL cs + 1
def depL : List Cd → Nat
  | [] => 0
  | c :: cs => max c.dep (depL cs)
end
theorem dep_mem {c : Cd} : ∀ {cs : List Cd}, c ∈ cs → c.dep ≤ depL cs
  | a :: r, h => by
    unfold depL
    rcases List.mem_cons.mp h with e | e
    · rw [e]; exact Nat.le_max_left _ _
    · exact Nat.le_trans (dep_mem e) (Nat.le_max_right _ _)
theorem dep_pos (c : Cd) : 1 ≤ c.dep := by cases c <;> simp [Cd.dep]
def opW (k : Bool) : Str := if k then "and" else "or"
mutual
def ToldAt (H : Hp) : Cd → V → Prop
  | .cmp a n s b m, v => ∃ r u w, v = .ref r ∧ H r = some (.tup [.str "compare", .ref u, .str s, .ref w]) ∧ DueAt H u a n ∧ DueAt H w b m
  | .neg c, v => ∃ r u, v = .ref r ∧ H r = some (.tup [.str "not", u]) ∧ ToldAt H c u
  | .con k cs, v => ∃ r us, v = .ref r ∧ H r = some (.tup (.str (opW k) :: us)) ∧ ToldsAt H cs us
def ToldsAt (H : Hp) : List Cd → List V → Prop
  | [], us => us = []
  | c :: cs, us => ∃ u r, us = u :: r ∧ ToldAt H c u ∧ ToldsAt H cs r
end
structure Cz where
  s : Addr
  c : Addr
  t : Addr
  e : Addr
  o : Addr
def cflds (u : Addr) (s : Str) (w : Addr) : List (Str × V) := putF "other" (.ref w) (putF "sign" (.str s) (putF "one" (.ref u) []))
def tflds (u : V) : List (Str × V) := putF "condition" u []
def vflds (t : Addr) : List (Str × V) := putF "conditions" (.ref t) []
mutual
def CondAt (Z : Cz) (H : Hp) : Cd → V → Prop
  | .cmp a n s b m, v => ∃ p dx u w, v = .ref p ∧ H p = some (.ins Z.c dx (cflds u s w)) ∧ SumAt Z.s H u a n ∧ SumAt Z.s H w b m
  | .neg c, v => ∃ p dx u, v = .ref p ∧ H p = some (.ins Z.t dx (tflds u)) ∧ CondAt Z H c u
  | .con k cs, v => ∃ p dx t us, v = .ref p ∧ H p = some (.ins (if k then Z.e else Z.o) dx (vflds t)) ∧ H t = some (.tup us) ∧ us.length ≤ 1000 ∧ CondsAt Z H cs us
def CondsAt (Z : Cz) (H : Hp) : List Cd → List V → Prop
  | [], us => us = []
  | c :: cs, us => ∃ u r, us = u :: r ∧ CondAt Z H c u ∧ CondsAt Z H cs r
end
structure Hard (H H' : Hp) : Prop where
  t : ∀ a xs, H a = some (.tup xs) → H' a = some (.tup xs)
  i : ∀ a C dx fs, H a = some (.ins C dx fs) → H' a = some (.ins C dx fs)
theorem Hard.of {H H' : Hp} (s : Same H H') : Hard H H' := ⟨fun _ _ e => s _ _ e, fun _ _ _ _ e => s _ _ e⟩
theorem Hard.soft {H H' : Hp} {z : Addr} {o : HO} (b : But z H H') (hz : H z = some o) (so : Soft o) : Hard H H' :=
  ⟨b.tupS hz so, fun a C dx fs e => b _ _ e fun q => by rw [q, hz] at e; exact so.i _ _ _ (Option.some.inj e)⟩
theorem DueAt.hard {H H' : Hp} {r : Addr} {ts : Ps} {n : Int} (h : DueAt H r ts n) (k : Hard H H') : DueAt H' r ts n := let ⟨t, e, vs, et, r⟩ := h; ⟨t, k.t _ _ e, vs, k.t _ _ et, r.keep k.t⟩
theorem SumAt.hard {H H' : Hp} {C p : Addr} {ts : Ps} {n : Int} (h : SumAt C H p ts n) (k : Hard H H') : SumAt C H' p ts n := let ⟨dx, t, e, ⟨vs, et, r⟩, l⟩ := h; ⟨dx, t, k.i _ _ _ _ e, ⟨vs, k.t _ _ et, r.keep k.t⟩, l⟩
mutual
theorem ToldAt.hard {H H' : Hp} (k : Hard H H') : ∀ {c : Cd} {v : V}, ToldAt H c v → ToldAt H' c v
  | .cmp a n s b m, v, h => by
    unfold ToldAt at h ⊢
    obtain ⟨r, u, w, e, er, d1, d2⟩ := h
    exact ⟨r, u, w, e, k.t _ _ er, d1.hard k, d2.hard k⟩
  | .neg c, v, h => by
    unfold ToldAt at h ⊢
    obtain ⟨r, u, e, er, d⟩ := h
    exact ⟨r, u, e, k.t _ _ er, ToldAt.hard k d⟩
  | .con b cs, v, h => by
    unfold ToldAt at h ⊢
    obtain ⟨r, us, e, er, d⟩ := h
    exact ⟨r, us, e, k.t _ _ er, ToldsAt.hard k d⟩
theorem ToldsAt.hard {H H' : Hp} (k : Hard H H') : ∀ {cs : List Cd} {us : List V}, ToldsAt H cs us → ToldsAt H' cs us
  | [], us, h => by unfold ToldsAt at h ⊢; exact h
  | c :: cs, us, h => by
    unfold ToldsAt at h ⊢
    obtain ⟨u, r, e, d1, d2⟩ := h
    exact ⟨u, r, e, ToldAt.hard k d1, ToldsAt.hard k d2⟩
end
mutual
theorem CondAt.hard {Z : Cz} {H H' : Hp} (k : Hard H H') : ∀ {c : Cd} {v : V}, CondAt Z H c v → CondAt Z H' c v
  | .cmp a n s b m, v, h => by
    unfold CondAt at h ⊢
    obtain ⟨p, dx, u, w, e, ep, d1, d2⟩ := h
    exact ⟨p, dx, u, w, e, k.i _ _ _ _ ep, d1.hard k, d2.hard k⟩
  | .neg c, v, h => by
    unfold CondAt at h ⊢
    obtain ⟨p, dx, u, e, ep, d⟩ := h
    exact ⟨p, dx, u, e, k.i _ _ _ _ ep, CondAt.hard k d⟩
  | .con b cs, v, h => by
    unfold CondAt at h ⊢
    obtain ⟨p, dx, t, us, e, ep, et, l, d⟩ := h
    exact ⟨p, dx, t, us, e, k.i _ _ _ _ ep, k.t _ _ et, l, CondsAt.hard k d⟩
theorem CondsAt.hard {Z : Cz} {H H' : Hp} (k : Hard H H') : ∀ {cs : List Cd} {us : List V}, CondsAt Z H cs us → CondsAt Z H' cs us
  | [], us, h => by unfold CondsAt at h ⊢; exact h
  | c :: cs, us, h => by
    unfold CondsAt at h ⊢
    obtain ⟨u, r, e, d1, d2⟩ := h
    exact ⟨u, r, e, CondAt.hard k d1, CondsAt.hard k d2⟩
end
theorem tolds_paired {H : Hp} : ∀ {cs : List Cd} {us : List V}, ToldsAt H cs us ↔ Paired (fun u c => ToldAt H c u) us cs
  | [], us => by
    unfold ToldsAt
    exact ⟨fun e => e ▸ .nil, fun h => by cases h; rfl⟩
  | c :: cs, us => by
    unfold ToldsAt
    constructor
    · rintro ⟨u, r, rfl, d1, d2⟩
      exact .cons d1 (tolds_paired.mp d2)
    · intro h
      cases h with
      | cons d1 d2 => exact ⟨_, _, rfl, d1, tolds_paired.mpr d2⟩
theorem conds_paired {Z : Cz} {H : Hp} : ∀ {cs : List Cd} {us : List V}, CondsAt Z H cs us ↔ Paired (fun u c => CondAt Z H c u) us cs
  | [], us => by
    unfold CondsAt
    exact ⟨fun e => e ▸ .nil, fun h => by cases h; rfl⟩
  | c :: cs, us => by
    unfold CondsAt
    constructor
    · rintro ⟨u, r, rfl, d1, d2⟩
      exact .cons d1 (conds_paired.mp d2)
    · intro h
      cases h with
      | cons d1 d2 => exact ⟨_, _, rfl, d1, conds_paired.mpr d2⟩
def cmpB (s : Str) (x y : Int) : Bool :=
  if s = "<" then decide (x < y) else if s = "<=" then decide (x ≤ y) else if s = "=" then decide (x = y) else if s = "!=" then !decide (x = y) else if s = ">=" then decide (y ≤ x) else decide (y < x)
def signs : List Str := ["<", "<=", "=", "!=", ">=", ">"]
mutual
def Cd.holds (f : Str → Int) : Cd → Bool
  | .cmp a n s b m => cmpB s (n + lin a f) (m + lin b f)
  | .neg c => !c.holds f
  | .con k cs => if k then holdsA f cs else holdsO f cs
def holdsA (f : Str → Int) : List Cd → Bool
  | [] => true
  | c :: cs => c.holds f && holdsA f cs
def holdsO (f : Str → Int) : List Cd → Bool
  | [] => false
  | c :: cs => c.holds f || holdsO f cs
end
mutual
def Cd.ok : Cd → Prop
  | .cmp a n s b m => s ∈ signs
  | .neg c => c.ok
  | .con _ cs => okL cs
def okL : List Cd → Prop
  | [] => True
  | c :: cs => c.ok ∧ okL cs
end
mutual
def cdIn (xs : List Str) : Cd → Prop
  | .cmp a n s b m => (∀ p ∈ a, p.1 ∈ xs) ∧ ∀ p ∈ b, p.1 ∈ xs
  | .neg c => cdIn xs c
  | .con _ cs => cdsIn xs cs
def cdsIn (xs : List Str) : List Cd → Prop
  | [] => True
  | c :: cs => cdIn xs c ∧ cdsIn xs cs
end
end Hw
namespace Hw
open PySem L2
def shp : Cd → Nat
  | .cmp .. => 0
  | .neg _ => 1
  | .con true _ => 2
  | .con false _ => 3
def clsOf (Z : Cz) : Nat → Addr
  | 0 => Z.c
  | 1 => Z.t
  | 2 => Z.e
  | _ => Z.o
structure Txz (K : PySem.W.Frag) (mg : Str → Option Value) (Z : Cz) : Prop where
  cl : ∀ j, j < 4 → Cls K (clsOf Z j)
  n1 : NoAttr K Z.c "one"
  n2 : NoAttr K Z.c "sign"
  n3 : NoAttr K Z.c "other"
  n4 : NoAttr K Z.t "condition"
  n5 : NoAttr K Z.e "conditions"
  n6 : NoAttr K Z.o "conditions"
  mgC : mg "Compare" = some (.ref Z.c)
  mgT : mg "Turned" = some (.ref Z.t)
  mgE : mg "Every" = some (.ref Z.e)
  mgO : mg "Some" = some (.ref Z.o)
  all : mg "all" = none
  any : mg "any" = none
theorem lk_c1 (u : Addr) (s : Str) (w : Addr) : (cflds u s w).lookup ("one" : Str) = some (.ref u) := by
  unfold cflds; rw [lookup_putF, if_neg (by decide +kernel), lookup_putF, if_neg (by decide +kernel), lookup_putF, if_pos rfl]
theorem lk_c2 (u : Addr) (s : Str) (w : Addr) : (cflds u s w).lookup ("sign" : Str) = some (.str s) := by
  unfold cflds; rw [lookup_putF, if_neg (by decide +kernel), lookup_putF, if_pos rfl]
theorem lk_c3 (u : Addr) (s : Str) (w : Addr) : (cflds u s w).lookup ("other" : Str) = some (.ref w) := by
  unfold cflds; rw [lookup_putF, if_pos rfl]
theorem lk_t (u : V) : (tflds u).lookup ("condition" : Str) = some u := by unfold tflds; rw [lookup_putF, if_pos rfl]
theorem lk_v (t : Addr) : (vflds t).lookup ("conditions" : Str) = some (.ref t) := by unfold vflds; rw [lookup_putF, if_pos rfl]
structure NoF (m : Str) : Prop where
  a : ¬ m = "one"
  b : ¬ m = "sign"
  c : ¬ m = "other"
  d : ¬ m = "condition"
  e : ¬ m = "conditions"
theorem cond_ins {Z : Cz} {H : Hp} {c : Cd} {p : Addr} (h : CondAt Z H c (.ref p)) {m : Str} (nf : NoF m) : ∃ dx fs, H p = some (.ins (clsOf Z (shp c)) dx fs) ∧ fs.lookup m = none := by
  cases c with
  | cmp a n s b m' =>
    unfold CondAt at h
    obtain ⟨q, dx, u, w, e, ep, _⟩ := h
    cases e
    refine ⟨dx, _, ep, ?_⟩
    unfold cflds
    rw [lookup_putF, if_neg nf.c, lookup_putF, if_neg nf.b, lookup_putF, if_neg nf.a]
    rfl
  | neg c =>
    unfold CondAt at h
    obtain ⟨q, dx, u, e, ep, _⟩ := h
    cases e
    refine ⟨dx, _, ep, ?_⟩
    unfold tflds
    rw [lookup_putF, if_neg nf.d]
    rfl
  | con k cs =>
    unfold CondAt at h
    obtain ⟨q, dx, t, us, e, ep, _⟩ := h
    cases e
    cases k <;> exact ⟨dx, _, ep, by unfold vflds; rw [lookup_putF, if_neg nf.e]; rfl⟩
theorem shp_lt (c : Cd) : shp c < 4 := by
  cases c with
  | cmp => show 0 < 4; decide
  | neg => show 1 < 4; decide
  | con k cs => cases k <;> (first | (show 2 < 4; decide) | (show 3 < 4; decide))
def M4 (P : Program) (w : World) (K : PySem.W.Frag) (mg : Str → Option Value) (base : Heap) (k : Nat) (Z : Cz) (m : Str) (ps : List Str) (sp : Nat → Sp) : Prop := ∀ j, j < 4 → Mt P w K mg base k (clsOf Z j) m ps (sp j)
end Hw
namespace L2
open PySem PySem.Spec PyProof.Rows Hw
section
variable {X : Cx} {k : Nat} {m : Str} {pos apos : Pos} {o e : Expr} {es : List Expr} {ta : TE} {t : TA} {Z : Cz} {ps : List Str} {sp : Nat → Sp}
def tCm0 (Z : Cz) (sp : Nat → Sp) (ta : TE) : TE := fun σ H Q => ta σ H fun x H1 => ∃ p c, x = .ref p ∧ CondAt Z H1 c (.ref p) ∧ sp (shp c) [.ref p] H1 Q E0
def tCm (Z : Cz) (sp : Nat → Sp) (ta : TE) (t : TA) : TE := fun σ H Q => ta σ H fun x H1 => ∃ p c, x = .ref p ∧ CondAt Z H1 c (.ref p) ∧ t σ H1 fun vs H2 => sp (shp c) (.ref p :: (vs ++ [])) H2 Q E0
theorem pe_cm0 {pl : Sem Bool} (he : PE X o ta) (cl : ∀ j, j < 4 → Cls X.K (clsOf Z j)) (nf : NoF m) (M : M4 X.prog X.w X.K X.mg X.base k Z m ps sp) (hr : Room k X.A) (hx : Passes CX0 X E0)
    (ht : eval (.Call (.Attribute o m apos) [] [] pos) X.env = (do
      let ov ← eval o X.env
      standAt apos.atName
      let (f, first) ← holding [ov] (getMethod ov m pl)
      callWith pos f first (backTo pos (starEach [] X.env)) (backToKw pos (keywordEach [] X.env))) := by rfl) :
    PE X (.Call (.Attribute o m apos) [] [] pos) (tCm0 Z sp ta) := by
  intro pins s σ H Q I h
  refine PySem.W.methodCall_KW (pl := pl) (thn (he pins s σ H _ I h) fun u s1 ⟨x, H1, I1, rx, a, c, ex, hc, q⟩ => ?_) ht
  subst ex
  obtain rfl : u = Value.ref a := rx
  obtain ⟨dx, fs, ea, l⟩ := cond_ins hc nf
  obtain ⟨f, fd, F, hm, hb⟩ := M (shp c) (shp_lt c)
  refine getmeth_ok I1 ea (cl _ (shp_lt c)) hm l ?_
  exact PySem.W.callWith_K0 (first := [.ref a]) I1.kIn hm.kp (run_fn (us := [.ref a]) (vs := [.ref a]) F hr hb .nil hx I1 (.cons rfl .nil) q)
theorem pe_cm {pl : Sem Bool} (he : PE X o ta) (cl : ∀ j, j < 4 → Cls X.K (clsOf Z j)) (nf : NoF m) (M : M4 X.prog X.w X.K X.mg X.base k Z m ps sp) (hr : Room k X.A) (hx : Passes CX0 X E0) (ha : PA X (e :: es) t)
    (hst : starEach (e :: es) X.env = (false, eval e X.env) :: starEach es X.env := by rfl) (hpl : (backTo pos (starEach es X.env)).any (·.1) = false := by rfl)
    (ht : eval (.Call (.Attribute o m apos) (e :: es) [] pos) X.env = (do
      let ov ← eval o X.env
      standAt apos.atName
      let (f, first) ← holding [ov] (getMethod ov m pl)
      callWith pos f first (backTo pos (starEach (e :: es) X.env)) (backToKw pos (keywordEach [] X.env))) := by rfl) :
    PE X (.Call (.Attribute o m apos) (e :: es) [] pos) (tCm Z sp ta t) := by
  intro pins s σ H Q I h
  refine PySem.W.methodCall_KW (pl := pl) (thn (he pins s σ H _ I h) fun u s1 ⟨x, H1, I1, rx, a, c, ex, hc, q⟩ => ?_) ht
  subst ex
  obtain rfl : u = Value.ref a := rx
  obtain ⟨dx, fs, ea, l⟩ := cond_ins hc nf
  obtain ⟨f, fd, F, hm, hb⟩ := M (shp c) (shp_lt c)
  refine getmeth_ok I1 ea (cl _ (shp_lt c)) hm l ?_
  refine PySem.W.callWith_K (first := [.ref a]) (h₀ := X.base) I.ok.mod.kin hm.kp (thn (ha pos pins s1 σ H1 _ I1 q) fun us s2 ⟨vs, H2, I2, r, q2⟩ => ⟨I2.kIn, ?_⟩) hst hpl
  exact run_fn (us := .ref a :: us) (vs := .ref a :: vs) F hr hb .nil hx I2 (.cons rfl r) q2
end
end L2
namespace Hw
open PySem L2
theorem fn_absurd {P : Program} {w : World} {K : PySem.W.Frag} {mg : Str → Option Value} {base : Heap} {k : Nat} {f : Addr} {fd : FuncData} {ps : List Str} {sp : Sp} (h : ∀ vs H Q E, ¬ sp vs H Q E) : FnOk P w K mg base CX0 k f fd ps sp :=
  ⟨fun vs H Q E z => (h vs H Q E z).elim, fun A outer s H args us vs Q E _ _ _ _ z => (h vs H Q E z).elim⟩
def spCInit (Z : Cz) : Sp := fun vs H Q _ => ∃ (p dx u w : Addr) (s : Str), vs = [.ref p, .ref u, .str s, .ref w] ∧ H p = some (.ins Z.c dx []) ∧ ∀ H', But p H H' → H' p = some (.ins Z.c dx (cflds u s w)) → Q .non H'
def spTInit (Z : Cz) : Sp := fun vs H Q _ => ∃ (p dx : Addr) (u : V), vs = [.ref p, u] ∧ H p = some (.ins Z.t dx []) ∧ ∀ H', But p H H' → H' p = some (.ins Z.t dx (tflds u)) → Q .non H'
def spCTold (Z : Cz) (n : Nat) : Nat → Sp := fun j vs H Q _ => ∃ (p : Addr) (c : Cd), vs = [.ref p] ∧ shp c = j ∧ CondAt Z H c (.ref p) ∧ c.dep ≤ n ∧ ∀ (v : V) (H' : Hp), Same H H' → ToldAt H' c v → Q v H'
def spCHolds (Z : Cz) (n : Nat) : Nat → Sp := fun j vs H Q _ => ∃ (p d : Addr) (c : Cd) (ns : Ps), vs = [.ref p, .ref d] ∧ shp c = j ∧ CondAt Z H c (.ref p) ∧ c.dep ≤ n ∧ c.ok ∧ Nums H d ns ∧ cdIn (keys ns) c ∧ ∀ H', Same H H' → Q (.bl (c.holds (get ns))) H'
end Hw
namespace Hw
open PySem L2
theorem nf_told : NoF "told" := ⟨by decide +kernel, by decide +kernel, by decide +kernel, by decide +kernel, by decide +kernel⟩
theorem nf_holds : NoF "holds" := ⟨by decide +kernel, by decide +kernel, by decide +kernel, by decide +kernel, by decide +kernel⟩
theorem cond_ref {Z : Cz} {H : Hp} {c : Cd} {v : V} (h : CondAt Z H c v) : ∃ p, v = .ref p := by
  cases c <;> (unfold CondAt at h; obtain ⟨p, h⟩ := h)
  · obtain ⟨_, _, _, e, _⟩ := h; exact ⟨p, e⟩
  · obtain ⟨_, _, e, _⟩ := h; exact ⟨p, e⟩
  · obtain ⟨_, _, _, e, _⟩ := h; exact ⟨p, e⟩
theorem paired_len {α β : Type} {R : α → β → Prop} : ∀ {xs : List α} {ys : List β}, Paired R xs ys → xs.length = ys.length
  | _, _, .nil => rfl
  | _, _, .cons _ t => congrArg (· + 1) (paired_len t)
end Hw
namespace L2
open PySem PySem.Spec PyProof.Rows Hw
section
variable {X : Cx} {K : PySem.W.Frag}
theorem call_all (hc : X.calm = true) : CallR X (.builtin "all") (fun xs H Q => ∃ (p : Addr) (bs : List Bool), xs = [.ref p] ∧ SqL X.K H p (bs.map V.bl) ∧ Q (.bl (bs.all id)) H) := by
  intro pins s σ H xs us Q I r h
  obtain ⟨p, bs, rfl, hq, q⟩ := h
  obtain ⟨u, rfl, ru⟩ := vals1 r
  cases ru
  obtain ⟨its, rv, pl, hz⟩ := I.list hq
  have lp : p < s.heap.objs.size := let ⟨o, _, e, _⟩ := pl; Heap.lt_size e
  have hl := rv.length
  rw [List.length_map] at hl
  refine call_all_walk (wpAny_pyIter_list pl.isList ?_)
  have W := Walks.list (prog := X.prog) (w := X.w) (A := X.A.in1) (I.ok.hd hc) s.heap.objs.size p (Nat.ne_of_lt lp) its.toArray
  refine ⟨s.heap.objs.size, _, _, _, _, _, (fun i => (bs[i]?).getD true), rfl, W, ⟨⟨_, Heap.get?_push_size _ rfl, rfl, rfl⟩, pl.isList.at fun o e => Heap.get?_push_of_some _ e⟩, fun i v s' Q' E' hv hQ => ?_, fun h' tk hk => ?_⟩
  · have hv : its.toArray[i]? = some v := hv
    have hv : its[i]? = some v := by simpa using hv
    have hil : i < its.length := (List.getElem?_eq_some_iff.mp hv).1
    obtain ⟨u, hu, ru⟩ := rv.get (i := i) (x := .bl ((bs[i]?).getD true)) (by rw [List.getElem?_map, List.getElem?_eq_getElem (by omega)]; rfl)
    rw [hv] at hu
    cases hu
    cases ru
    exact wpAny_truthy_bool hQ
  · have kp : ∀ b o, s.heap.get? b = some o → h'.get? b = some o := fun b o e =>
      hk b o (fun hI => absurd (Heap.lt_size e) (by rw [List.mem_singleton.mp hI]; exact Nat.lt_irrefl _)) (Heap.get?_push_of_some _ e)
    have e : ((List.range its.toArray.size).all fun i => (bs[i]?).getD true) = bs.all id := by rw [List.size_toArray, ← hl]; exact LSm.range_all bs
    rw [e]
    exact ⟨.bl (bs.all id), H, I.kept (t' := tk) kp, rfl, q⟩
theorem call_any (hc : X.calm = true) : CallR X (.builtin "any") (fun xs H Q => ∃ (p : Addr) (bs : List Bool), xs = [.ref p] ∧ SqL X.K H p (bs.map V.bl) ∧ Q (.bl (bs.any id)) H) := by
  intro pins s σ H xs us Q I r h
  obtain ⟨p, bs, rfl, hq, q⟩ := h
  obtain ⟨u, rfl, ru⟩ := vals1 r
  cases ru
  obtain ⟨its, rv, pl, hz⟩ := I.list hq
  have lp : p < s.heap.objs.size := let ⟨o, _, e, _⟩ := pl; Heap.lt_size e
  have hl := rv.length
  rw [List.length_map] at hl
  refine call_any_walk (wpAny_pyIter_list pl.isList ?_)
  have W := Walks.list (prog := X.prog) (w := X.w) (A := X.A.in1) (I.ok.hd hc) s.heap.objs.size p (Nat.ne_of_lt lp) its.toArray
  refine ⟨s.heap.objs.size, _, _, _, _, _, (fun i => (bs[i]?).getD false), rfl, W, ⟨⟨_, Heap.get?_push_size _ rfl, rfl, rfl⟩, pl.isList.at fun o e => Heap.get?_push_of_some _ e⟩, fun i v s' Q' E' hv hQ => ?_, fun h' tk hk => ?_⟩
  · have hv : its.toArray[i]? = some v := hv
    have hv : its[i]? = some v := by simpa using hv
    have hil : i < its.length := (List.getElem?_eq_some_iff.mp hv).1
    obtain ⟨u, hu, ru⟩ := rv.get (i := i) (x := .bl ((bs[i]?).getD false)) (by rw [List.getElem?_map, List.getElem?_eq_getElem (by omega)]; rfl)
    rw [hv] at hu
    cases hu
    cases ru
    exact wpAny_truthy_bool hQ
  · have kp : ∀ b o, s.heap.get? b = some o → h'.get? b = some o := fun b o e =>
      hk b o (fun hI => absurd (Heap.lt_size e) (by rw [List.mem_singleton.mp hI]; exact Nat.lt_irrefl _)) (Heap.get?_push_of_some _ e)
    have e : ((List.range its.toArray.size).any fun i => (bs[i]?).getD false) = bs.any id := by rw [List.size_toArray, ← hl]; exact LSm.range_any bs
    rw [e]
    exact ⟨.bl (bs.any id), H, I.kept (t' := tk) kp, rfl, q⟩
end
end L2
namespace Hw
open PySem L2
theorem iteDT {p : Prop} [Decidable p] {F G : Prop} (h : p) (f : F) : if decide p = true then F else G := by rw [if_pos (decide_eq_true h)]; exact f
theorem iteDF {p : Prop} [Decidable p] {F G : Prop} (h : ¬ p) (f : G) : if decide p = true then F else G := by rw [if_neg (by simpa using h)]; exact f
theorem str_ne {s t : Str} (h : ¬ s = t) : ¬ V.str s = V.str t := fun e => h (V.str.inj e)
theorem dec_i {i j : Int} : decide (V.int i = V.int j) = decide (i = j) := by
  by_cases h : i = j
  · subst h; simp
  · rw [decide_eq_false h, decide_eq_false fun e => h (V.int.inj e)]
theorem holdsA_all (f : Str → Int) : ∀ cs : List Cd, holdsA f cs = (cs.map (Cd.holds f)).all id
  | [] => by unfold holdsA; rfl
  | c :: cs => by unfold holdsA; rw [holdsA_all f cs]; rfl
theorem holdsO_any (f : Str → Int) : ∀ cs : List Cd, holdsO f cs = (cs.map (Cd.holds f)).any id
  | [] => by unfold holdsO; rfl
  | c :: cs => by unfold holdsO; rw [holdsO_any f cs]; rfl
theorem okL_mem {c : Cd} : ∀ {cs : List Cd}, okL cs → c ∈ cs → c.ok
  | a :: r, h, m => by
    unfold okL at h
    rcases List.mem_cons.mp m with e | e
    · rw [e]; exact h.1
    · exact okL_mem h.2 e
theorem cdsIn_mem {xs : List Str} {c : Cd} : ∀ {cs : List Cd}, cdsIn xs cs → c ∈ cs → cdIn xs c
  | a :: r, h, m => by
    unfold cdsIn at h
    rcases List.mem_cons.mp m with e | e
    · rw [e]; exact h.1
    · exact cdsIn_mem h.2 e
def spCompares : Sp := fun vs H Q _ => ∃ (x y : Int) (s : Str), vs = [.int x, .str s, .int y] ∧ Q (.bl (cmpB s x y)) H
end Hw
namespace Hw
open PySem L2
theorem made_same {H : Hp} {x dx : Addr} {o o' : HO} (hx : H x = none) (hdx : H dx = none) : Same H (upd (upd H dx o) x o') := fun b u z => by
  rw [upd_ne (ne_of_none z hx), upd_ne (ne_of_none z hdx)]
  exact z
end Hw
namespace Hw
open PySem L2
def Gs (xs : List Str) (a : Ps) (n : Int) : Prop := Canon a ∧ Lt3 a ∧ (∀ p ∈ a, p.1 ∈ xs) ∧ Small n
mutual
def Gd (xs : List Str) : Cd → Prop
  | .cmp a n s b m => Gs xs a n ∧ s ∈ signs ∧ Gs xs b m
  | .neg c => Gd xs c
  | .con _ cs => cs.length ≤ 3 ∧ GdL xs cs
def GdL (xs : List Str) : List Cd → Prop
  | [] => True
  | c :: cs => Gd xs c ∧ GdL xs cs
end
mutual
theorem Gd.in_ {xs : List Str} : ∀ {c : Cd}, Gd xs c → cdIn xs c
  | .cmp a n s b m, h => by unfold Gd at h; unfold cdIn; exact ⟨h.1.2.2.1, h.2.2.2.2.1⟩
  | .neg c, h => by unfold Gd at h; unfold cdIn; exact Gd.in_ h
  | .con k cs, h => by unfold Gd at h; unfold cdIn; exact GdL.in_ h.2
theorem GdL.in_ {xs : List Str} : ∀ {cs : List Cd}, GdL xs cs → cdsIn xs cs
  | [], h => by unfold cdsIn; trivial
  | c :: cs, h => by unfold GdL at h; unfold cdsIn; exact ⟨Gd.in_ h.1, GdL.in_ h.2⟩
end
theorem gdL_mem {xs : List Str} {c : Cd} : ∀ {cs : List Cd}, GdL xs cs → c ∈ cs → Gd xs c
  | a :: r, h, m => by
    unfold GdL at h
    rcases List.mem_cons.mp m with e | e
    · rw [e]; exact h.1
    · exact gdL_mem h.2 e
end Hw
namespace Hw
open PySem L2
end Hw
namespace Hw
open PySem L2
theorem ifT {b : Bool} {F G : Prop} (h : b = true) (f : F) : if b = true then F else G := by rw [if_pos h]; exact f
theorem ifF {b : Bool} {F G : Prop} (h : b = false) (g : G) : if b = true then F else G := by rw [h]; exact iteF g
theorem cut1 (x : V) (us : List V) : cutV (x :: us) (some 1) none = us := by
  unfold cutV
  have e1 : HT.sIx (x :: us).length 0 (some 1) = 1 := by
    have := HT.sIx_nat (x :: us).length 0 1
    rw [show (some (1 : Int)) = some ((1 : Nat) : Int) from rfl, this]
    show min 1 (us.length + 1) = 1
    omega
  have e2 : HT.sIx (x :: us).length (x :: us).length none = us.length + 1 := rfl
  rw [e1, e2]
  show us.take (us.length + 1 - 1) = us
  rw [show us.length + 1 - 1 = us.length by omega, List.take_length]
theorem cut1n (x : V) (us : List V) : ¬ (HT.sIx (x :: us).length 0 (some 1) = 0 ∧ HT.sIx (x :: us).length (x :: us).length none = (x :: us).length) := by
  have e1 : HT.sIx (x :: us).length 0 (some 1) = 1 := by
    have := HT.sIx_nat (x :: us).length 0 1
    rw [show (some (1 : Int)) = some ((1 : Nat) : Int) from rfl, this]
    show min 1 (us.length + 1) = 1
    omega
  rw [e1]
  intro h
  exact absurd h.1 (by decide)
theorem atH (x : V) (us : List V) : atI (x :: us) (0 : Int) = some x := atI_nat (j := 0) rfl
theorem in_true : ∀ bs : List Bool, inV (.bl true) (bs.map V.bl) = bs.any id
  | [] => rfl
  | b :: r => by
    show (eqV (.bl b) (.bl true) || inV (.bl true) (r.map V.bl)) = (b || r.any id)
    rw [in_true r]
    cases b <;> rfl
theorem in_false : ∀ bs : List Bool, (!inV (.bl false) (bs.map V.bl)) = bs.all id
  | [] => rfl
  | b :: r => by
    show (!(eqV (.bl b) (.bl false) || inV (.bl false) (r.map V.bl))) = (b && r.all id)
    rw [← in_false r, Bool.not_or]
    cases b <;> rfl
theorem flat_bl : ∀ bs : List Bool, (bs.map V.bl).all flatV = true
  | [] => rfl
  | b :: r => by show (true && (r.map V.bl).all flatV) = true; rw [flat_bl r]; rfl
def spLHolds (n : Nat) : Sp := fun vs H Q _ => ∃ (v : V) (d : Addr) (c : Cd) (xs : List Str) (ns : Ps), vs = [v, .ref d] ∧ ToldAt H c v ∧ c.dep ≤ n ∧ Gd xs c ∧ H d = some (.dK (enc ns)) ∧ (∀ x ∈ xs, x ∈ keys ns) ∧ ∀ H', Same H H' → Q (.bl (c.holds (get ns))) H'
end Hw
namespace L2
open PySem PySem.Spec PyProof.Rows Hw
section
variable {X : Cx} {x : Str} {D : Addr} {kvs : List (Key × V)} {i : Expr} {ty : TE} {p pos : Pos}
end
end L2
namespace Hw
open PySem L2
end Hw
namespace Hw
open PySem L2
end Hw
namespace L2
open PySem PySem.Spec PyProof.Rows Hw
section
variable {X : Cx}
end
end L2
namespace Hw
open PySem L2
abbrev Cs := List (List (Ps × Int))
end Hw
namespace Hw
open PySem L2
end Hw
namespace Hw
open PySem L2
end Hw
namespace Hw
open PySem L2
end Hw
namespace Hw
open PySem L2
end Hw
namespace L2
open PySem PySem.Spec PyProof.Rows Hw
section
variable {X : Cx}
def rEqNilL (K : PySem.W.Frag) : R2 := fun x y H Q => ∃ a b xs, x = .ref a ∧ y = .ref b ∧ SqL K H a xs ∧ SqL K H b [] ∧ Q (.bl (decide (xs = []))) H
theorem op_eqNilL (hu : X.A.units < cLine) : OpR X (compareOp .Eq) (rEqNilL X.K) := by
  intro pins s σ H x y v u Q I rx ry h
  obtain ⟨a, b, xs, rfl, rfl, ha, hb, q⟩ := h
  cases rx
  cases ry
  obtain ⟨us, r1, p1, _⟩ := I.list ha
  obtain ⟨vs, r2, p2, _⟩ := I.list hb
  cases r2
  have l1 := r1.length
  by_cases hx : xs = []
  · rw [decide_eq_true hx] at q
    subst hx
    cases r1
    exact SeqAt.RcAt.lists (A := X.A) (e := fun _ => true) p1.isList p2.isList rfl hu (fun j h1 h2 => absurd h2 (by simp)) _ _ _ _ ⟨.bl true, H, I, rfl, q⟩
  · rw [decide_eq_false hx] at q
    have : us ≠ [] := fun z => hx (by rw [z] at l1; exact List.length_eq_zero_iff.mp l1)
    refine SeqAt.RcAt.lists_lengths (A := X.A) p1.isList p2.isList ?_ hu _ _ _ _ ⟨.bl false, H, I, rfl, q⟩
    cases us with
    | nil => exact absurd rfl this
    | cons _ _ => simp
end
end L2
namespace Hw
open PySem L2
end Hw
namespace Hw
open PySem L2
end Hw
namespace Hw
open PySem L2
theorem m4_rec {P : Program} {w : World} {K : PySem.W.Frag} {mg : Str → Option Value} {base : Heap} {Z : Cz} {m : Str} {ps : List Str} {sp : Nat → Nat → Sp} {lv : Nat → Nat} (f : Nat → Addr) (fd : Nat → FuncData)
    (hm : ∀ j, j < 4 → Meth K (clsOf Z j) m (f j)) (hb : ∀ j, j < 4 → Binds K (fd j) ps []) (h0 : ∀ j vs H Q E, ¬ sp 0 j vs H Q E)
    (hs : ∀ n, M4 P w K mg base (lv n) Z m ps (sp n) → ∀ j, j < 4 → FnOk P w K mg base CX0 (lv (n + 1)) (f j) (fd j) ps (sp (n + 1) j)) : ∀ n, M4 P w K mg base (lv n) Z m ps (sp n)
  | 0 => fun j hj => ⟨f j, fd j, fn_absurd (h0 j), hm j hj, hb j hj⟩
  | n + 1 => fun j hj => ⟨f j, fd j, hs n (m4_rec f fd hm hb h0 hs n) j hj, hm j hj, hb j hj⟩
theorem dn_rec {P : Program} {w : World} {K : PySem.W.Frag} {mg : Str → Option Value} {base : Heap} {x : Str} {ps : List Str} {sp : Nat → Sp} {lv : Nat → Nat} {f : Addr} {fd : FuncData}
    (hm : mg x = some (.ref f)) (hk : PySem.W.keepIn K (.ref f) = true) (hb : Binds K fd ps []) (h0 : ∀ vs H Q E, ¬ sp 0 vs H Q E)
    (hs : ∀ n, Dn P w K mg base (lv n) x ps (sp n) → FnOk P w K mg base CX0 (lv (n + 1)) f fd ps (sp (n + 1))) : ∀ n, Dn P w K mg base (lv n) x ps (sp n)
  | 0 => ⟨f, fd, fn_absurd h0, hm, hk, hb⟩
  | n + 1 => ⟨f, fd, hs n (dn_rec hm hk hb h0 hs n), hm, hk, hb⟩
theorem dep0 {c : Cd} (h : c.dep ≤ 0) : False := by have := dep_pos c; omega
theorem told0 (Z : Cz) : ∀ j vs H Q E, ¬ spCTold Z 0 j vs H Q E := fun _ _ _ _ _ ⟨_, _, _, _, _, d, _⟩ => dep0 d
theorem holds0 (Z : Cz) : ∀ j vs H Q E, ¬ spCHolds Z 0 j vs H Q E := fun _ _ _ _ _ ⟨_, _, _, _, _, _, _, d, _⟩ => dep0 d
theorem lholds0 : ∀ vs H Q E, ¬ spLHolds 0 vs H Q E := fun _ _ _ _ ⟨_, _, _, _, _, _, _, d, _⟩ => dep0 d
end Hw
namespace Hw
open PySem L2
theorem kit_ref (K : PySem.W.Frag) (C : Addr) : PySem.W.kitOne K (.ref C) (.ref C) = some true := by
  unfold PySem.W.kitOne
  rw [if_pos (by simp)]
theorem kit_tup (K : PySem.W.Frag) : PySem.W.kitOne K (.type "tuple") (.type "tuple") = some true := by
  unfold PySem.W.kitOne
  rw [if_pos (by simp)]
end Hw
namespace L2
open PySem PySem.Spec PyProof.Rows
section
variable {X : Cx} {tg : Expr}
end
end L2
namespace Hw
open PySem L2
end Hw
namespace Hw
open PySem L2
section
variable {Z : Cz} {H0 H H' : Hp} {d tl sd hd p pf : Addr} {xs : List Str} {vt : V} {c c' : Cd} {kvs kh : List (Key × V)} {S : Sb}
end
end Hw
namespace PySem
open L2
section
variable {prog : Program} {w : World} {A : Around} {E : Value → Shared → Prop} {s : Shared}
end
end PySem
namespace PySem
open L2 PyProof.Rows
section
variable {prog : Program} {w : World} {A : Around} {R : Result → Shared → Prop} {I : Addr} {fp wr : List Addr} {G : Array GenState → Array GenState → Prop} {n : Nat} {P : Nat → Value → Prop} {St : Nat → Shared → Prop}
end
section
variable {prog : Program} {w : World} {A : Around} {E : Value → Shared → Prop} {s : Shared}
end
end PySem
namespace PySem
open L2 PyProof.Rows
namespace F
end F
section
variable {prog : Program} {w : World} {A : Around} {E : Value → Shared → Prop} {s : Shared} {I a tp : Addr} {i n ep : Nat} {es : Array (Int × Value)} {t : SetTable}
end
end PySem
namespace PySem
open L2 PyProof.Rows
section
variable {prog : Program} {w : World} {A : Around} {E : Value → Shared → Prop} {s : Shared} {I a tp : Addr} {i n ep : Nat} {es : Array (Int × Value)} {t : SetTable}
end
end PySem
namespace PySem
open L2 PyProof.Rows
section
variable {M : Model} {A : Around} {E : Value → Shared → Prop} {s : Shared}
end
section
variable {prog : Program} {w : World} {A : Around} {E : Value → Shared → Prop} {s : Shared} {I a tp : Addr} {i n ep : Nat} {es : Array (Int × Value)} {t : SetTable}
end
end PySem
namespace PySem
open L2 PyProof.Rows
section
variable {prog : Program} {w : World} {A : Around} {E : Value → Shared → Prop} {s : Shared} {I a tp : Addr} {i n ep : Nat} {es : Array (Int × Value)} {t : SetTable}
end
end PySem
namespace PySem
open L2 PyProof.Rows
section
variable {prog : Program} {w : World} {A : Around} {E : Value → Shared → Prop} {s : Shared} {a : Addr}
end
end PySem
namespace PySem
open L2 PyProof.Rows
section
variable {prog : Program} {w : World} {A : Around} {E : Value → Shared → Prop} {s : Shared} {a : Addr} {zs : List Str}
end
end PySem
namespace L2
open PySem PySem.Spec PyProof.Rows Hw
section
variable {X : Cx}
end
end L2
namespace L2
open PySem PySem.Spec PyProof.Rows Hw
section
variable {X : Cx}
end
end L2
namespace Hw
open PySem L2
end Hw
namespace Hw
open PySem L2
end Hw
namespace Hw
open PySem L2
end Hw
namespace L2
open PySem PySem.Spec PyProof.Rows Hw
section
variable {X : Cx}
end
end L2
namespace Hw
open PySem L2
end Hw
namespace L2
open PySem PySem.Spec PyProof.Rows Hw
section
variable {X : Cx}
theorem hits_of {A : Around} {s : Shared} {whole : Ps} {kb : List (Key × Value)} (rb : KV (enc whole) kb) :
    ∀ {ns : Ps} {ka : List (Key × Value)}, KV (enc ns) ka → (∀ p ∈ ns, valV (enc whole) (Sum.inr p.1) = some (V.int p.2)) → PySem.W.KeqHits A s kb ka true
  | [], _, r, _ => by
    cases r
    exact .nil
  | p :: ns, _, r, h => by
    cases r with
    | @cons _ q _ qs h1 h2 =>
      obtain ⟨k, v⟩ := q
      obtain ⟨e1, t, e2⟩ := h1
      dsimp only at e1 e2
      subst e2
      obtain ⟨y, hy, t', e3⟩ := RelO.some_of (v := V.int p.2) (o := valueAt kb k) (by rw [← e1, ← h p List.mem_cons_self]; exact rb.val _)
      subst e3
      have := PySem.W.KeqHits.hit (A := A) (s := s) hy (SeqAt.EqAt.int_int p.2 t p.2 t') (hits_of (A := A) (s := s) rb h2 fun q hq => h q (List.mem_cons_of_mem _ hq))
      simpa using this
def rSameD (k : Bool) : R2 := fun x y H Q => ∃ a b ns, x = .ref a ∧ y = .ref b ∧ H a = some (.dK (enc ns)) ∧ H b = some (.dK (enc ns)) ∧ (keys ns).Nodup ∧ Q (.bl k) H
theorem own_val {ns : Ps} (h : (keys ns).Nodup) : ∀ p ∈ ns, valV (enc ns) (Sum.inr p.1) = some (V.int p.2) := fun p hp => by
  have hk : p.1 ∈ keys ns := List.mem_map.mpr ⟨p, hp, rfl⟩
  rw [enc_val, if_pos hk]
  congr 1
  congr 1
  clear hk
  induction ns with
  | nil => cases hp
  | cons q r ih =>
    have hn := List.nodup_cons.mp (show (q.1 :: keys r).Nodup from h)
    rcases List.mem_cons.mp hp with e | e
    · subst e; simp [Hw.get]
    · have ne : ¬ q.1 = p.1 := fun z => hn.1 (z ▸ List.mem_map.mpr ⟨p, e, rfl⟩)
      have := ih hn.2 e
      simp [Hw.get, ne] at this ⊢
      exact this
theorem op_eqD (hu : X.A.units < cLine) : OpR X (compareOp .Eq) (rSameD true) := by
  intro pins s σ H x y v u Q I rx ry h
  obtain ⟨a, b, ns, rfl, rfl, ha, hb, nd, q⟩ := h
  cases rx
  cases ry
  obtain ⟨_, sa, ka, ra, da⟩ := dk_of I.hok ha
  obtain ⟨_, sb, kb, rb, db⟩ := dk_of I.hok hb
  have l : ka.length = kb.length := ra.length.symm.trans rb.length
  exact PySem.W.keq_eq sa sb da db hu (fun _ => hits_of rb ra (own_val nd)) ⟨.bl true, H, I, by rw [l]; simp; rfl, q⟩
theorem op_neD (hu : X.A.units < cLine) : OpR X (compareOp .NotEq) (rSameD false) := by
  intro pins s σ H x y v u Q I rx ry h
  obtain ⟨a, b, ns, rfl, rfl, ha, hb, nd, q⟩ := h
  cases rx
  cases ry
  obtain ⟨_, sa, ka, ra, da⟩ := dk_of I.hok ha
  obtain ⟨_, sb, kb, rb, db⟩ := dk_of I.hok hb
  have l : ka.length = kb.length := ra.length.symm.trans rb.length
  exact PySem.W.keq_ne sa sb da db hu (fun _ => hits_of rb ra (own_val nd)) ⟨.bl false, H, I, by rw [l]; simp; rfl, q⟩
def rDClear : V → List V → Hp → VK → Prop := fun x vs H Q => ∃ a kvs, x = .ref a ∧ vs = [] ∧ H a = some (.dK kvs) ∧ Q .non (upd H a (.dK []))
theorem mt_dclear : MtM X "dict.clear" rDClear := by
  intro pins s σ H x vs v us Q I rx rv h
  obtain ⟨a, kvs, rfl, rfl, hH, q⟩ := h
  cases rx
  have hus := rv.zero
  subst hus
  obtain ⟨z, hd, ks, rel, dd⟩ := dk_of I.hok hH
  refine call_meetsIn PySem.F.slot_dict_clear dd.typeIs PySem.F.entry_dict_clear (PySem.F.args_dict_clear_1 _) (meets_dict_clear (mixKind X.prog X.w) a) ⟨ks, dd, (by rw [← rel.length]; exact z), fun h' dn hs => ?_⟩
  have he : ∃ q, h'.get? a = some q := let ⟨q, _, _, hq, _⟩ := dn; ⟨q, hq⟩
  exact ⟨.non, _, d_write (t' := s.toks) I (by rw [hH]; trivial) hs he (dk_new (Nat.zero_le _) hd .nil dn), rfl, q⟩
end
end L2
namespace Hw
open PySem L2
inductive Rw where
  | any (x : Str)
  | lt (x : Str) (a : Ps) (n : Int)
  | hold (c : Cd)
def RowAt (Z : Cz) (H : Hp) (v : V) : Rw → Prop
  | .any x => ∃ p, v = .ref p ∧ H p = some (.tup [.str "any", .str x])
  | .lt x a n => ∃ p q, v = .ref p ∧ H p = some (.tup [.str "let", .str x, .ref q]) ∧ SumAt Z.s H q a n
  | .hold c => ∃ p q, v = .ref p ∧ H p = some (.tup [.str "hold", .ref q]) ∧ CondAt Z H c (.ref q)
theorem RowAt.hard {Z : Cz} {H H' : Hp} {v : V} (k : Hard H H') : ∀ {r : Rw}, RowAt Z H v r → RowAt Z H' v r
  | .any x, ⟨p, e, h⟩ => ⟨p, e, k.t _ _ h⟩
  | .lt x a n, ⟨p, q, e, h, s⟩ => ⟨p, q, e, k.t _ _ h, s.hard k⟩
  | .hold c, ⟨p, q, e, h, s⟩ => ⟨p, q, e, k.t _ _ h, s.hard k⟩
abbrev RowsAt (Z : Cz) (H : Hp) (us : List V) (rs : List Rw) : Prop := Paired (RowAt Z H) us rs
theorem RowsAt.hard {Z : Cz} {H H' : Hp} {us : List V} {rs : List Rw} (h : RowsAt Z H us rs) (k : Hard H H') : RowsAt Z H' us rs := L2.Paired.mapP h fun _ _ x => x.hard k
def addK (ks : List Str) (x : Str) : List Str := if x ∈ ks then ks else ks ++ [x]
theorem keys_addK (e : Ps) (x : Str) (n : Int) : keys (put e x n) = addK (keys e) x := keys_put e x n
def kn (ks : List Str) : List Rw → List Str
  | [] => ks
  | .any x :: r => kn (addK ks x) r
  | .lt x _ _ :: r => kn (addK ks x) r
  | .hold _ :: r => kn ks r
structure Lo (a : Ps) (n : Int) : Prop where
  num : -9 ≤ n ∧ n ≤ 9
  sum : ∀ (f : Str → Int) (B : Int), 0 ≤ B → (∀ t, -B ≤ f t ∧ f t ≤ B) → -(6 * B) ≤ lin a f ∧ lin a f ≤ 6 * B
def okR (ks : List Str) : Rw → Prop
  | .any _ => True
  | .lt _ a n => Gs ks a n ∧ Lo a n
  | .hold c => Gd ks c ∧ c.dep ≤ 2 ∧ c.ok
def wf (ks : List Str) : List Rw → Prop
  | [] => True
  | r :: rs => okR ks r ∧ wf (kn ks [r]) rs
theorem kn_cons (ks : List Str) (r : Rw) (rs : List Rw) : kn ks (r :: rs) = kn (kn ks [r]) rs := by cases r <;> rfl
theorem kn_snoc (r : Rw) : ∀ (rs : List Rw) (ks : List Str), kn ks (rs ++ [r]) = kn (kn ks rs) [r]
  | [], ks => rfl
  | a :: rs, ks => by rw [List.cons_append, kn_cons, kn_snoc r rs, ← kn_cons]
theorem wf_snoc {r : Rw} : ∀ {rs : List Rw} {ks : List Str}, wf ks rs → okR (kn ks rs) r → wf ks (rs ++ [r])
  | [], ks, _, h => ⟨h, trivial⟩
  | a :: rs, ks, w, h => ⟨w.1, wf_snoc w.2 (by rw [← kn_cons]; exact h)⟩
theorem wf_drop : ∀ {rs : List Rw} {ks : List Str}, wf ks rs → wf ks (rs.filter fun | .hold _ => false | _ => true)
  | [], ks, _ => trivial
  | .any x :: rs, ks, w => ⟨trivial, wf_drop w.2⟩
  | .lt x a n :: rs, ks, w => ⟨w.1, wf_drop w.2⟩
  | .hold c :: rs, ks, w => wf_drop (rs := rs) (ks := ks) w.2
def go : List Rw → Ps → List Int → Option (Ps × List Int)
  | [], e, l => some (e, l)
  | .any x :: r, e, l => match l with | [] => none | n :: l => go r (put e x n) l
  | .lt x a n :: r, e, l => go r (put e x (n + lin a (get e))) l
  | .hold c :: r, e, l => if c.holds (get e) = true then go r e l else none
def due (rs : List Rw) (l : List Int) : Option Ps := match go rs [] l with | some (e, []) => some e | _ => none
def fitE (i : Nat) (e : Ps) : Prop := ∀ t, -(10 ^ 9 * 7 ^ i) ≤ get e t ∧ get e t ≤ 10 ^ 9 * 7 ^ i
theorem fitE.up {i : Nat} {e : Ps} (h : fitE i e) : fitE (i + 1) e := fun t => by
  obtain ⟨h1, h2⟩ := h t
  have : (10 ^ 9 * 7 ^ i : Int) ≤ 10 ^ 9 * 7 ^ (i + 1) := by
    rw [Int.pow_succ]
    have : (0 : Int) ≤ 7 ^ i := Int.pow_nonneg (by decide)
    omega
  omega
theorem fitE.put {i : Nat} {e : Ps} {x : Str} {n : Int} (h : fitE i e) (hn : -(10 ^ 9 * 7 ^ (i + 1)) ≤ n ∧ n ≤ 10 ^ 9 * 7 ^ (i + 1)) : fitE (i + 1) (put e x n) := fun t => by
  rw [get_put]
  split
  · exact hn
  · exact h.up t
theorem pow7 (i : Nat) : (1 : Int) ≤ 7 ^ i := by
  induction i with
  | zero => decide
  | succ i ih => rw [Int.pow_succ]; omega
theorem fitE.low {i : Nat} {e : Ps} {x : Str} {a : Ps} {n : Int} (h : fitE i e) (l : Lo a n) : fitE (i + 1) (Hw.put e x (n + lin a (get e))) := by
  refine h.put ?_
  have p := pow7 i
  obtain ⟨n1, n2⟩ := l.num
  obtain ⟨s1, s2⟩ := l.sum (get e) (10 ^ 9 * 7 ^ i) (by omega) h
  rw [Int.pow_succ]
  constructor <;> omega
theorem fitE.any {i : Nat} {e : Ps} {x : Str} {n : Int} (h : fitE i e) (hn : -(10 ^ 9) ≤ n ∧ n ≤ 10 ^ 9) : fitE (i + 1) (Hw.put e x n) := by
  refine h.put ?_
  have p := pow7 (i + 1)
  constructor <;> omega
theorem fitE.nums {i : Nat} {e : Ps} (h : fitE i e) (hi : i ≤ 9) {H : Hp} {d : Addr} (hd : H d = some (.dK (enc e))) : Nums H d e := ⟨hd, fun t => by
  obtain ⟨h1, h2⟩ := h t
  have : (7 ^ i : Int) ≤ 7 ^ 9 := by
    clear h1 h2 h
    have : i = 0 ∨ i = 1 ∨ i = 2 ∨ i = 3 ∨ i = 4 ∨ i = 5 ∨ i = 6 ∨ i = 7 ∨ i = 8 ∨ i = 9 := by omega
    rcases this with e | e | e | e | e | e | e | e | e | e <;> subst e <;> decide
  constructor <;> omega⟩
theorem fitE.nil (i : Nat) : fitE i [] := fun t => by
  have p := pow7 i
  show _ ≤ (0 : Int) ∧ (0 : Int) ≤ _
  constructor <;> omega
theorem lo_pairs : ∀ {ps : Ps}, ps.length ≤ 2 → (∀ p ∈ ps, -3 ≤ p.2 ∧ p.2 ≤ 3) → ∀ (f : Str → Int) (B : Int), 0 ≤ B → (∀ t, -B ≤ f t ∧ f t ≤ B) → -(6 * B) ≤ lin ps f ∧ lin ps f ≤ 6 * B := by
  have one : ∀ (w y B : Int), 0 ≤ B → -3 ≤ w → w ≤ 3 → -B ≤ y → y ≤ B → -(3 * B) ≤ w * y ∧ w * y ≤ 3 * B := fun w y B hB w1 w2 y1 y2 => by
    have : w = -3 ∨ w = -2 ∨ w = -1 ∨ w = 0 ∨ w = 1 ∨ w = 2 ∨ w = 3 := by omega
    rcases this with e | e | e | e | e | e | e <;> subst e <;> omega
  intro ps hl hw f B hB hf
  match ps, hl, hw with
  | [], _, _ => show _ ≤ (0 : Int) ∧ (0 : Int) ≤ _; omega
  | [p], _, hw =>
    have h1 := hw p (by simp)
    have := one p.2 (f p.1) B hB h1.1 h1.2 (hf _).1 (hf _).2
    show _ ≤ p.2 * f p.1 + 0 ∧ p.2 * f p.1 + 0 ≤ _
    omega
  | [p, q], _, hw =>
    have h1 := hw p (by simp)
    have h2 := hw q (by simp)
    have t1 := one p.2 (f p.1) B hB h1.1 h1.2 (hf _).1 (hf _).2
    have t2 := one q.2 (f q.1) B hB h2.1 h2.2 (hf _).1 (hf _).2
    show _ ≤ p.2 * f p.1 + (q.2 * f q.1 + 0) ∧ p.2 * f p.1 + (q.2 * f q.1 + 0) ≤ _
    omega
theorem gat_one {ps ts : Ps} (g : Gat ps ts) {p : Str × Int} (hp : p ∈ ts) : p.2 = lin ps (ind p.1) := by
  rw [← g.2]
  have up := g.1.up
  clear g
  induction ts with
  | nil => cases hp
  | cons q r ih =>
    have hc := List.pairwise_cons.mp up
    show p.2 = q.2 * ind p.1 q.1 + lin r (ind p.1)
    rcases List.mem_cons.mp hp with e | e
    · subst e
      rw [lin_none fun z hz => (lt_ne (hc.1 z hz)).symm]
      simp [ind]
    · have ne : q.1 ≠ p.1 := lt_ne (hc.1 p e)
      rw [← ih e hc.2]
      simp [ind, ne]
theorem gat_lo {xs : List Str} {ps ts : Ps} {n : Int} (g : Gat ps ts) (hl : ps.length ≤ 2) (hw : ∀ p ∈ ps, -3 ≤ p.2 ∧ p.2 ≤ 3) (hx : ∀ p ∈ ps, p.1 ∈ xs) (ht : ts.length ≤ ps.length) (hn : -9 ≤ n ∧ n ≤ 9) : Gs xs ts n ∧ Lo ts n := by
  refine ⟨⟨g.1, ⟨by omega, fun p hp => ?_⟩, fun p hp => ?_, ?_⟩, ⟨hn, fun f B hB hf => by rw [g.2]; exact lo_pairs hl hw f B hB hf⟩⟩
  · rw [gat_one g hp]
    have := lo_pairs hl hw (ind p.1) 1 (by decide) fun t => by unfold ind; split <;> decide
    unfold Small
    omega
  · obtain ⟨q, hq, e⟩ := List.mem_map.mp (g.keys (List.mem_map.mpr ⟨p, hp, rfl⟩))
    rw [← e]
    exact hx q hq
  · unfold Small; omega
def sgL (b1 b2 b3 b4 b5 : Bool) : List (Key × V) := [(Sum.inr "=", .bl b1), (Sum.inr "!=", .bl b2), (Sum.inr "<", .bl b3), (Sum.inr "<=", .bl b4), (Sum.inr ">", .bl b5)]
theorem sg_at {s : Str} (h : s ∈ signs) (b1 b2 b3 b4 b5 b6 : Bool) : (valV (mergeK [] (sgL b1 b2 b3 b4 b5)) (Sum.inr s)).getD (.bl b6) = V.bl (if s = "=" then b1 else if s = "!=" then b2 else if s = "<" then b3 else if s = "<=" then b4 else if s = ">" then b5 else b6) := by
  simp only [signs, List.mem_cons, List.not_mem_nil, or_false] at h
  rcases h with h | h | h | h | h | h <;> subst h <;> revert b1 b2 b3 b4 b5 b6 <;> decide +kernel
theorem sg_is {s : Str} (h : s ∈ signs) (X Y : Int) : (if s = "=" then decide (V.int X = V.int Y) else if s = "!=" then !decide (V.int X = V.int Y) else if s = "<" then decide (X < Y) else if s = "<=" then decide (X ≤ Y) else if s = ">" then decide (Y < X) else decide (Y ≤ X)) = cmpB s X Y := by
  have e : decide (V.int X = V.int Y) = decide (X = Y) := by
    by_cases h : X = Y
    · subst h; simp
    · simp [h]
  rw [e]
  unfold cmpB
  simp only [signs, List.mem_cons, List.not_mem_nil, or_false] at h
  rcases h with h | h | h | h | h | h <;> subst h
  · rw [if_neg (by decide +kernel), if_neg (by decide +kernel), if_pos rfl, if_pos rfl]
  · rw [if_neg (by decide +kernel), if_neg (by decide +kernel), if_neg (by decide +kernel), if_pos rfl, if_neg (by decide +kernel), if_pos rfl]
  · rw [if_pos rfl, if_neg (by decide +kernel), if_neg (by decide +kernel), if_pos rfl]
  · rw [if_neg (by decide +kernel), if_pos rfl, if_neg (by decide +kernel), if_neg (by decide +kernel), if_neg (by decide +kernel), if_pos rfl]
  · rw [if_neg (by decide +kernel), if_neg (by decide +kernel), if_neg (by decide +kernel), if_neg (by decide +kernel), if_neg (by decide +kernel), if_neg (by decide +kernel), if_neg (by decide +kernel), if_neg (by decide +kernel), if_neg (by decide +kernel), if_pos rfl]
  · rw [if_neg (by decide +kernel), if_neg (by decide +kernel), if_neg (by decide +kernel), if_neg (by decide +kernel), if_pos rfl, if_neg (by decide +kernel), if_neg (by decide +kernel), if_neg (by decide +kernel), if_neg (by decide +kernel), if_neg (by decide +kernel)]
theorem hard_upd {H : Hp} {l : Addr} {xs ys : List V} (h : H l = some (.lst xs)) : Hard H (upd H l (.lst ys)) :=
  ⟨fun a zs e => by rw [upd_ne (ne_of e h (by intro w; cases w))]; exact e, fun a C dx fs e => by rw [upd_ne (ne_of e h (by intro w; cases w))]; exact e⟩
theorem none_of_new {H : Hp} {a b : Addr} {o : HO} (h : upd H a o b = none) : H b = none := by
  by_cases e : b = a
  · subst e; rw [upd_same] at h; cases h
  · rw [upd_ne e] at h; exact h
theorem seq0 (m : Int) (l : List Int) : seqIndex? 0 (((m :: l).map V.int).length) = some 0 := by
  rw [List.length_map, List.length_cons]
  unfold seqIndex?
  simp
theorem for_seqV {K : PySem.W.Frag} {a : Addr} {us : List V} {g : TG} {tb : TS} {D : Ends} {σ : St} {H : Hp} (h : H a = some (.lst us) ∨ H a = some (.tup us)) (Pv : Nat → St → Hp → Prop) (h0 : Pv 0 σ H) (hS : ∀ i σ H', Pv i σ H' → ∀ o, H a = some o → H' a = some o)
    (hs : ∀ i x σ H', us[i]? = some x → Pv i σ H' → g x σ H' fun σ2 H2 => tb { D with nx := Pv (i + 1), ct := Pv (i + 1), bk := D.nx } σ2 H2) (hd : ∀ σ H', Pv us.length σ H' → D.nx σ H') :
    ((∃ xs, SqL K H a xs) ∧ ForW (Itl K a) g tb D σ H) ∨ ((∃ xs, SqT K H a xs) ∧ ForW (Itt K a) g tb D σ H) := by
  rcases h with e | e
  · exact .inl ⟨⟨us, SqL.of e⟩, for_list (xs := us) Pv h0 (fun i σ H' _ p => SqL.of (hS i σ H' p _ e)) hs hd⟩
  · exact .inr ⟨⟨us, SqT.of e⟩, for_tup (xs := us) Pv h0 (fun i σ H' _ p => SqT.of (hS i σ H' p _ e)) hs hd⟩
theorem seq_or {K : PySem.W.Frag} {H : Hp} {a : Addr} {ys : List V} (h : H a = some (.lst ys) ∨ H a = some (.tup ys)) : SqL K H a ys ∨ SqT K H a ys := h.elim (fun e => .inl (SqL.of e)) fun e => .inr (SqT.of e)
theorem seq_same {H H' : Hp} {a : Addr} {ys : List V} (h : H a = some (.lst ys) ∨ H a = some (.tup ys)) (s : Same H H') : H' a = some (.lst ys) ∨ H' a = some (.tup ys) := h.elim (fun e => .inl (s _ _ e)) fun e => .inr (s _ _ e)
theorem ix_or {K : PySem.W.Frag} {H : Hp} {a : Addr} {ys : List V} {i : Int} {y : V} {Q : VK} (h : H a = some (.lst ys) ∨ H a = some (.tup ys)) (hi : atI ys i = some y) (q : Q y H) : rIx K (.ref a) (.int i) H Q :=
  h.elim (fun e => .inl ⟨a, _, i, y, rfl, rfl, SqL.of e, hi, q⟩) fun e => .inr (.inl ⟨a, _, i, y, rfl, rfl, SqT.of e, hi, q⟩)
def tagOf : Rw → Str
  | .any _ => "any"
  | .lt _ _ _ => "let"
  | .hold _ => "hold"
theorem row_tag {Z : Cz} {H : Hp} {v : V} : ∀ {r : Rw}, RowAt Z H v r → ∃ p us, v = .ref p ∧ H p = some (.tup (.str (tagOf r) :: us))
  | .any _, ⟨p, e, h⟩ => ⟨p, _, e, h⟩
  | .lt _ _ _, ⟨p, _, e, h, _⟩ => ⟨p, _, e, h⟩
  | .hold _, ⟨p, _, e, h, _⟩ => ⟨p, _, e, h⟩
def nhB : Rw → Bool
  | .hold _ => false
  | _ => true
theorem tag_nh (r : Rw) : (!decide (V.str (tagOf r) = V.str "hold")) = nhB r := by
  cases r with
  | any x => show (!decide (V.str "any" = V.str "hold")) = true; decide +kernel
  | lt x a n => show (!decide (V.str "let" = V.str "hold")) = true; decide +kernel
  | hold c => show (!decide (V.str "hold" = V.str "hold")) = false; decide +kernel
theorem like_ints {K : PySem.W.Frag} {H : Hp} : ∀ (ns : List Int), Paired (Like K H 1) (ns.map V.int) (ns.map V.int)
  | [] => .nil
  | n :: ns => .cons (.inl ⟨rfl, rfl⟩) (like_ints ns)
theorem kit_dict (K : PySem.W.Frag) : PySem.W.kitOne K (.type "dict") (.type "dict") = some true := by
  unfold PySem.W.kitOne
  rw [if_pos (by simp)]
theorem far_ints {w : Int} {r : Nat} (hw : 0 ≤ w) (hw2 : w ≤ 10 ^ 9) (h : (r : Int) < 2 * w + 1) : -(10 ^ 9 : Int) ≤ (r : Int) - w ∧ (r : Int) - w ≤ 10 ^ 9 := by constructor <;> omega
theorem wf_nh {rs : List Rw} {ks : List Str} (h : wf ks rs) : wf ks (rs.filter nhB) := wf_drop h
def spVInitT (D : Addr) : Sp := fun vs H Q _ => ∃ (p dx l : Addr) (us : List V), vs = [.ref p, .ref l] ∧ H p = some (.ins D dx []) ∧ H l = some (.tup us) ∧ ∀ (H' : Hp), But p H H' → H' p = some (.ins D dx (vflds l)) → Q .non H'
def sp28Sum (Z : Cz) : Sp := fun vs H Q _ => ∃ (d l : Addr) (xs : List Str), vs = [.ref d, .ref l] ∧ Dr H d ∧ H l = some (.lst (xs.map V.str)) ∧ 1 ≤ xs.length ∧ xs.length ≤ 100 ∧
  ∀ (r : Addr) (ts : Ps) (n : Int) (H' : Hp), But d H H' → Dr H' d → SumAt Z.s H' r ts n → Gs xs ts n → Lo ts n → Q (.ref r) H'
def sp28Cond (Z : Cz) (n : Nat) : Sp := fun vs H Q _ => ∃ (d l : Addr) (k : Nat) (xs : List Str), vs = [.ref d, .ref l, .int k] ∧ k < n ∧ Dr H d ∧ H l = some (.lst (xs.map V.str)) ∧ 1 ≤ xs.length ∧ xs.length ≤ 100 ∧
  ∀ (p : Addr) (c : Cd) (H' : Hp), But d H H' → Dr H' d → CondAt Z H' c (.ref p) → c.dep ≤ k + 1 → Gd xs c → c.ok → Q (.ref p) H'
def sp28Rows (Z : Cz) : Sp := fun vs H Q _ => ∃ d : Addr, vs = [.ref d] ∧ Dr H d ∧
  ∀ (l : Addr) (us : List V) (rs : List Rw) (H' : Hp), But d H H' → Dr H' d → H l = none → H' l = some (.lst us) → RowsAt Z H' us rs → wf [] rs → rs.length ≤ 9 → Q (.ref l) H'
def OutAt (H H' : Hp) (v : V) : Option Ps → Prop
  | none => v = .non
  | some e => ∃ q, v = .ref q ∧ H q = none ∧ H' q = some (.dK (enc e)) ∧ (keys e).Nodup
def Far (ns : List Int) : Prop := ∀ n ∈ ns, -(10 ^ 9 : Int) ≤ n ∧ n ≤ 10 ^ 9
def sp28Due (Z : Cz) : Sp := fun vs H Q _ => ∃ (a b : Addr) (us : List V) (rs : List Rw) (ns : List Int), vs = [.ref a, .ref b] ∧ H a = some (.lst us) ∧ RowsAt Z H us rs ∧ wf [] rs ∧ rs.length ≤ 9 ∧ H b = some (.lst (ns.map V.int)) ∧ Far ns ∧ ns.length ≤ 20 ∧
  ∀ (v : V) (H' : Hp), Same H H' → OutAt H H' v (due rs ns) → Q v H'
def sp28Along (Z : Cz) (K : PySem.W.Frag) : Sp := fun vs H Q _ => ∃ (a b : Addr) (us : List V) (rs : List Rw) (ns : List Int), vs = [.ref a, .ref b] ∧ (H a = some (.lst us) ∨ H a = some (.tup us)) ∧ RowsAt Z H us rs ∧ wf [] rs ∧ rs.length ≤ 9 ∧ (H b = some (.lst (ns.map V.int)) ∨ H b = some (.tup (ns.map V.int))) ∧ Far ns ∧ ns.length ≤ 20 ∧
  ∀ (v : V) (H' : Hp), Same H H' → OutAt H H' v (due rs ns) → Q v H'
theorem cond28_0 (Z : Cz) : ∀ vs H Q E, ¬ sp28Cond Z 0 vs H Q E := fun _ _ _ _ ⟨_, _, _, _, _, h, _⟩ => absurd h (Nat.not_lt_zero _)
theorem iteNN {c A B : Prop} [Decidable c] (hc : ¬ c) (h : A) : if (!decide c) = true then A else B := by
  rw [decide_eq_false hc]
  exact h
theorem comp_seqV {K : PySem.W.Frag} {a : Addr} {us : List V} {g : TG} {tt : TT} {te : TE} {σ0 : St} {H : Hp} {R : List V → Hp → Prop} (h : H a = some (.lst us) ∨ H a = some (.tup us)) (Pv : Nat → List V → Hp → Prop) (h0 : Pv 0 [] H) (hS : ∀ i ys H', Pv i ys H' → ∀ o, H a = some o → H' a = some o)
    (hs : ∀ i x ys H', us[i]? = some x → Pv i ys H' → g x σ0 H' fun σ2 H2 => Ext σ0 σ2 ∧ tt σ2 H2 fun b H3 => if b = true then te σ2 H3 fun v H4 => ys.length < sizeLine ∧ Pv (i + 1) (ys ++ [v]) H4 else Pv (i + 1) ys H3)
    (hd : ∀ ys H', Pv us.length ys H' → R ys H') : ((∃ xs, SqL K H a xs) ∧ ∃ W : Nat → Nat → List V → Hp → Prop, (∃ m, W 0 m [] H) ∧ cWalk (Itl K a) g tt te σ0 W R) ∨ ((∃ xs, SqT K H a xs) ∧ ∃ W : Nat → Nat → List V → Hp → Prop, (∃ m, W 0 m [] H) ∧ cWalk (Itt K a) g tt te σ0 W R) := by
  rcases h with e | e
  · exact .inl ⟨⟨us, SqL.of e⟩, comp_list (xs := us) Pv h0 (fun i ys H' _ p => SqL.of (hS i ys H' p _ e)) hs hd⟩
  · exact .inr ⟨⟨us, SqT.of e⟩, comp_tup (xs := us) Pv h0 (fun i ys H' _ p => SqT.of (hS i ys H' p _ e)) hs hd⟩
def anys : List Rw → Nat
  | [] => 0
  | .any _ :: r => anys r + 1
  | .lt _ _ _ :: r => anys r
  | .hold _ :: r => anys r
theorem anys_snoc (r : Rw) : ∀ rs : List Rw, anys (rs ++ [r]) = anys rs + anys [r]
  | [] => by show anys [r] = 0 + anys [r]; omega
  | .any x :: rs => by show anys (rs ++ [r]) + 1 = anys rs + 1 + anys [r]; rw [anys_snoc r rs]; omega
  | .lt x a n :: rs => anys_snoc r rs
  | .hold c :: rs => anys_snoc r rs
theorem go_len : ∀ (rs : List Rw) (e : Ps) (l : List Int) (e' : Ps) (l' : List Int), go rs e l = some (e', l') → l.length = anys rs + l'.length
  | [], e, l, e', l', h => by cases h; show l.length = 0 + l.length; omega
  | .any x :: r, e, [], e', l', h => by cases h
  | .any x :: r, e, n :: l, e', l', h => by
    have := go_len r (put e x n) l e' l' h
    show l.length + 1 = anys r + 1 + l'.length
    omega
  | .lt x a n :: r, e, l, e', l', h => go_len r (put e x (n + lin a (get e))) l e' l' h
  | .hold c :: r, e, l, e', l', h => by
    have h : (if c.holds (get e) = true then go r e l else none) = some (e', l') := h
    split at h
    · exact go_len r e l e' l' h
    · cases h
theorem due_none {rs : List Rw} {l : List Int} (h : ¬ l.length = anys rs) : due rs l = none := by
  unfold due
  cases q : go rs [] l with
  | none => rfl
  | some z =>
    obtain ⟨e, m⟩ := z
    cases m with
    | nil => exact absurd (go_len rs [] l e [] q) h
    | cons a b => rfl
end Hw
set_option maxHeartbeats 8000000
namespace Hw
open PySem L2 PyProof.Rows
def top (i : Nat) : Stmt := PySem.Challenge.pw_holdwright_k28_along.main.body.getD i (.Pass ⟨0, 0, 0, 0⟩)
end Hw
namespace Hw
open PySem L2 PyProof.Rows
section
variable {P : Program} {w : World} {K : PySem.W.Frag} {mg : Str → Option Value} {base : Heap}
abbrev sInit : Stmt := inClass (top 4) 0
theorem sc_Sum___init : FnScope ["self", "terms", "number"] ["self", "terms", "number"] (defScope sInit) := ⟨rfl, rfl, rfl, by decide +kernel, rfl, by decide +kernel, by decide +kernel⟩
theorem ok_init {f C : Addr} {fd : FuncData} (F : Fun K "__init__" "Sum.__init__" sInit f fd) (T : Txt K mg C)  : FnOk P w K mg base CX0 1 f fd ["self", "terms", "number"] (spInit C) := by
  refine F.ok sc_Sum___init (fun vs H Q E h => ?_) (fun cdv A outer s H vs Q E hr h => ?_)
  · obtain ⟨p, dx, l, n, ps, rfl, hp, hs, hz, k⟩ := h
    rfl
  · obtain ⟨p, dx, l, n, ps, rfl, hp, hs, hz, k⟩ := h
    have hu := hu_of hr
    rw [show defBody sInit = [_, _] from rfl]
    refine ⟨_, (pss_cons (ps_fld (pv 0) (pe_callTy call_tuple_of (by rfl) T.tuple boot_tuple (pa_cons (pe_comp (compSc_mk ["pair"] [] [] rfl (by decide +kernel) (by decide +kernel) (by with_unfolding_all rfl) (by exact trivial) (by rfl) rfl (by rfl)) rfl (pi_seq (pv 1)) (fun _ _ _ _ => (pg_name (i := 0) (show List.Nodup (["pair"] : List Str) by decide +kernel) rfl (Or.inl rfl) (Or.inr rfl))) (fun _ _ _ _ => pts_nil) (fun _ _ _ _ => (pe_callTy (call_tuple_ofK (K := K) rfl) (by rfl) T.tuple boot_tuple (pa_cons (pv 0) pa_nil)))) pa_nil)) rfl)
      (pss_one (ps_fld (pv 0) (pv 2) rfl))), ?_⟩
    refine ⟨_, rfl, l, rfl, comp_sq hs (fun i ys H' => H' = H ∧ Prs H ys (ps.take i)) ⟨rfl, .nil⟩ (fun i ys H' q => q.1 ▸ Kp.refl) ?_ ?_⟩
    · rintro i v pr ys H' hi ⟨a, rfl, ha⟩ ⟨rfl, hy⟩
      refine ⟨Ext.one, alwT ⟨_, rfl, a, _, rfl, .inr ⟨SqT.of ha, ?_, rfl, ?_⟩⟩⟩
      · rw [prs_len hy, List.length_take]
        exact line _ (by omega)
      · rw [take_snoc hi]
        exact prs_app hy (prs_one ⟨a, rfl, ha⟩)
    · rintro ys H' ⟨rfl, hy⟩ q hq
      rw [List.take_length] at hy
      refine ⟨q, _, rfl, .inl ⟨SqL.of upd_same, fun t ht => ?_⟩⟩
      have npq : p ≠ q := ne_of_none hp hq
      have h1 : upd H' q (.lst ys) p = some (.ins C dx []) := by rw [upd_ne npq]; exact hp
      have npt : p ≠ t := ne_of_none h1 ht
      refine ⟨_, rfl, p, C, dx, [], rfl, (by rw [upd_ne npt]; exact h1), T.cl, T.nT, (by show 0 < 1000; decide), ?_⟩
      refine ⟨_, rfl, _, rfl, p, C, dx, _, rfl, upd_same, T.cl, T.nN, (by show 1 < 1000; decide), ?_⟩
      have b : But p H' (upd (upd (upd (upd H' q (.lst ys)) t (.tup ys)) p (.ins C dx (putF "terms" (.ref t) []))) p (.ins C dx (sflds t n))) :=
        (((But.of (new hq)).new ht).trans But.upd).trans But.upd
      refine k _ b ⟨dx, t, upd_same, ⟨ys, ?_, hy.keep ?_⟩, hz⟩
      · rw [upd_ne npt.symm, upd_ne npt.symm, upd_same]
      · exact (Kp.but b (by intro xs; rw [hp]; intro z; cases z) (by intro xs; rw [hp]; intro z; cases z)).t
end
end Hw
namespace Hw
open PySem L2 PyProof.Rows
section
variable {P : Program} {w : World} {K : PySem.W.Frag} {mg : Str → Option Value} {base : Heap}
abbrev sValue : Stmt := inClass (top 4) 1
theorem sc_Sum_value : FnScope ["self", "numbers"] ["self", "numbers"] (defScope sValue) := ⟨rfl, rfl, rfl, by decide +kernel, rfl, by decide +kernel, by decide +kernel⟩
theorem ok_value {f C : Addr} {fd : FuncData} (F : Fun K "value" "Sum.value" sValue f fd) (T : Txt K mg C)  : FnOk P w K mg base CX0 1 f fd ["self", "numbers"] (spValue C) := by
  refine F.ok sc_Sum_value (fun vs H Q E h => ?_) (fun cdv A outer s H vs Q E hr h => ?_)
  · obtain ⟨p, d, ts, ns, n, rfl, S, N, hk, k⟩ := h
    rfl
  · obtain ⟨p, d, ts, ns, n, rfl, S, N, hk, k⟩ := h
    have hu := hu_of hr
    rw [show defBody sValue = [_] from rfl]
    refine ⟨_, (pss_one (ps_ret (pe_op op_add (pe_fld (pv 0) rfl) (pe_callB (call_sum rfl) (by rfl) T.sum boot_sum (pa_cons (pe_comp (compSc_mk ["thing", "weight"] ["numbers"] [1] rfl (by decide +kernel) (by decide +kernel) (by with_unfolding_all rfl) (by exact ⟨rfl, trivial⟩) (by rfl) rfl (by rfl)) rfl (pi_tup (pe_fld (pv 0) rfl)) (fun _ _ _ _ => (pg_tupK (K := K) (n := 2) rfl rfl (pgs_cons (pg_name (i := 0) (show List.Nodup (["thing", "weight", "numbers"] : List Str) by decide +kernel) rfl (Or.inl rfl) (Or.inr rfl)) (pgs_cons (pg_name (i := 1) (show List.Nodup (["thing", "weight", "numbers"] : List Str) by decide +kernel) rfl (Or.inl rfl) (Or.inr rfl)) pgs_nil)))) (fun _ _ _ _ => pts_nil) (fun _ _ _ _ => (pe_op op_mul (pv 1) (pe_dget hu (pv 2) (pv 0) (fun _ _ => rfl))))) pa_nil))))), ?_⟩
    obtain ⟨dx, t, hp, ht, hz⟩ := S
    have tz := line _ (show ts.length ≤ 100000 by omega)
    refine ⟨_, rfl, p, C, dx, _, _, rfl, hp, T.cl, T.nN, sflds_number _ _, _, rfl, p, C, dx, _, _, rfl, hp, T.cl, T.nT, sflds_terms _ _, t, rfl, comp_tp ht (fun i ys H' => H' = H ∧ ys = ((ts.take i).map fun q => q.2 * get ns q.1).map V.int) ⟨rfl, rfl⟩ (fun i ys H' q => q.1 ▸ Kp.refl) ?_ ?_⟩
    · rintro i v pr ys H' hi ⟨a, rfl, ha⟩ ⟨rfl, rfl⟩
      have hil : i < ts.length := (List.getElem?_eq_some_iff.mp hi).1
      have hm : pr.1 ∈ keys ns := hk _ (List.mem_map.mpr ⟨pr, List.mem_of_getElem? hi, rfl⟩)
      refine ⟨a, _, rfl, SqT.of ha, rfl, _, _, rfl, _, _, rfl, rfl, Ext.two, alwT ⟨_, rfl, _, rfl, _, rfl, d, _, rfl, nums_get N.at_ hm, _, _, rfl, rfl, .inr (N.fit _), ?_, rfl, ?_⟩⟩
      · rw [List.length_map, List.length_map, List.length_take]
        omega
      · rw [take_snoc hi, List.map_append, List.map_append]
        rfl
    · rintro ys H' ⟨rfl, rfl⟩ q hq
      refine ⟨q, _, rfl, SqL.of upd_same, _, _, rfl, rfl, ?_⟩
      rw [List.take_length, lin_sum]
      exact k _ (new hq)
end
end Hw
namespace Hw
open PySem L2 PyProof.Rows
section
variable {P : Program} {w : World} {K : PySem.W.Frag} {mg : Str → Option Value} {base : Heap}
abbrev sSTold : Stmt := inClass (top 4) 7
theorem sc_Sum_told : FnScope ["self"] ["self"] (defScope sSTold) := ⟨rfl, rfl, rfl, by decide +kernel, rfl, by decide +kernel, by decide +kernel⟩
theorem ok_stold {f : Addr} {fd : FuncData} {Z : Cz} {n : Nat} (F : Fun K "told" "Sum.told" sSTold f fd) (T : Txt K mg Z.s) (U : Txz K mg Z)  : FnOk P w K mg base CX0 1 f fd ["self"] (spTold Z.s) := by
  refine F.ok sc_Sum_told (fun vs H Q E h => ?_) (fun cdv A outer s H vs Q E hr h => ?_)
  · obtain ⟨p, ts, n, rfl, S0, k⟩ := h
    rfl
  · obtain ⟨p, ts, n, rfl, S0, k⟩ := h
    have hu := hu_of hr
    rw [show defBody sSTold = [_] from rfl]
    refine ⟨_, (pss_one (ps_ret (pe_tup (pa_cons (pe_fld (pv 0) rfl) (pa_cons (pe_fld (pv 0) rfl) pa_nil))))), ?_⟩
    obtain ⟨dx, t, hp, ht, hz⟩ := id S0
    exact ⟨_, rfl, p, Z.s, dx, _, _, rfl, hp, T.cl, T.nT, sflds_terms _ _, _, rfl, p, Z.s, dx, _, _, rfl, hp, T.cl, T.nN, sflds_number _ _, Nat.le_of_lt (line 2 (by decide)), fun r hr' => k r _ (new hr') ⟨t, upd_same, ht.same (new hr')⟩⟩
end
end Hw
namespace Hw
open PySem L2 PyProof.Rows
section
variable {P : Program} {w : World} {K : PySem.W.Frag} {mg : Str → Option Value} {base : Heap}
abbrev sCInit : Stmt := inClass (top 8) 0
theorem sc_Compare___init : FnScope ["self", "one", "sign", "other"] ["self", "one", "sign", "other"] (defScope sCInit) := ⟨rfl, rfl, rfl, by decide +kernel, rfl, by decide +kernel, by decide +kernel⟩
theorem ok_cinit {f : Addr} {fd : FuncData} {Z : Cz} {n : Nat} (F : Fun K "__init__" "Compare.__init__" sCInit f fd) (T : Txt K mg Z.s) (U : Txz K mg Z)  : FnOk P w K mg base CX0 1 f fd ["self", "one", "sign", "other"] (spCInit Z) := by
  refine F.ok sc_Compare___init (fun vs H Q E h => ?_) (fun cdv A outer s H vs Q E hr h => ?_)
  · obtain ⟨p, dx, u, w, s, rfl, hp, k⟩ := h
    rfl
  · obtain ⟨p, dx, u, w, s, rfl, hp, k⟩ := h
    have hu := hu_of hr
    rw [show defBody sCInit = [_, _, _] from rfl]
    refine ⟨_, (pss_cons (ps_fld (pv 0) (pv 1) rfl)
      (pss_cons (ps_fld (pv 0) (pv 2) rfl)
      (pss_one (ps_fld (pv 0) (pv 3) rfl)))), ?_⟩
    refine ⟨_, rfl, _, rfl, p, Z.c, dx, _, rfl, hp, U.cl 0 (by decide), U.n1, (by show 0 < 1000; decide), ?_⟩
    refine ⟨_, rfl, _, rfl, p, Z.c, dx, _, rfl, upd_same, U.cl 0 (by decide), U.n2, (by show 1 < 1000; decide), ?_⟩
    refine ⟨_, rfl, _, rfl, p, Z.c, dx, _, rfl, upd_same, U.cl 0 (by decide), U.n3, (by show 2 < 1000; decide), ?_⟩
    exact k _ ((But.upd.trans But.upd).trans But.upd) upd_same
end
end Hw
namespace Hw
open PySem L2 PyProof.Rows
section
variable {P : Program} {w : World} {K : PySem.W.Frag} {mg : Str → Option Value} {base : Heap}
abbrev sTInit : Stmt := inClass (top 9) 0
theorem sc_Turned___init : FnScope ["self", "condition"] ["self", "condition"] (defScope sTInit) := ⟨rfl, rfl, rfl, by decide +kernel, rfl, by decide +kernel, by decide +kernel⟩
theorem ok_tinit {f : Addr} {fd : FuncData} {Z : Cz} {n : Nat} (F : Fun K "__init__" "Turned.__init__" sTInit f fd) (T : Txt K mg Z.s) (U : Txz K mg Z)  : FnOk P w K mg base CX0 1 f fd ["self", "condition"] (spTInit Z) := by
  refine F.ok sc_Turned___init (fun vs H Q E h => ?_) (fun cdv A outer s H vs Q E hr h => ?_)
  · obtain ⟨p, dx, u, rfl, hp, k⟩ := h
    rfl
  · obtain ⟨p, dx, u, rfl, hp, k⟩ := h
    have hu := hu_of hr
    rw [show defBody sTInit = [_] from rfl]
    refine ⟨_, (pss_one (ps_fld (pv 0) (pv 1) rfl)), ?_⟩
    refine ⟨_, rfl, _, rfl, p, Z.t, dx, _, rfl, hp, U.cl 1 (by decide), U.n4, (by show 0 < 1000; decide), ?_⟩
    exact k _ But.upd upd_same
end
end Hw
namespace Hw
open PySem L2 PyProof.Rows
section
variable {P : Program} {w : World} {K : PySem.W.Frag} {mg : Str → Option Value} {base : Heap}
abbrev sVInit : Stmt := inClass (top 10) 0
theorem sc_Several___init : FnScope ["self", "conditions"] ["self", "conditions"] (defScope sVInit) := ⟨rfl, rfl, rfl, by decide +kernel, rfl, by decide +kernel, by decide +kernel⟩
theorem ok_einitT {f : Addr} {fd : FuncData} {Z : Cz} {n : Nat} (F : Fun K "__init__" "Several.__init__" sVInit f fd) (T : Txt K mg Z.s) (U : Txz K mg Z)  : FnOk P w K mg base CX0 1 f fd ["self", "conditions"] (spVInitT Z.e) := by
  refine F.ok sc_Several___init (fun vs H Q E h => ?_) (fun cdv A outer s H vs Q E hr h => ?_)
  · obtain ⟨p, dx, l, us, rfl, hp, hl, k⟩ := h
    rfl
  · obtain ⟨p, dx, l, us, rfl, hp, hl, k⟩ := h
    have hu := hu_of hr
    rw [show defBody sVInit = [_] from rfl]
    refine ⟨_, (pss_one (ps_fld (pv 0) (pe_callTy call_tuple_of (by rfl) T.tuple boot_tuple (pa_cons (pv 1) pa_nil)) rfl)), ?_⟩
    refine ⟨_, rfl, l, _, rfl, .inr ⟨SqT.of hl, ?_⟩⟩
    refine ⟨_, rfl, p, Z.e, dx, _, rfl, hp, U.cl 2 (by decide), U.n5, (by show 0 < 1000; decide), ?_⟩
    exact k _ But.upd upd_same
end
end Hw
namespace Hw
open PySem L2 PyProof.Rows
section
variable {P : Program} {w : World} {K : PySem.W.Frag} {mg : Str → Option Value} {base : Heap}
theorem ok_oinitT {f : Addr} {fd : FuncData} {Z : Cz} {n : Nat} (F : Fun K "__init__" "Several.__init__" sVInit f fd) (T : Txt K mg Z.s) (U : Txz K mg Z)  : FnOk P w K mg base CX0 1 f fd ["self", "conditions"] (spVInitT Z.o) := by
  refine F.ok sc_Several___init (fun vs H Q E h => ?_) (fun cdv A outer s H vs Q E hr h => ?_)
  · obtain ⟨p, dx, l, us, rfl, hp, hl, k⟩ := h
    rfl
  · obtain ⟨p, dx, l, us, rfl, hp, hl, k⟩ := h
    have hu := hu_of hr
    rw [show defBody sVInit = [_] from rfl]
    refine ⟨_, (pss_one (ps_fld (pv 0) (pe_callTy call_tuple_of (by rfl) T.tuple boot_tuple (pa_cons (pv 1) pa_nil)) rfl)), ?_⟩
    refine ⟨_, rfl, l, _, rfl, .inr ⟨SqT.of hl, ?_⟩⟩
    refine ⟨_, rfl, p, Z.o, dx, _, rfl, hp, U.cl 3 (by decide), U.n6, (by show 0 < 1000; decide), ?_⟩
    exact k _ But.upd upd_same
end
end Hw
namespace Hw
open PySem L2 PyProof.Rows
section
variable {P : Program} {w : World} {K : PySem.W.Frag} {mg : Str → Option Value} {base : Heap}
abbrev sCTold : Stmt := inClass (top 8) 4
theorem sc_Compare_told : FnScope ["self"] ["self"] (defScope sCTold) := ⟨rfl, rfl, rfl, by decide +kernel, rfl, by decide +kernel, by decide +kernel⟩
theorem ok_ctold {f : Addr} {fd : FuncData} {Z : Cz} {n : Nat} (F : Fun K "told" "Compare.told" sCTold f fd) (T : Txt K mg Z.s) (U : Txz K mg Z) (d_told : Mt P w K mg base 1 Z.s "told" ["self"] (spTold Z.s)) : FnOk P w K mg base CX0 (n + 2) f fd ["self"] (spCTold Z (n + 1) 0) := by
  obtain ⟨f_told, fd_told, G_Sum_told, m_told, b_Sum_told⟩ := d_told
  refine F.ok sc_Compare_told (fun vs H Q E h => ?_) (fun cdv A outer s H vs Q E hr h => ?_)
  · obtain ⟨p, c, rfl, sj, hc, hd, k⟩ := h
    rfl
  · obtain ⟨p, c, rfl, sj, hc, hd, k⟩ := h
    have hu := hu_of hr
    rw [show defBody sCTold = [_] from rfl]
    refine ⟨_, (pss_one (ps_ret (pe_tup (pa_cons pe_str (pa_cons (pe_meth0 (pe_fld (pv 0) rfl) T.cl m_told G_Sum_told (hr.mono (by first | decide | omega)) b_Sum_told .nil pass0) (pa_cons (pe_fld (pv 0) rfl) (pa_cons (pe_meth0 (pe_fld (pv 0) rfl) T.cl m_told G_Sum_told (hr.mono (by first | decide | omega)) b_Sum_told .nil pass0) pa_nil))))))), ?_⟩
    cases c with
    | neg c => exact absurd sj (by show ¬ (1 = 0); decide)
    | con b cs => cases b <;> exact absurd sj (by first | (show ¬ (2 = 0); decide) | (show ¬ (3 = 0); decide))
    | cmp a i s b m =>
    unfold CondAt at hc
    obtain ⟨q, dx, u, w, e, ep, s1, s2⟩ := hc
    cases e
    obtain ⟨du, tu, hu', _⟩ := id s1
    obtain ⟨dw, tw, hw', _⟩ := id s2
    refine ⟨_, rfl, p, Z.c, dx, _, _, rfl, ep, U.cl 0 (by decide), U.n1, lk_c1 _ _ _, u, du, _, rfl, hu', sflds_no _ _ (by decide +kernel) (by decide +kernel), u, a, i, rfl, s1, fun r1 H1 sm1 D1 => ?_⟩
    refine ⟨_, rfl, p, Z.c, dx, _, _, rfl, sm1 _ _ ep, U.cl 0 (by decide), U.n2, lk_c2 _ _ _, ?_⟩
    refine ⟨_, rfl, p, Z.c, dx, _, _, rfl, sm1 _ _ ep, U.cl 0 (by decide), U.n3, lk_c3 _ _ _, w, dw, _, rfl, sm1 _ _ hw', sflds_no _ _ (by decide +kernel) (by decide +kernel), w, b, m, rfl, s2.same sm1, fun r2 H2 sm2 D2 => ?_⟩
    refine ⟨Nat.le_of_lt (line 4 (by decide)), fun r hr' => k (.ref r) _ ((sm1.trans sm2).trans (new hr')) ?_⟩
    unfold ToldAt
    exact ⟨r, r1, r2, rfl, upd_same, (D1.same sm2).same (new hr'), D2.same (new hr')⟩
end
end Hw
namespace Hw
open PySem L2 PyProof.Rows
section
variable {P : Program} {w : World} {K : PySem.W.Frag} {mg : Str → Option Value} {base : Heap}
abbrev sTTold : Stmt := inClass (top 9) 4
theorem sc_Turned_told : FnScope ["self"] ["self"] (defScope sTTold) := ⟨rfl, rfl, rfl, by decide +kernel, rfl, by decide +kernel, by decide +kernel⟩
theorem ok_ttold {f : Addr} {fd : FuncData} {Z : Cz} {n : Nat} (F : Fun K "told" "Turned.told" sTTold f fd) (T : Txt K mg Z.s) (U : Txz K mg Z) (M4_told : M4 P w K mg base (n + 1) Z "told" ["self"] (spCTold Z n)) : FnOk P w K mg base CX0 (n + 2) f fd ["self"] (spCTold Z (n + 1) 1) := by
  refine F.ok sc_Turned_told (fun vs H Q E h => ?_) (fun cdv A outer s H vs Q E hr h => ?_)
  · obtain ⟨p, c, rfl, sj, hc, hd, k⟩ := h
    rfl
  · obtain ⟨p, c, rfl, sj, hc, hd, k⟩ := h
    have hu := hu_of hr
    rw [show defBody sTTold = [_] from rfl]
    refine ⟨_, (pss_one (ps_ret (pe_tup (pa_cons pe_str (pa_cons (pe_cm0 (Z := Z) (pe_fld (pv 0) rfl) U.cl nf_told M4_told (hr.mono (by first | decide | omega)) pass0) pa_nil))))), ?_⟩
    cases c with
    | cmp a i s b m => exact absurd sj (by show ¬ (0 = 1); decide)
    | con b cs => cases b <;> exact absurd sj (by first | (show ¬ (2 = 1); decide) | (show ¬ (3 = 1); decide))
    | neg c =>
    unfold CondAt at hc
    obtain ⟨q, dx, u, e, ep, hc⟩ := hc
    cases e
    obtain ⟨pu, rfl⟩ := cond_ref hc
    refine ⟨_, rfl, p, Z.t, dx, _, _, rfl, ep, U.cl 1 (by decide), U.n4, lk_t _, pu, c, rfl, hc, pu, c, rfl, rfl, hc, (by unfold Cd.dep at hd; omega), fun v H1 sm d => ?_⟩
    refine ⟨Nat.le_of_lt (line 2 (by decide)), fun r hr' => k (.ref r) _ (sm.trans (new hr')) ?_⟩
    unfold ToldAt
    exact ⟨r, v, rfl, upd_same, d.hard (Hard.of (new hr'))⟩
end
end Hw
namespace Hw
open PySem L2 PyProof.Rows
section
variable {P : Program} {w : World} {K : PySem.W.Frag} {mg : Str → Option Value} {base : Heap}
abbrev sETold : Stmt := inClass (top 11) 2
theorem sc_Every_told : FnScope ["self"] ["self"] (defScope sETold) := ⟨rfl, rfl, rfl, by decide +kernel, rfl, by decide +kernel, by decide +kernel⟩
theorem ok_etold {f : Addr} {fd : FuncData} {Z : Cz} {n : Nat} (F : Fun K "told" "Every.told" sETold f fd) (T : Txt K mg Z.s) (U : Txz K mg Z) (M4_told : M4 P w K mg base (n + 1) Z "told" ["self"] (spCTold Z n)) : FnOk P w K mg base CX0 (n + 2) f fd ["self"] (spCTold Z (n + 1) 2) := by
  refine F.ok sc_Every_told (fun vs H Q E h => ?_) (fun cdv A outer s H vs Q E hr h => ?_)
  · obtain ⟨p, c, rfl, sj, hc, hd, k⟩ := h
    rfl
  · obtain ⟨p, c, rfl, sj, hc, hd, k⟩ := h
    have hu := hu_of hr
    rw [show defBody sETold = [_] from rfl]
    refine ⟨_, (pss_one (ps_ret (pe_op op_catU (pe_tup (pa_cons pe_str pa_nil)) (pe_callTy call_tuple_of (by rfl) T.tuple boot_tuple (pa_cons (pe_comp (compSc_mk ["condition"] [] [] rfl (by decide +kernel) (by decide +kernel) (by with_unfolding_all rfl) (by exact trivial) (by rfl) rfl (by rfl)) rfl (pi_tup (pe_fld (pv 0) rfl)) (fun _ _ _ _ => (pg_name (i := 0) (show List.Nodup (["condition"] : List Str) by decide +kernel) rfl (Or.inl rfl) (Or.inr rfl))) (fun _ _ _ _ => pts_nil) (fun _ _ _ _ => (pe_cm0 (Z := Z) (pv 0) U.cl nf_told M4_told (hr.mono (by first | decide | omega)) pass0))) pa_nil))))), ?_⟩
    cases c with
    | cmp a i s b m => exact absurd sj (by show ¬ (0 = 2); decide)
    | neg c => exact absurd sj (by show ¬ (1 = 2); decide)
    | con b cs =>
    cases b with
    | false => exact absurd sj (by first | (show ¬ (2 = 2); decide) | (show ¬ (3 = 2); decide))
    | true =>
    unfold CondAt at hc
    obtain ⟨q, dx, t, us, e, ep, et, l, hcs⟩ := hc
    cases e
    have ep : H p = some (.ins Z.e dx (vflds t)) := ep
    have hpc := conds_paired.mp hcs
    have lus : us.length = cs.length := paired_len hpc
    refine ⟨(by show 1 ≤ sizeLine; exact Nat.le_of_lt (line 1 (by decide))), fun r1 hr1 => ?_⟩
    have s1 := new (o := .tup [.str (opW true)]) hr1
    refine ⟨_, rfl, p, Z.e, dx, _, _, rfl, s1 _ _ ep, U.cl 2 (by decide), U.n5, lk_v _, t, rfl, ⟨us, SqT.of (s1 _ _ et)⟩, comp_tup (xs := us) (fun i ys H' => Same (upd H r1 (.tup [.str (opW true)])) H' ∧ ToldsAt H' (cs.take i) ys) ⟨fun _ _ z => z, (by unfold ToldsAt; rfl)⟩ (fun i ys H' _ q => SqT.of (q.1 _ _ (s1 _ _ et))) ?_ ?_⟩
    · rintro i x ys H' hi ⟨sm, ht⟩
      obtain ⟨c, hci, hcx⟩ := paired_at hpc hi
      obtain ⟨pu, rfl⟩ := cond_ref hcx
      have hcx' := hcx.hard (Hard.of (s1.trans sm))
      have ild := (List.getElem?_eq_some_iff.mp hci).1
      have lys : ys.length ≤ i := by
        have z := paired_len (tolds_paired.mp ht)
        rw [List.length_take] at z
        omega
      have dd : c.dep ≤ n := by
        have z := dep_mem (List.mem_of_getElem? hci)
        unfold Cd.dep at hd
        omega
      refine ⟨Ext.one, alwT ⟨_, rfl, pu, c, rfl, hcx', pu, c, rfl, rfl, hcx', dd, fun v H1 sm1 d => ⟨line _ (by omega), sm.trans sm1, ?_⟩⟩⟩
      rw [take_snoc hci]
      exact tolds_paired.mpr (paired_snoc (tolds_paired.mp (ht.hard (Hard.of sm1))) d)
    · rintro ys H' ⟨sm, ht⟩ q hq
      rw [lus, List.take_length] at ht
      have lys : ys.length = cs.length := paired_len (tolds_paired.mp ht)
      refine ⟨q, _, rfl, .inl ⟨SqL.of upd_same, fun r2 hr2 => ?_⟩⟩
      have s3 : Same H' (upd (upd H' q (.lst ys)) r2 (.tup ys)) := Same.new (new hq) hr2
      refine ⟨r1, r2, _, _, rfl, rfl, SqT.of (s3 _ _ (sm _ _ upd_same)), SqT.of upd_same, (by show 1 + ys.length ≤ sizeLine; exact Nat.le_of_lt (line _ (by omega))), ?_, ?_, ?_⟩
      · intro z; cases z
      · intro _ z
        subst z
        refine k _ _ ((s1.trans sm).trans s3) ?_
        unfold ToldAt
        exact ⟨r1, [], rfl, s3 _ _ (sm _ _ upd_same), ht.hard (Hard.of s3)⟩
      · intro _ _ r hr'
        refine k _ _ (((s1.trans sm).trans s3).trans (new hr')) ?_
        unfold ToldAt
        exact ⟨r, ys, rfl, upd_same, (ht.hard (Hard.of s3)).hard (Hard.of (new hr'))⟩
end
end Hw
namespace Hw
open PySem L2 PyProof.Rows
section
variable {P : Program} {w : World} {K : PySem.W.Frag} {mg : Str → Option Value} {base : Heap}
abbrev sOTold : Stmt := inClass (top 12) 2
theorem sc_Some_told : FnScope ["self"] ["self"] (defScope sOTold) := ⟨rfl, rfl, rfl, by decide +kernel, rfl, by decide +kernel, by decide +kernel⟩
theorem ok_otold {f : Addr} {fd : FuncData} {Z : Cz} {n : Nat} (F : Fun K "told" "Some.told" sOTold f fd) (T : Txt K mg Z.s) (U : Txz K mg Z) (M4_told : M4 P w K mg base (n + 1) Z "told" ["self"] (spCTold Z n)) : FnOk P w K mg base CX0 (n + 2) f fd ["self"] (spCTold Z (n + 1) 3) := by
  refine F.ok sc_Some_told (fun vs H Q E h => ?_) (fun cdv A outer s H vs Q E hr h => ?_)
  · obtain ⟨p, c, rfl, sj, hc, hd, k⟩ := h
    rfl
  · obtain ⟨p, c, rfl, sj, hc, hd, k⟩ := h
    have hu := hu_of hr
    rw [show defBody sOTold = [_] from rfl]
    refine ⟨_, (pss_one (ps_ret (pe_op op_catU (pe_tup (pa_cons pe_str pa_nil)) (pe_callTy call_tuple_of (by rfl) T.tuple boot_tuple (pa_cons (pe_comp (compSc_mk ["condition"] [] [] rfl (by decide +kernel) (by decide +kernel) (by with_unfolding_all rfl) (by exact trivial) (by rfl) rfl (by rfl)) rfl (pi_tup (pe_fld (pv 0) rfl)) (fun _ _ _ _ => (pg_name (i := 0) (show List.Nodup (["condition"] : List Str) by decide +kernel) rfl (Or.inl rfl) (Or.inr rfl))) (fun _ _ _ _ => pts_nil) (fun _ _ _ _ => (pe_cm0 (Z := Z) (pv 0) U.cl nf_told M4_told (hr.mono (by first | decide | omega)) pass0))) pa_nil))))), ?_⟩
    cases c with
    | cmp a i s b m => exact absurd sj (by show ¬ (0 = 3); decide)
    | neg c => exact absurd sj (by show ¬ (1 = 3); decide)
    | con b cs =>
    cases b with
    | true => exact absurd sj (by first | (show ¬ (2 = 3); decide) | (show ¬ (3 = 3); decide))
    | false =>
    unfold CondAt at hc
    obtain ⟨q, dx, t, us, e, ep, et, l, hcs⟩ := hc
    cases e
    have ep : H p = some (.ins Z.o dx (vflds t)) := ep
    have hpc := conds_paired.mp hcs
    have lus : us.length = cs.length := paired_len hpc
    refine ⟨(by show 1 ≤ sizeLine; exact Nat.le_of_lt (line 1 (by decide))), fun r1 hr1 => ?_⟩
    have s1 := new (o := .tup [.str (opW false)]) hr1
    refine ⟨_, rfl, p, Z.o, dx, _, _, rfl, s1 _ _ ep, U.cl 3 (by decide), U.n6, lk_v _, t, rfl, ⟨us, SqT.of (s1 _ _ et)⟩, comp_tup (xs := us) (fun i ys H' => Same (upd H r1 (.tup [.str (opW false)])) H' ∧ ToldsAt H' (cs.take i) ys) ⟨fun _ _ z => z, (by unfold ToldsAt; rfl)⟩ (fun i ys H' _ q => SqT.of (q.1 _ _ (s1 _ _ et))) ?_ ?_⟩
    · rintro i x ys H' hi ⟨sm, ht⟩
      obtain ⟨c, hci, hcx⟩ := paired_at hpc hi
      obtain ⟨pu, rfl⟩ := cond_ref hcx
      have hcx' := hcx.hard (Hard.of (s1.trans sm))
      have ild := (List.getElem?_eq_some_iff.mp hci).1
      have lys : ys.length ≤ i := by
        have z := paired_len (tolds_paired.mp ht)
        rw [List.length_take] at z
        omega
      have dd : c.dep ≤ n := by
        have z := dep_mem (List.mem_of_getElem? hci)
        unfold Cd.dep at hd
        omega
      refine ⟨Ext.one, alwT ⟨_, rfl, pu, c, rfl, hcx', pu, c, rfl, rfl, hcx', dd, fun v H1 sm1 d => ⟨line _ (by omega), sm.trans sm1, ?_⟩⟩⟩
      rw [take_snoc hci]
      exact tolds_paired.mpr (paired_snoc (tolds_paired.mp (ht.hard (Hard.of sm1))) d)
    · rintro ys H' ⟨sm, ht⟩ q hq
      rw [lus, List.take_length] at ht
      have lys : ys.length = cs.length := paired_len (tolds_paired.mp ht)
      refine ⟨q, _, rfl, .inl ⟨SqL.of upd_same, fun r2 hr2 => ?_⟩⟩
      have s3 : Same H' (upd (upd H' q (.lst ys)) r2 (.tup ys)) := Same.new (new hq) hr2
      refine ⟨r1, r2, _, _, rfl, rfl, SqT.of (s3 _ _ (sm _ _ upd_same)), SqT.of upd_same, (by show 1 + ys.length ≤ sizeLine; exact Nat.le_of_lt (line _ (by omega))), ?_, ?_, ?_⟩
      · intro z; cases z
      · intro _ z
        subst z
        refine k _ _ ((s1.trans sm).trans s3) ?_
        unfold ToldAt
        exact ⟨r1, [], rfl, s3 _ _ (sm _ _ upd_same), ht.hard (Hard.of s3)⟩
      · intro _ _ r hr'
        refine k _ _ (((s1.trans sm).trans s3).trans (new hr')) ?_
        unfold ToldAt
        exact ⟨r, ys, rfl, upd_same, (ht.hard (Hard.of s3)).hard (Hard.of (new hr'))⟩
end
end Hw
namespace Hw
open PySem L2 PyProof.Rows
section
variable {P : Program} {w : World} {K : PySem.W.Frag} {mg : Str → Option Value} {base : Heap}
abbrev sCholds : Stmt := inClass (top 8) 2
theorem sc_Compare_holds : FnScope ["self", "numbers"] ["self", "numbers"] (defScope sCholds) := ⟨rfl, rfl, rfl, by decide +kernel, rfl, by decide +kernel, by decide +kernel⟩
theorem ok_cholds {f : Addr} {fd : FuncData} {Z : Cz} {n : Nat} (F : Fun K "holds" "Compare.holds" sCholds f fd) (T : Txt K mg Z.s) (U : Txz K mg Z) (d_value : Mt P w K mg base 1 Z.s "value" ["self", "numbers"] (spValue Z.s)) (d_cmps : Dn P w K mg base 1 "compares" ["one", "sign", "other"] spCompares) : FnOk P w K mg base CX0 (n + 2) f fd ["self", "numbers"] (spCHolds Z (n + 1) 0) := by
  obtain ⟨f_value, fd_value, G_Sum_value, m_value, b_Sum_value⟩ := d_value
  obtain ⟨f_cmps, fd_cmps, G_compares, mg_compares, kp_compares, b_compares⟩ := d_cmps
  refine F.ok sc_Compare_holds (fun vs H Q E h => ?_) (fun cdv A outer s H vs Q E hr h => ?_)
  · obtain ⟨p, d, c, ns, rfl, sj, hc, hd, ho, N, hi, k⟩ := h
    rfl
  · obtain ⟨p, d, c, ns, rfl, sj, hc, hd, ho, N, hi, k⟩ := h
    have hu := hu_of hr
    rw [show defBody sCholds = [_] from rfl]
    refine ⟨_, (pss_one (ps_ret (pe_call G_compares (hr.mono (by first | decide | omega)) rfl mg_compares kp_compares b_compares .nil pass0 (pa_cons (pe_meth (pe_fld (pv 0) rfl) T.cl m_value G_Sum_value (hr.mono (by first | decide | omega)) b_Sum_value .nil pass0 (pa_cons (pv 1) pa_nil)) (pa_cons (pe_fld (pv 0) rfl) (pa_cons (pe_meth (pe_fld (pv 0) rfl) T.cl m_value G_Sum_value (hr.mono (by first | decide | omega)) b_Sum_value .nil pass0 (pa_cons (pv 1) pa_nil)) pa_nil)))))), ?_⟩
    cases c with
    | neg c => exact absurd sj (by show ¬ (1 = 0); decide)
    | con b cs => cases b <;> exact absurd sj (by first | (show ¬ (2 = 0); decide) | (show ¬ (3 = 0); decide))
    | cmp a i s b m =>
    unfold CondAt at hc
    unfold cdIn at hi
    obtain ⟨q, dx, u, w, e, ep, s1, s2⟩ := hc
    cases e
    obtain ⟨du, tu, hu', _⟩ := id s1
    obtain ⟨dw, tw, hw', _⟩ := id s2
    refine ⟨_, rfl, p, Z.c, dx, _, _, rfl, ep, U.cl 0 (by decide), U.n1, lk_c1 _ _ _, u, du, _, rfl, hu', sflds_no _ _ (by decide +kernel) (by decide +kernel), _, rfl, u, d, a, ns, i, rfl, s1, N, (fun t ht => let ⟨z, hz, e⟩ := List.mem_map.mp ht; e ▸ hi.1 z hz), fun H1 sm1 => ?_⟩
    refine ⟨_, rfl, p, Z.c, dx, _, _, rfl, sm1 _ _ ep, U.cl 0 (by decide), U.n2, lk_c2 _ _ _, ?_⟩
    refine ⟨_, rfl, p, Z.c, dx, _, _, rfl, sm1 _ _ ep, U.cl 0 (by decide), U.n3, lk_c3 _ _ _, w, dw, _, rfl, sm1 _ _ hw', sflds_no _ _ (by decide +kernel) (by decide +kernel), _, rfl, w, d, b, ns, m, rfl, s2.same sm1, N.same sm1, (fun t ht => let ⟨z, hz, e⟩ := List.mem_map.mp ht; e ▸ hi.2 z hz), fun H2 sm2 => ?_⟩
    refine ⟨_, _, s, rfl, ?_⟩
    have k := k _ (sm1.trans sm2)
    unfold Cd.holds at k
    exact k
end
end Hw
namespace Hw
open PySem L2 PyProof.Rows
section
variable {P : Program} {w : World} {K : PySem.W.Frag} {mg : Str → Option Value} {base : Heap}
abbrev sTholds : Stmt := inClass (top 9) 2
theorem sc_Turned_holds : FnScope ["self", "numbers"] ["self", "numbers"] (defScope sTholds) := ⟨rfl, rfl, rfl, by decide +kernel, rfl, by decide +kernel, by decide +kernel⟩
theorem ok_tholds {f : Addr} {fd : FuncData} {Z : Cz} {n : Nat} (F : Fun K "holds" "Turned.holds" sTholds f fd) (T : Txt K mg Z.s) (U : Txz K mg Z) (M4_holds : M4 P w K mg base (n + 1) Z "holds" ["self", "numbers"] (spCHolds Z n)) : FnOk P w K mg base CX0 (n + 2) f fd ["self", "numbers"] (spCHolds Z (n + 1) 1) := by
  refine F.ok sc_Turned_holds (fun vs H Q E h => ?_) (fun cdv A outer s H vs Q E hr h => ?_)
  · obtain ⟨p, d, c, ns, rfl, sj, hc, hd, ho, N, hi, k⟩ := h
    rfl
  · obtain ⟨p, d, c, ns, rfl, sj, hc, hd, ho, N, hi, k⟩ := h
    have hu := hu_of hr
    rw [show defBody sTholds = [_] from rfl]
    refine ⟨_, (pss_one (ps_ret (pe_not (pe_cm (Z := Z) (pe_fld (pv 0) rfl) U.cl nf_holds M4_holds (hr.mono (by first | decide | omega)) pass0 (pa_cons (pv 1) pa_nil))))), ?_⟩
    cases c with
    | cmp a i s b m => exact absurd sj (by show ¬ (0 = 1); decide)
    | con b cs => cases b <;> exact absurd sj (by first | (show ¬ (2 = 1); decide) | (show ¬ (3 = 1); decide))
    | neg c =>
    unfold CondAt at hc
    unfold cdIn at hi
    unfold Cd.ok at ho
    obtain ⟨q, dx, u, e, ep, hc⟩ := hc
    cases e
    obtain ⟨pu, rfl⟩ := cond_ref hc
    refine ⟨_, rfl, p, Z.t, dx, _, _, rfl, ep, U.cl 1 (by decide), U.n4, lk_t _, pu, c, rfl, hc, _, rfl, pu, d, c, ns, rfl, rfl, hc, (by unfold Cd.dep at hd; omega), ho, N, hi, fun H1 sm => ?_⟩
    have k := k _ sm
    unfold Cd.holds at k
    exact ⟨_, rfl, k⟩
end
end Hw
namespace Hw
open PySem L2 PyProof.Rows
section
variable {P : Program} {w : World} {K : PySem.W.Frag} {mg : Str → Option Value} {base : Heap}
abbrev sEholds : Stmt := inClass (top 11) 0
theorem sc_Every_holds : FnScope ["self", "numbers"] ["self", "numbers"] (defScope sEholds) := ⟨rfl, rfl, rfl, by decide +kernel, rfl, by decide +kernel, by decide +kernel⟩
theorem ok_eholds {f : Addr} {fd : FuncData} {Z : Cz} {n : Nat} (F : Fun K "holds" "Every.holds" sEholds f fd) (T : Txt K mg Z.s) (U : Txz K mg Z) (M4_holds : M4 P w K mg base (n + 1) Z "holds" ["self", "numbers"] (spCHolds Z n)) : FnOk P w K mg base CX0 (n + 2) f fd ["self", "numbers"] (spCHolds Z (n + 1) 2) := by
  refine F.ok sc_Every_holds (fun vs H Q E h => ?_) (fun cdv A outer s H vs Q E hr h => ?_)
  · obtain ⟨p, d, c, ns, rfl, sj, hc, hd, ho, N, hi, k⟩ := h
    rfl
  · obtain ⟨p, d, c, ns, rfl, sj, hc, hd, ho, N, hi, k⟩ := h
    have hu := hu_of hr
    rw [show defBody sEholds = [_] from rfl]
    refine ⟨_, (pss_one (ps_ret (pe_callB (call_all rfl) (by rfl) U.all boot_all (pa_cons (pe_comp (compSc_mk ["condition"] ["numbers"] [1] rfl (by decide +kernel) (by decide +kernel) (by with_unfolding_all rfl) (by exact ⟨rfl, trivial⟩) (by rfl) rfl (by rfl)) rfl (pi_tup (pe_fld (pv 0) rfl)) (fun _ _ _ _ => (pg_name (i := 0) (show List.Nodup (["condition", "numbers"] : List Str) by decide +kernel) rfl (Or.inl rfl) (Or.inr rfl))) (fun _ _ _ _ => pts_nil) (fun _ _ _ _ => (pe_cm (Z := Z) (pv 0) U.cl nf_holds M4_holds (hr.mono (by first | decide | omega)) pass0 (pa_cons (pv 1) pa_nil)))) pa_nil)))), ?_⟩
    cases c with
    | cmp a i s b m => exact absurd sj (by show ¬ (0 = 2); decide)
    | neg c => exact absurd sj (by show ¬ (1 = 2); decide)
    | con b cs =>
    cases b with
    | false => exact absurd sj (by first | (show ¬ (2 = 2); decide) | (show ¬ (3 = 2); decide))
    | true =>
    unfold CondAt at hc
    obtain ⟨q, dx, t, us, e, ep, et, l, hcs⟩ := hc
    cases e
    have ep : H p = some (.ins Z.e dx (vflds t)) := ep
    have hpc := conds_paired.mp hcs
    have lus : us.length = cs.length := paired_len hpc
    unfold cdIn at hi
    unfold Cd.ok at ho
    refine ⟨_, rfl, p, Z.e, dx, _, _, rfl, ep, U.cl 2 (by decide), U.n5, lk_v _, t, rfl, ⟨us, SqT.of et⟩, comp_tup (xs := us) (fun i ys H' => Same H H' ∧ ys = ((cs.take i).map (Cd.holds (get ns))).map V.bl) ⟨fun _ _ z => z, rfl⟩ (fun i ys H' _ q => SqT.of (q.1 _ _ et)) ?_ ?_⟩
    · rintro i x ys H' hix ⟨sm, rfl⟩
      obtain ⟨c, hci, hcx⟩ := paired_at hpc hix
      obtain ⟨pu, rfl⟩ := cond_ref hcx
      have hcx' := hcx.hard (Hard.of sm)
      have ild := (List.getElem?_eq_some_iff.mp hci).1
      have hcm := List.mem_of_getElem? hci
      have dd : c.dep ≤ n := by
        have z := dep_mem hcm
        unfold Cd.dep at hd
        omega
      refine ⟨Ext.one, alwT ⟨_, rfl, pu, c, rfl, hcx', _, rfl, pu, d, c, ns, rfl, rfl, hcx', dd, okL_mem ho hcm, N.same sm, cdsIn_mem hi hcm, fun H1 sm1 => ⟨?_, sm.trans sm1, ?_⟩⟩⟩
      · rw [List.length_map, List.length_map, List.length_take]
        exact line _ (by omega)
      · rw [take_snoc hci, List.map_append, List.map_append]
        rfl
    · rintro ys H' ⟨sm, rfl⟩ q hq
      rw [lus, List.take_length]
      refine ⟨q, _, rfl, SqL.of upd_same, ?_⟩
      have k := k _ (sm.trans (new (o := .lst ((cs.map (Cd.holds (get ns))).map V.bl)) hq))
      unfold Cd.holds at k
      rw [if_pos rfl, holdsA_all] at k
      exact k
end
end Hw
namespace Hw
open PySem L2 PyProof.Rows
section
variable {P : Program} {w : World} {K : PySem.W.Frag} {mg : Str → Option Value} {base : Heap}
abbrev sOholds : Stmt := inClass (top 12) 0
theorem sc_Some_holds : FnScope ["self", "numbers"] ["self", "numbers"] (defScope sOholds) := ⟨rfl, rfl, rfl, by decide +kernel, rfl, by decide +kernel, by decide +kernel⟩
theorem ok_oholds {f : Addr} {fd : FuncData} {Z : Cz} {n : Nat} (F : Fun K "holds" "Some.holds" sOholds f fd) (T : Txt K mg Z.s) (U : Txz K mg Z) (M4_holds : M4 P w K mg base (n + 1) Z "holds" ["self", "numbers"] (spCHolds Z n)) : FnOk P w K mg base CX0 (n + 2) f fd ["self", "numbers"] (spCHolds Z (n + 1) 3) := by
  refine F.ok sc_Some_holds (fun vs H Q E h => ?_) (fun cdv A outer s H vs Q E hr h => ?_)
  · obtain ⟨p, d, c, ns, rfl, sj, hc, hd, ho, N, hi, k⟩ := h
    rfl
  · obtain ⟨p, d, c, ns, rfl, sj, hc, hd, ho, N, hi, k⟩ := h
    have hu := hu_of hr
    rw [show defBody sOholds = [_] from rfl]
    refine ⟨_, (pss_one (ps_ret (pe_callB (call_any rfl) (by rfl) U.any boot_any (pa_cons (pe_comp (compSc_mk ["condition"] ["numbers"] [1] rfl (by decide +kernel) (by decide +kernel) (by with_unfolding_all rfl) (by exact ⟨rfl, trivial⟩) (by rfl) rfl (by rfl)) rfl (pi_tup (pe_fld (pv 0) rfl)) (fun _ _ _ _ => (pg_name (i := 0) (show List.Nodup (["condition", "numbers"] : List Str) by decide +kernel) rfl (Or.inl rfl) (Or.inr rfl))) (fun _ _ _ _ => pts_nil) (fun _ _ _ _ => (pe_cm (Z := Z) (pv 0) U.cl nf_holds M4_holds (hr.mono (by first | decide | omega)) pass0 (pa_cons (pv 1) pa_nil)))) pa_nil)))), ?_⟩
    cases c with
    | cmp a i s b m => exact absurd sj (by show ¬ (0 = 3); decide)
    | neg c => exact absurd sj (by show ¬ (1 = 3); decide)
    | con b cs =>
    cases b with
    | true => exact absurd sj (by first | (show ¬ (2 = 3); decide) | (show ¬ (3 = 3); decide))
    | false =>
    unfold CondAt at hc
    obtain ⟨q, dx, t, us, e, ep, et, l, hcs⟩ := hc
    cases e
    have ep : H p = some (.ins Z.o dx (vflds t)) := ep
    have hpc := conds_paired.mp hcs
    have lus : us.length = cs.length := paired_len hpc
    unfold cdIn at hi
    unfold Cd.ok at ho
    refine ⟨_, rfl, p, Z.o, dx, _, _, rfl, ep, U.cl 3 (by decide), U.n6, lk_v _, t, rfl, ⟨us, SqT.of et⟩, comp_tup (xs := us) (fun i ys H' => Same H H' ∧ ys = ((cs.take i).map (Cd.holds (get ns))).map V.bl) ⟨fun _ _ z => z, rfl⟩ (fun i ys H' _ q => SqT.of (q.1 _ _ et)) ?_ ?_⟩
    · rintro i x ys H' hix ⟨sm, rfl⟩
      obtain ⟨c, hci, hcx⟩ := paired_at hpc hix
      obtain ⟨pu, rfl⟩ := cond_ref hcx
      have hcx' := hcx.hard (Hard.of sm)
      have ild := (List.getElem?_eq_some_iff.mp hci).1
      have hcm := List.mem_of_getElem? hci
      have dd : c.dep ≤ n := by
        have z := dep_mem hcm
        unfold Cd.dep at hd
        omega
      refine ⟨Ext.one, alwT ⟨_, rfl, pu, c, rfl, hcx', _, rfl, pu, d, c, ns, rfl, rfl, hcx', dd, okL_mem ho hcm, N.same sm, cdsIn_mem hi hcm, fun H1 sm1 => ⟨?_, sm.trans sm1, ?_⟩⟩⟩
      · rw [List.length_map, List.length_map, List.length_take]
        exact line _ (by omega)
      · rw [take_snoc hci, List.map_append, List.map_append]
        rfl
    · rintro ys H' ⟨sm, rfl⟩ q hq
      rw [lus, List.take_length]
      refine ⟨q, _, rfl, SqL.of upd_same, ?_⟩
      have k := k _ (sm.trans (new (o := .lst ((cs.map (Cd.holds (get ns))).map V.bl)) hq))
      unfold Cd.holds at k
      rw [if_neg (by decide), holdsO_any] at k
      exact k
end
end Hw
namespace Hw
open PySem L2 PyProof.Rows
section
variable {P : Program} {w : World} {K : PySem.W.Frag} {mg : Str → Option Value} {base : Heap}
abbrev sSumOf : Stmt := top 5
theorem sc_sum_of : FnScope ["pairs", "number", "weights", "thing", "weight"] ["pairs", "number"] (defScope sSumOf) := ⟨rfl, rfl, rfl, by decide +kernel, rfl, by decide +kernel, by decide +kernel⟩
theorem ok_sum_of {f C : Addr} {fd : FuncData} (F : Fun K "sum_of" "sum_of" sSumOf f fd) (T : Txt K mg C) (d_init : Mr P w K mg base 1 C ["self", "terms", "number"] (spInit C)) : FnOk P w K mg base CX0 3 f fd ["pairs", "number"] (spSumOf C) := by
  obtain ⟨f_init, fd_init, G_Sum_init, M, b_Sum_init⟩ := d_init
  refine F.ok sc_sum_of (fun vs H Q E h => ?_) (fun cdv A outer s H vs Q E hr h => ?_)
  · obtain ⟨a, n, ps, rfl, hs, hz, k⟩ := h
    rfl
  · obtain ⟨a, n, ps, rfl, hs, hz, k⟩ := h
    have hu := hu_of hr
    rw [show defBody sSumOf = [_, _, _] from rfl]
    refine ⟨_, (pss_cons (ps_set (i := 2) sc_sum_of.nd rfl (Or.inr rfl) pe_dnewK)
      (pss_cons (ps_for PassesOwn.never rfl (pi_seq (pv 0)) (pg_tup rfl (pgs_cons (pg_name (i := 3) sc_sum_of.nd rfl (Or.inl rfl)) (pgs_cons (pg_name (i := 4) sc_sum_of.nd rfl (Or.inl rfl)) pgs_nil))) (pss_one (ps_dput hu (pv 2) (pv 3) (pe_op op_add (pe_dget2 hu (pv 2) (pv 3) pe_int ⟨rfl, rfl, rfl, rfl⟩) (pv 4)) rfl)))
      (pss_one (ps_ret (pe_make M G_Sum_init (hr.mono (by first | decide | omega)) rfl T.mg_Sum b_Sum_init .nil pass0 (pa_cons (pe_comp (compSc_mk ["thing"] ["weights"] [2] rfl (by decide +kernel) (by decide +kernel) (by with_unfolding_all rfl) (by exact ⟨rfl, trivial⟩) (by rfl) rfl (by rfl)) rfl (pi_list (pe_callB (call_sortedD rfl) (by rfl) T.sorted boot_sorted (pa_cons (pv 2) pa_nil))) (fun _ _ _ _ => (pg_name (i := 0) (show List.Nodup (["thing", "weights"] : List Str) by decide +kernel) rfl (Or.inl rfl) (Or.inr rfl))) (fun _ _ _ _ => (pts_one (pt_cmpR op_ne (pe_dget hu (pv 1) (pv 0) (fun _ _ => rfl)) pe_int (nomark _)))) (fun _ _ _ _ => (pe_tup (pa_cons (pv 0) (pa_cons (pe_dget hu (pv 1) (pv 0) (fun _ _ => rfl)) pa_nil))))) (pa_cons (pv 1) pa_nil))))))), ?_⟩
    intro d hd
    have lz := line ps.length (by omega)
    refine ⟨_, rfl, a, rfl, for_sq (hs.same (new hd)) (fun i σ H' => ∃ e t w, σ = [some (.ref a), some (.int n), some (.ref d), t, w] ∧ H' = upd H d (.dK (enc e)) ∧ Tab (ps.take i) e) ⟨[], none, none, rfl, rfl, Tab.nil⟩ ?_ ?_ ?_⟩
    · rintro i σ H' ⟨e, t, w, rfl, rfl, tab⟩
      exact Kp.dict
    · rintro i v pr σ H' hi ⟨a', rfl, ha'⟩ ⟨e, t, w, rfl, rfl, tab⟩
      have he : (enc e).length < sizeLine := by
        have h1 := tab.len
        rw [List.length_take] at h1
        rw [enc_len]
        omega
      refine ⟨a', _, rfl, SqT.of ha', rfl, _, _, rfl, _, _, rfl, rfl, ?_⟩
      refine ⟨_, rfl, d, rfl, .inl ⟨_, .inl upd_same⟩, _, rfl, _, DGet.k (k := Sum.inr pr.1) upd_same, _, rfl, _, _, enc_getD e pr.1, rfl, _, rfl, _, rfl, d, _, rfl, DPut.k (k := Sum.inr pr.1) upd_same he, ?_⟩
      refine ⟨step e pr, _, _, rfl, ?_, ?_⟩
      · rw [upd_upd, enc_put]
        rfl
      · rw [take_snoc hi]
        exact tab.step pr
    · rintro σ H' ⟨e, t, w, rfl, rfl, tab⟩
      rw [List.take_length] at tab
      have el : (enc e).length < 64 := by have := tab.len; rw [enc_len]; omega
      refine ⟨_, rfl, d, _, keys e, rfl, upd_same, enc_keys e, el, fun l ys hl hp hso => ⟨l, rfl, ⟨_, SqL.of upd_same⟩, ?_⟩⟩
      have yl : ys.length ≤ ps.length := by
        rw [hp.length_eq]
        unfold keys
        rw [List.length_map]
        exact tab.len
      refine comp_list (xs := ys.map V.str) (fun i out H' => Same (upd (upd H d (.dK (enc e))) l (.lst (ys.map V.str))) H' ∧ Prs H' out (outs e (ys.take i))) ⟨Same.refl _, .nil⟩ (fun i out H' _ q => SqL.of (q.1 _ _ upd_same)) ?_ ?_
      · rintro i v out H' hi ⟨sm, pr⟩
        obtain ⟨y, hy, rfl⟩ : ∃ y, ys[i]? = some y ∧ v = V.str y := by
          rw [List.getElem?_map] at hi
          cases q : ys[i]? with
          | none => rw [q] at hi; cases hi
          | some y => rw [q] at hi; cases hi; exact ⟨y, rfl, rfl⟩
        have hm : y ∈ keys e := hp.mem_iff.mp (List.mem_of_getElem? hy)
        have hdd : H' d = some (.dK (enc e)) := sm _ _ (by rw [upd_ne (ne_of_none upd_same hl)]; exact upd_same)
        have ol : out.length < sizeLine := by
          rw [prs_len pr]
          have := outs_len e (ys.take i)
          rw [List.length_take] at this
          omega
        refine ⟨Ext.one, _, rfl, _, rfl, d, _, rfl, nums_get hdd hm, rfl, _, rfl, ?_⟩
        dsimp only
        by_cases g0 : get e y = 0
        · rw [if_neg (by simp [g0])]
          refine ⟨sm, ?_⟩
          rw [take_snoc hy, outs_snoc, if_pos g0, List.append_nil]
          exact pr
        · rw [if_pos (by simp [g0])]
          refine ⟨_, rfl, _, rfl, _, rfl, d, _, rfl, nums_get hdd hm, (by show 2 ≤ sizeLine; exact Nat.le_of_lt (line 2 (by decide))), fun q hq => ⟨ol, Same.new sm hq, ?_⟩⟩
          rw [take_snoc hy, outs_snoc, if_neg g0]
          exact prs_app (pr.keep fun _ _ z => new hq _ _ z) (prs_one ⟨q, rfl, upd_same⟩)
      · rintro out H' ⟨sm, pr⟩ q hq
        rw [List.length_map, List.take_length] at pr
        have s0 : Same H H' := fun b o z => sm b o (Same.new (new hd) hl b o z)
        refine ⟨_, rfl, fun x dx hx hdx ne => ?_⟩
        have h1 : Same (upd H' q (.lst out)) (upd (upd (upd H' q (.lst out)) dx (.own x)) x (.ins C dx [])) := fun b o z => by
          rw [upd_ne (ne_of_none z hx), upd_ne (ne_of_none z hdx)]
          exact z
        refine ⟨x, dx, q, n, outs e ys, rfl, upd_same, .inl ⟨out, h1 _ _ upd_same, pr.keep fun _ _ z => h1 _ _ (new hq _ _ z)⟩, ?_, fun H2 but S => ⟨rfl, ?_⟩⟩
        · have := outs_len e ys
          omega
        · refine k x (outs e ys) H2 (fun b o z => but b o (h1 _ _ (Same.new s0 hq b o z)) (ne_of_none (Same.new s0 hq b o z) hx)) (tab.gat hp hso) ?_ S
          have := outs_len e ys
          omega
end
end Hw
namespace Hw
open PySem L2 PyProof.Rows
section
variable {P : Program} {w : World} {K : PySem.W.Frag} {mg : Str → Option Value} {base : Heap}
abbrev sMixed : Stmt := top 16
theorem sc_law_mixed : FnScope ["_law_cell", "_law_k", "_law_mix"] ["_law_cell", "_law_k"] (defScope sMixed) := ⟨rfl, rfl, rfl, by decide +kernel, rfl, by decide +kernel, by decide +kernel⟩
theorem ok_mixed {f C : Addr} {fd : FuncData} (F : Fun K "_law_mixed" "_law_mixed" sMixed f fd) (T : Txt K mg C)  : FnOk P w K mg base CX0 1 f fd ["_law_cell", "_law_k"] spMixed := by
  refine F.ok sc_law_mixed (fun vs H Q E h => ?_) (fun cdv A outer s H vs Q E hr h => ?_)
  · obtain ⟨c, kk, rfl, k⟩ := h
    rfl
  · obtain ⟨c, kk, rfl, k⟩ := h
    have hu := hu_of hr
    rw [show defBody sMixed = [_, _] from rfl]
    refine ⟨_, (pss_cons (ps_set (i := 2) sc_law_mixed.nd rfl (Or.inl rfl) (pe_op op_mod (pe_op op_mul (pe_op op_add (pe_op op_add (pv 0) (pe_op op_mul pe_int (pv 1))) pe_int) pe_int) pe_int))
      (pss_one (ps_ret (pe_op op_mod (pe_op op_add (pe_op op_mul (pv 2) (pv 2)) (pe_op op_mul pe_int (pv 2))) pe_int)))), ?_⟩
    refine ⟨_, rfl, _, rfl, _, _, rfl, rfl, .inl ⟨by decide, by decide⟩, _, _, rfl, rfl, _, _, rfl, rfl, _, _, rfl, rfl, .inr ⟨by decide, by decide⟩, _, _, rfl, rfl, (by show (0 : Int) < 2147483647; decide), ?_⟩
    have h0 := Int.emod_nonneg ((c + 7919 * kk + 11) * 48271) (show (2147483647 : Int) ≠ 0 by decide)
    have h1 := Int.emod_lt_of_pos ((c + 7919 * kk + 11) * 48271) (show (0 : Int) < 2147483647 by decide)
    generalize (c + 7919 * kk + 11) * 48271 % 2147483647 = mx at h0 h1
    refine ⟨_, rfl, _, rfl, _, _, rfl, rfl, .inl ⟨by omega, by omega⟩, _, rfl, _, _, rfl, rfl, .inl ⟨by decide, by decide⟩, _, _, rfl, rfl, _, _, rfl, rfl, (by show (0 : Int) < 2147483399; decide), ?_⟩
    exact k _ (Int.emod_nonneg _ (by decide)) (Int.emod_lt_of_pos _ (by decide))
end
end Hw
namespace Hw
open PySem L2 PyProof.Rows
section
variable {P : Program} {w : World} {K : PySem.W.Frag} {mg : Str → Option Value} {base : Heap}
abbrev sCellAt : Stmt := top 15
theorem sc_law_cell_at : FnScope ["_law_script", "_law_k", "_law_cell"] ["_law_script", "_law_k"] (defScope sCellAt) := ⟨rfl, rfl, rfl, by decide +kernel, rfl, by decide +kernel, by decide +kernel⟩
theorem ok_cell_at {f C : Addr} {fd : FuncData} (F : Fun K "_law_cell_at" "_law_cell_at" sCellAt f fd) (T : Txt K mg C) (d_mixed : Dn P w K mg base 1 "_law_mixed" ["_law_cell", "_law_k"] spMixed) : FnOk P w K mg base CX0 2 f fd ["_law_script", "_law_k"] (spCell K) := by
  obtain ⟨f_mixed, fd_mixed, G_mixed, mg_mixed, kp_mixed, b_mixed⟩ := d_mixed
  refine F.ok sc_law_cell_at (fun vs H Q E h => ?_) (fun cdv A outer s H vs Q E hr h => ?_)
  · obtain ⟨a, ns, kk, rfl, hS, k⟩ := h
    rfl
  · obtain ⟨a, ns, kk, rfl, hS, k⟩ := h
    have hu := hu_of hr
    rw [show defBody sCellAt = [_, _, _] from rfl]
    refine ⟨_, (pss_cons (ps_set (i := 2) sc_law_cell_at.nd rfl (Or.inl rfl) pe_int)
      (pss_cons (ps_if (pt_cmpR op_lt (pv 1) (pe_callB call_len_seq (by rfl) T.len PySem.boot_len (pa_cons (pv 0) pa_nil)) (nomark _)) (pss_one (ps_set (i := 2) sc_law_cell_at.nd rfl (Or.inl rfl) (pe_ix ix_list (pv 0) (pv 1) (fun _ _ => rfl)))) pss_nil)
      (pss_one (ps_ret (pe_call G_mixed (hr.mono (by first | decide | omega)) rfl mg_mixed kp_mixed b_mixed .nil pass0 (pa_cons (pv 2) (pa_cons (pe_op op_add pe_int (pv 1)) pa_nil))))))), ?_⟩
    refine ⟨_, rfl, _, rfl, a, _, rfl, .inl hS, _, _, rfl, rfl, _, rfl, ?_⟩
    refine ite2 (fun hc => ?_) (fun hc => ?_)
    · have hc := of_decide_eq_true hc
      rw [List.length_map] at hc
      have hk : (ns.map V.int)[kk]? = some (V.int (ns[kk]'(by omega))) := by rw [List.getElem?_map, List.getElem?_eq_getElem (by omega)]; rfl
      refine ⟨_, rfl, _, rfl, a, _, _, _, rfl, rfl, hS, atI_nat hk, ?_⟩
      exact ⟨_, rfl, _, rfl, _, _, rfl, rfl, _, _, rfl, fun r _ _ => k r⟩
    · exact ⟨_, rfl, _, rfl, _, _, rfl, rfl, _, _, rfl, fun r _ _ => k r⟩
end
end Hw
namespace Hw
open PySem L2 PyProof.Rows
section
variable {P : Program} {w : World} {K : PySem.W.Frag} {mg : Str → Option Value} {base : Heap}
abbrev sNext : Stmt := top 17
theorem sc_law_next : FnScope ["_law_draw", "_law_size"] ["_law_draw", "_law_size"] (defScope sNext) := ⟨rfl, rfl, rfl, by decide +kernel, rfl, by decide +kernel, by decide +kernel⟩
theorem ok_next {f C : Addr} {fd : FuncData} (F : Fun K "_law_next" "_law_next" sNext f fd) (T : Txt K mg C) (d_mixed : Dn P w K mg base 1 "_law_mixed" ["_law_cell", "_law_k"] spMixed) : FnOk P w K mg base CX0 2 f fd ["_law_draw", "_law_size"] spNext := by
  obtain ⟨f_mixed, fd_mixed, G_mixed, mg_mixed, kp_mixed, b_mixed⟩ := d_mixed
  refine F.ok sc_law_next (fun vs H Q E h => ?_) (fun cdv A outer s H vs Q E hr h => ?_)
  · obtain ⟨d, n, rfl, hd, hn, k⟩ := h
    rfl
  · obtain ⟨d, n, rfl, hd, hn, k⟩ := h
    have hu := hu_of hr
    rw [show defBody sNext = [_, _] from rfl]
    refine ⟨_, (pss_cons (ps_augS (pv 0) pe_int get_list pe_int ip_add set_list)
      (pss_one (ps_ret (pe_op op_mod (pe_op op_fdiv (pe_call G_mixed (hr.mono (by first | decide | omega)) rfl mg_mixed kp_mixed b_mixed .nil pass0 (pa_cons (pe_ix ix_list (pv 0) pe_int (fun _ _ => rfl)) (pa_cons (pe_ix ix_list (pv 0) pe_int (fun _ _ => rfl)) pa_nil))) pe_int) (pv 1))))), ?_⟩
    obtain ⟨x, y, hd⟩ := hd
    refine ⟨_, rfl, d, _, 1, _, rfl, rfl, SqL.of hd, rfl, _, _, rfl, rfl, d, _, _, 1, rfl, rfl, hd, rfl, ?_⟩
    refine ⟨_, rfl, d, _, _, _, rfl, rfl, SqL.of upd_same, rfl, _, rfl, d, _, _, _, rfl, rfl, SqL.of upd_same, rfl, _, _, rfl, fun r h0 h1 => ?_⟩
    refine ⟨_, _, rfl, rfl, ⟨by decide, by decide⟩, _, rfl, _, _, rfl, rfl, hn, ?_⟩
    have e0 := Int.emod_nonneg (r / 7) (Int.ne_of_gt hn)
    have e1 := Int.emod_lt_of_pos (r / 7) hn
    have e := Int.toNat_of_nonneg e0
    rw [← e] at e1
    show Q (V.int (r / 7 % n)) _
    rw [← e]
    exact k _ _ e1 But.upd ⟨_, _, upd_same⟩
end
end Hw
namespace Hw
open PySem L2 PyProof.Rows
section
variable {P : Program} {w : World} {K : PySem.W.Frag} {mg : Str → Option Value} {base : Heap}
abbrev sCmps : Stmt := top 13
theorem sc_compares : FnScope ["one", "sign", "other"] ["one", "sign", "other"] (defScope sCmps) := ⟨rfl, rfl, rfl, by decide +kernel, rfl, by decide +kernel, by decide +kernel⟩
theorem ok_compares {f : Addr} {fd : FuncData} {Z : Cz} {n : Nat} (F : Fun K "compares" "compares" sCmps f fd) (T : Txt K mg Z.s) (U : Txz K mg Z)  : FnOk P w K mg base CX0 1 f fd ["one", "sign", "other"] spCompares := by
  refine F.ok sc_compares (fun vs H Q E h => ?_) (fun cdv A outer s H vs Q E hr h => ?_)
  · obtain ⟨x, y, s, rfl, k⟩ := h
    rfl
  · obtain ⟨x, y, s, rfl, k⟩ := h
    have hu := hu_of hr
    rw [show defBody sCmps = [_, _, _, _, _, _] from rfl]
    refine ⟨_, (pss_cons (ps_if (pt_cmpR op_eq (pv 1) pe_str (nomark _)) (pss_one (ps_ret (pe_cmpR op_lt (pv 0) (pv 2) (nomark _)))) pss_nil)
      (pss_cons (ps_if (pt_cmpR op_eq (pv 1) pe_str (nomark _)) (pss_one (ps_ret (pe_cmpR op_le (pv 0) (pv 2) (nomark _)))) pss_nil)
      (pss_cons (ps_if (pt_cmpR op_eq (pv 1) pe_str (nomark _)) (pss_one (ps_ret (pe_cmpR op_eq (pv 0) (pv 2) (nomark _)))) pss_nil)
      (pss_cons (ps_if (pt_cmpR op_eq (pv 1) pe_str (nomark _)) (pss_one (ps_ret (pe_cmpR op_ne (pv 0) (pv 2) (nomark _)))) pss_nil)
      (pss_cons (ps_if (pt_cmpR op_eq (pv 1) pe_str (nomark _)) (pss_one (ps_ret (pe_cmpR op_ge (pv 0) (pv 2) (nomark _)))) pss_nil)
      (pss_one (ps_ret (pe_cmpR op_gt (pv 0) (pv 2) (nomark _))))))))), ?_⟩
    by_cases e0 : s = "<"
    · subst e0
      refine ⟨_, rfl, rfl, _, rfl, iteDT rfl ?_⟩
      refine ⟨_, rfl, _, rfl, _, _, rfl, rfl, ?_⟩
      have e : cmpB "<" x y = decide (x < y) := by unfold cmpB; rw [if_pos rfl]
      rw [e] at k
      exact k
    refine ⟨_, rfl, rfl, _, rfl, iteDF (str_ne e0) ?_⟩
    by_cases e1 : s = "<="
    · subst e1
      refine ⟨_, rfl, rfl, _, rfl, iteDT rfl ?_⟩
      refine ⟨_, rfl, _, rfl, _, _, rfl, rfl, ?_⟩
      have e : cmpB "<=" x y = decide (x ≤ y) := by unfold cmpB; rw [if_neg (by decide +kernel), if_pos rfl]
      rw [e] at k
      exact k
    refine ⟨_, rfl, rfl, _, rfl, iteDF (str_ne e1) ?_⟩
    by_cases e2 : s = "="
    · subst e2
      refine ⟨_, rfl, rfl, _, rfl, iteDT rfl ?_⟩
      refine ⟨_, rfl, _, rfl, rfl, ?_⟩
      have e : cmpB "=" x y = decide (V.int x = V.int y) := by unfold cmpB; rw [if_neg (by decide +kernel), if_neg (by decide +kernel), if_pos rfl]; exact dec_i.symm
      rw [e] at k
      exact k
    refine ⟨_, rfl, rfl, _, rfl, iteDF (str_ne e2) ?_⟩
    by_cases e3 : s = "!="
    · subst e3
      refine ⟨_, rfl, rfl, _, rfl, iteDT rfl ?_⟩
      refine ⟨_, rfl, _, rfl, rfl, ?_⟩
      have e : cmpB "!=" x y = !decide (V.int x = V.int y) := by unfold cmpB; rw [if_neg (by decide +kernel), if_neg (by decide +kernel), if_neg (by decide +kernel), if_pos rfl]; rw [dec_i]
      rw [e] at k
      exact k
    refine ⟨_, rfl, rfl, _, rfl, iteDF (str_ne e3) ?_⟩
    by_cases e4 : s = ">="
    · subst e4
      refine ⟨_, rfl, rfl, _, rfl, iteDT rfl ?_⟩
      refine ⟨_, rfl, _, rfl, _, _, rfl, rfl, ?_⟩
      have e : cmpB ">=" x y = decide (y ≤ x) := by unfold cmpB; rw [if_neg (by decide +kernel), if_neg (by decide +kernel), if_neg (by decide +kernel), if_neg (by decide +kernel), if_pos rfl]
      rw [e] at k
      exact k
    refine ⟨_, rfl, rfl, _, rfl, iteDF (str_ne e4) ?_⟩
    refine ⟨_, rfl, _, rfl, _, _, rfl, rfl, ?_⟩
    have e : cmpB s x y = decide (y < x) := by unfold cmpB; rw [if_neg e0, if_neg e1, if_neg e2, if_neg e3, if_neg e4]
    rw [e] at k
    exact k
end
end Hw
namespace Hw
open PySem L2 PyProof.Rows
section
variable {P : Program} {w : World} {K : PySem.W.Frag} {mg : Str → Option Value} {base : Heap}
abbrev sLSum : Stmt := top 18
theorem sc_law_sum : FnScope ["_law_draw", "_law_things", "_law_pairs", "_law_k"] ["_law_draw", "_law_things"] (defScope sLSum) := ⟨rfl, rfl, rfl, by decide +kernel, rfl, by decide +kernel, by decide +kernel⟩
theorem ok_s28 {f : Addr} {fd : FuncData} {Z : Cz} {n : Nat} (F : Fun K "_law_sum" "_law_sum" sLSum f fd) (T : Txt K mg Z.s) (U : Txz K mg Z) (d_next : Dn P w K mg base 2 "_law_next" ["_law_draw", "_law_size"] spNext) (d_sum : Dn P w K mg base 3 "sum_of" ["pairs", "number"] (spSumOf Z.s)) : FnOk P w K mg base CX0 4 f fd ["_law_draw", "_law_things"] (sp28Sum Z) := by
  obtain ⟨f_next, fd_next, G_next, mg_next, kp_next, b_next⟩ := d_next
  obtain ⟨f_sum, fd_sum, G_sum_of, mg_sum_of, kp_sum_of, b_sum_of⟩ := d_sum
  refine F.ok sc_law_sum (fun vs H Q E h => ?_) (fun cdv A outer s H vs Q E hr h => ?_)
  · obtain ⟨d, l, xs, rfl, hd, hl, hx, hxl, k⟩ := h
    rfl
  · obtain ⟨d, l, xs, rfl, hd, hl, hx, hxl, k⟩ := h
    have hu := hu_of hr
    rw [show defBody sLSum = [_, _, _] from rfl]
    refine ⟨_, (pss_cons (ps_set (i := 2) sc_law_sum.nd rfl (Or.inl rfl) (pe_lst pa_nil))
      (pss_cons (ps_for PassesOwn.never rfl (pi_range1 rfl T.range (pa_cons (pe_op op_mul (pe_call G_next (hr.mono (by first | decide | omega)) rfl mg_next kp_next b_next .nil pass0 (pa_cons (pv 0) (pa_cons pe_int pa_nil))) (pe_callTy call_int1 (by rfl) T.int boot_int (pa_cons (pe_cmpR (op_neNil (uN hr)) (pv 1) (pe_lst pa_nil) (nomark _)) pa_nil))) pa_nil)) (pg_name (i := 3) sc_law_sum.nd rfl (Or.inl rfl)) (pss_one (ps_expr (pe_bm PySem.F.plainAttrs_list PySem.F.slot_list_append PySem.F.type_list_append mt_append (pv 2) (pa_cons (pe_tup (pa_cons (pe_ix ix_list (pv 1) (pe_call G_next (hr.mono (by first | decide | omega)) rfl mg_next kp_next b_next .nil pass0 (pa_cons (pv 0) (pa_cons (pe_callB call_len_seq (by rfl) T.len PySem.boot_len (pa_cons (pv 1) pa_nil)) pa_nil))) (fun _ _ => rfl)) (pa_cons (pe_op op_sub (pe_call G_next (hr.mono (by first | decide | omega)) rfl mg_next kp_next b_next .nil pass0 (pa_cons (pv 0) (pa_cons pe_int pa_nil))) pe_int) pa_nil))) pa_nil)))))
      (pss_one (ps_ret (pe_call G_sum_of (hr.mono (by first | decide | omega)) rfl mg_sum_of kp_sum_of b_sum_of .nil pass0 (pa_cons (pv 2) (pa_cons (pe_ix ix_list (pe_lst (pa_cons pe_int (pa_cons pe_int (pa_cons (pe_un un_neg pe_int) (pa_cons (pe_op op_sub (pe_call G_next (hr.mono (by first | decide | omega)) rfl mg_next kp_next b_next .nil pass0 (pa_cons (pv 0) (pa_cons pe_int pa_nil))) pe_int) pa_nil))))) (pe_call G_next (hr.mono (by first | decide | omega)) rfl mg_next kp_next b_next .nil pass0 (pa_cons (pv 0) (pa_cons pe_int pa_nil))) (fun _ _ => rfl)) pa_nil))))))), ?_⟩
    have nld : l ≠ d := by
      obtain ⟨x, y, ed⟩ := hd
      refine ne_of hl ed fun z => ?_
      cases xs with
      | nil => exact absurd hx (by decide)
      | cons a b => cases z
    have xne : ¬ (xs.map V.str = []) := fun z => by
      have := congrArg List.length z
      rw [List.length_map] at this
      simp at this
      rw [this] at hx
      exact absurd hx (by decide)
    refine ⟨Nat.zero_le _, fun pl hpl => ?_⟩
    have npd : pl ≠ d := hd.ne hpl
    refine ⟨_, rfl, d, 3, rfl, hd.same (new hpl), (by decide), fun r0 H1 h0 b1 d1 => ?_⟩
    have el1 : H1 l = some (.lst (xs.map V.str)) := b1 _ _ (new hpl _ _ hl) nld
    refine ⟨_, rfl, Nat.zero_le _, fun e0 he0 => ?_⟩
    refine ⟨l, e0, _, rfl, rfl, SqL.of (new he0 _ _ el1), SqL.of upd_same, ?_⟩
    rw [decide_eq_false xne]
    refine .inr ⟨true, rfl, _, _, rfl, rfl, .inl ⟨by omega, by omega⟩, ?_⟩
    have e01 : (r0 : Int) * (if true = true then 1 else 0) = r0 := by rw [if_pos rfl, Int.mul_one]
    refine ⟨(r0 : Int), congrArg (fun z => [V.int z]) e01, by omega, by omega, for_range (n := (r0 : Int).toNat) (fun i σ H' => ∃ (ps : Ps) (k : Option V), σ = [some (.ref d), some (.ref l), some (.ref pl), k] ∧ But d H H' ∧ Dr H' d ∧ Lp H' pl ps ∧ ps.length ≤ i ∧ (∀ p ∈ ps, p.1 ∈ xs) ∧ ∀ p ∈ ps, -3 ≤ p.2 ∧ p.2 ≤ 3) ⟨[], none, rfl, ((But.of (new hpl)).trans b1).new he0, d1.same (new he0), ⟨[], new he0 _ _ (b1 _ _ upd_same npd), .nil⟩, Nat.le_refl _, (fun _ h => nomatch h), (fun _ h => nomatch h)⟩ ?_ ?_⟩
    · rintro i σ H2 hi ⟨ps, k3, rfl, F, D, L, ll, hm, hw⟩
      have el := F _ _ hl nld
      have lz : (xs.map V.str).length = xs.length := List.length_map ..
      obtain ⟨vs, e7, r7⟩ := id L
      refine ⟨_, rfl, .inl ⟨rfl, _, SqL.of e7⟩, _, rfl, _, rfl, _, rfl, l, _, rfl, .inl (SqL.of el), d, _, rfl, D, (by rw [lz]; omega), fun r1 H3 h1 b3 d3 => ?_⟩
      have hr1 : r1 < xs.length := by omega
      refine ⟨l, _, _, _, rfl, rfl, SqL.of (b3 _ _ el nld), atI_nat (strs_at hr1), ?_⟩
      have hmx : xs[r1] ∈ xs := List.getElem_mem hr1
      generalize xs[r1] = x at hmx
      refine ⟨_, rfl, d, 7, rfl, d3, (by decide), fun r2 H4 h2 b4 d4 => ⟨_, _, rfl, rfl, ?_⟩⟩
      have b34 : But d H2 H4 := b3.trans b4
      obtain ⟨vs8, e8, r8⟩ := L.but b34 npd D
      have e8' := b34 _ _ e7 npd
      rw [e8] at e8'
      cases e8'
      refine ⟨(by show 2 ≤ sizeLine; exact Nat.le_of_lt (line 2 (by decide))), fun t ht => ?_⟩
      have e9' : (upd H4 t (.tup [.str x, .int ((r2 : Int) - 3)])) pl = some (.lst vs) := new ht _ _ e8
      have vl := prs_len r7
      have vz : vs.length < sizeLine := by rw [vl]; exact line _ (by omega)
      refine ⟨pl, _, _, rfl, rfl, e9', vz, ?_⟩
      have npt : pl ≠ t := ne_of_none e8 ht
      refine ⟨ps ++ [(x, (r2 : Int) - 3)], _, rfl, fun b o e n => ?_, ?_, ⟨_, upd_same, paired_snoc (r8.keep fun a ys z => ?_) ⟨t, rfl, ?_⟩⟩, ?_, ?_, ?_⟩
      · rw [upd_ne (ne_of_none e hpl)]
        exact new ht _ _ ((F.trans b34) b o e n)
      · obtain ⟨x8, y8, q8⟩ := d4
        exact ⟨x8, y8, by rw [upd_ne npd.symm]; exact new ht _ _ q8⟩
      · have z' := new (o := .tup [.str x, .int ((r2 : Int) - 3)]) ht _ _ z
        rw [upd_ne (ne_of z' e9' (by intro w; cases w))]
        exact z'
      · rw [upd_ne npt.symm]
        exact upd_same
      · rw [List.length_append]
        show ps.length + 1 ≤ i + 1
        omega
      · intro p hp
        rcases List.mem_append.mp hp with z | z
        · exact hm p z
        · rw [List.mem_singleton.mp z]
          exact hmx
      · intro p hp
        rcases List.mem_append.mp hp with z | z
        · exact hw p z
        · rw [List.mem_singleton.mp z]
          exact ⟨by show -3 ≤ (r2 : Int) - 3; omega, by show (r2 : Int) - 3 ≤ 3; omega⟩
    rintro σ H3 ⟨ps, k3, rfl, F, D, L, ll, hm, hw⟩
    refine ⟨_, rfl, _, rfl, _, rfl, d, 19, rfl, D, (by decide), fun r4 H4 h4 b4 d4 => ⟨_, _, rfl, rfl, ?_⟩⟩
    refine ⟨(by show 4 ≤ sizeLine; exact Nat.le_of_lt (line 4 (by decide))), fun q hq => ?_⟩
    have nq : q ≠ d := d4.ne hq
    refine ⟨_, rfl, d, 4, rfl, d4.same (new hq), (by decide), fun r5 H5 h5 b5 d5 => ?_⟩
    obtain ⟨z, hz, z1, z2⟩ : ∃ z, ([V.int 0, V.int 1, V.int (-1), V.int ((r4 : Int) - 9)] : List V)[r5]? = some (V.int z) ∧ -9 ≤ z ∧ z ≤ 9 := by
      have : r5 = 0 ∨ r5 = 1 ∨ r5 = 2 ∨ r5 = 3 := by omega
      rcases this with e | e | e | e <;> subst e
      · exact ⟨0, rfl, by decide, by decide⟩
      · exact ⟨1, rfl, by decide, by decide⟩
      · exact ⟨-1, rfl, by decide, by decide⟩
      · exact ⟨_, rfl, by omega, by omega⟩
    refine ⟨q, _, _, _, rfl, rfl, SqL.of (b5 _ _ upd_same nq), atI_nat hz, ?_⟩
    have L5 : Lp H5 pl ps := ((L.but b4 npd D).same (new hq)).but b5 npd (d4.same (new hq))
    have F5 : But d H H5 := ((F.trans b4).new hq).trans b5
    refine ⟨pl, z, ps, rfl, .inl L5, by omega, fun r ts H6 sm g tl sa => ?_⟩
    obtain ⟨gs, lo⟩ := gat_lo g (by omega) hw hm tl ⟨z1, z2⟩
    exact k r ts z H6 (F5.trans (But.of sm)) (d5.same sm) sa gs lo
end
end Hw
namespace Hw
open PySem L2 PyProof.Rows
section
variable {P : Program} {w : World} {K : PySem.W.Frag} {mg : Str → Option Value} {base : Heap}
abbrev sLCond : Stmt := top 19
theorem sc_law_condition : FnScope ["_law_draw", "_law_things", "_law_deep", "_law_sign", "_law_one", "_law_kind"] ["_law_draw", "_law_things", "_law_deep"] (defScope sLCond) := ⟨rfl, rfl, rfl, by decide +kernel, rfl, by decide +kernel, by decide +kernel⟩
theorem ok_c28 {f : Addr} {fd : FuncData} {Z : Cz} {n : Nat} (F : Fun K "_law_condition" "_law_condition" sLCond f fd) (T : Txt K mg Z.s) (U : Txz K mg Z) (d_next : Dn P w K mg base 2 "_law_next" ["_law_draw", "_law_size"] spNext) (d_s28 : Dn P w K mg base 4 "_law_sum" ["_law_draw", "_law_things"] (sp28Sum Z)) (d_cinit : Mr P w K mg base 1 Z.c ["self", "one", "sign", "other"] (spCInit Z)) (d_tinit : Mr P w K mg base 1 Z.t ["self", "condition"] (spTInit Z)) (d_einit : Mr P w K mg base 1 Z.e ["self", "conditions"] (spVInitT Z.e)) (d_oinit : Mr P w K mg base 1 Z.o ["self", "conditions"] (spVInitT Z.o)) (d_c28 : Dn P w K mg base (n + 5) "_law_condition" ["_law_draw", "_law_things", "_law_deep"] (sp28Cond Z n)) : FnOk P w K mg base CX0 (n + 6) f fd ["_law_draw", "_law_things", "_law_deep"] (sp28Cond Z (n + 1)) := by
  obtain ⟨f_next, fd_next, G_next, mg_next, kp_next, b_next⟩ := d_next
  obtain ⟨f_sum_, fd_sum_, G_sum, mg_sum, kp_sum, b_sum⟩ := d_s28
  obtain ⟨f_ci, fd_ci, G_Compare_init, MCompare, b_Compare_init⟩ := d_cinit
  obtain ⟨f_ti, fd_ti, G_Turned_init, MTurned, b_Turned_init⟩ := d_tinit
  obtain ⟨f_ei, fd_ei, G_Every_init, MEvery, b_Every_init⟩ := d_einit
  obtain ⟨f_oi, fd_oi, G_Some_init, MSome, b_Some_init⟩ := d_oinit
  obtain ⟨f_condition, fd_condition, G_condition, mg_condition, kp_condition, b_condition⟩ := d_c28
  refine F.ok sc_law_condition (fun vs H Q E h => ?_) (fun cdv A outer s H vs Q E hr h => ?_)
  · obtain ⟨d, l, kk, xs, rfl, hkk, hd, hl, hx, hxl, k⟩ := h
    rfl
  · obtain ⟨d, l, kk, xs, rfl, hkk, hd, hl, hx, hxl, k⟩ := h
    have hu := hu_of hr
    rw [show defBody sLCond = [_, _, _, _, _, _, _] from rfl]
    refine ⟨_, (pss_cons (ps_set (i := 3) sc_law_condition.nd rfl (Or.inl rfl) (pe_ix ix_list (pe_lst (pa_strs (xs := ["<", "<=", "=", "!=", ">=", ">"]) rfl)) (pe_call G_next (hr.mono (by first | decide | omega)) rfl mg_next kp_next b_next .nil pass0 (pa_cons (pv 0) (pa_cons pe_int pa_nil))) (fun _ _ => rfl)))
      (pss_cons (ps_set (i := 4) sc_law_condition.nd rfl (Or.inl rfl) (pe_make MCompare G_Compare_init (hr.mono (by first | decide | omega)) rfl U.mgC b_Compare_init .nil pass0 (pa_cons (pe_call G_sum (hr.mono (by first | decide | omega)) rfl mg_sum kp_sum b_sum .nil pass0 (pa_cons (pv 0) (pa_cons (pv 1) pa_nil))) (pa_cons (pv 3) (pa_cons (pe_call G_sum (hr.mono (by first | decide | omega)) rfl mg_sum kp_sum b_sum .nil pass0 (pa_cons (pv 0) (pa_cons (pv 1) pa_nil))) pa_nil)))))
      (pss_cons (ps_set (i := 5) sc_law_condition.nd rfl (Or.inl rfl) (pe_op op_add (pe_call G_next (hr.mono (by first | decide | omega)) rfl mg_next kp_next b_next .nil pass0 (pa_cons (pv 0) (pa_cons pe_int pa_nil))) (pe_op op_mul pe_int (pe_callTy call_int1 (by rfl) T.int boot_int (pa_cons (pe_cmpR op_eq (pv 2) pe_int (nomark _)) pa_nil)))))
      (pss_cons (ps_if (pt_cmpR op_eq (pv 5) pe_int (nomark _)) (pss_one (ps_ret (pe_make MTurned G_Turned_init (hr.mono (by first | decide | omega)) rfl U.mgT b_Turned_init .nil pass0 (pa_cons (pe_call G_condition (hr.mono (by first | decide | omega)) rfl mg_condition kp_condition b_condition .nil pass0 (pa_cons (pv 0) (pa_cons (pv 1) (pa_cons (pe_op op_sub (pv 2) pe_int) pa_nil)))) pa_nil)))) pss_nil)
      (pss_cons (ps_if (pt_cmpR op_eq (pv 5) pe_int (nomark _)) (pss_one (ps_ret (pe_make MEvery G_Every_init (hr.mono (by first | decide | omega)) rfl U.mgE b_Every_init .nil pass0 (pa_cons (pe_tup (pa_cons (pv 4) (pa_cons (pe_call G_condition (hr.mono (by first | decide | omega)) rfl mg_condition kp_condition b_condition .nil pass0 (pa_cons (pv 0) (pa_cons (pv 1) (pa_cons (pe_op op_sub (pv 2) pe_int) pa_nil)))) pa_nil))) pa_nil)))) pss_nil)
      (pss_cons (ps_if (pt_cmpR op_eq (pv 5) pe_int (nomark _)) (pss_one (ps_ret (pe_make MSome G_Some_init (hr.mono (by first | decide | omega)) rfl U.mgO b_Some_init .nil pass0 (pa_cons (pe_tup (pa_cons (pv 4) (pa_cons (pe_call G_condition (hr.mono (by first | decide | omega)) rfl mg_condition kp_condition b_condition .nil pass0 (pa_cons (pv 0) (pa_cons (pv 1) (pa_cons (pe_op op_sub (pv 2) pe_int) pa_nil)))) (pa_cons (pv 4) pa_nil)))) pa_nil)))) pss_nil)
      (pss_one (ps_ret (pv 4))))))))), ?_⟩
    have nld : l ≠ d := by
      obtain ⟨x, y, ed⟩ := hd
      refine ne_of hl ed fun z => ?_
      cases xs with
      | nil => exact absurd hx (by decide)
      | cons a b => cases z
    have six : 6 ≤ sizeLine := Nat.le_of_lt (line 6 (by decide))
    refine ⟨six, fun q0 hq0 => ?_⟩
    have nq0 : q0 ≠ d := hd.ne hq0
    refine ⟨_, rfl, d, 6, rfl, hd.same (new hq0), (by decide), fun r0 H1 h0 b1 d1 => ?_⟩
    obtain ⟨s, hs, hsm⟩ : ∃ s : Str, ([V.str "<", V.str "<=", V.str "=", V.str "!=", V.str ">=", V.str ">"] : List V)[r0]? = some (V.str s) ∧ s ∈ signs := by
      have : r0 = 0 ∨ r0 = 1 ∨ r0 = 2 ∨ r0 = 3 ∨ r0 = 4 ∨ r0 = 5 := by omega
      rcases this with e | e | e | e | e | e <;> subst e <;> exact ⟨_, rfl, by simp [signs]⟩
    refine ⟨q0, _, _, _, rfl, rfl, SqL.of (b1 _ _ upd_same nq0), atI_nat hs, ?_⟩
    have el1 : H1 l = some (.lst (xs.map V.str)) := b1 _ _ (new hq0 _ _ hl) nld
    have F1 : But d H H1 := ((But.of (new hq0)).trans b1)
    refine ⟨_, rfl, _, rfl, d, l, xs, rfl, d1, el1, hx, hxl, fun p1 t1 n1 H2 b2 d2 S1 g1 lo1 => ?_⟩
    have el2 : H2 l = some (.lst (xs.map V.str)) := b2 _ _ el1 nld
    refine ⟨_, rfl, _, rfl, _, rfl, d, l, xs, rfl, d2, el2, hx, hxl, fun p2 t2 n2 H3 b3 d3 S2 g2 lo2 => ?_⟩
    have hz2 := id d2
    obtain ⟨za, zb, hz2⟩ := hz2
    have S1' := S1.hard (Hard.soft b3 hz2 soft_l)
    have el3 : H3 l = some (.lst (xs.map V.str)) := b3 _ _ el2 nld
    refine fun z dz hz hdz ne3 => ?_
    have g3 := made_same (o := .own z) (o' := .ins Z.c dz []) hz hdz
    refine ⟨z, dz, p1, p2, s, rfl, upd_same, fun H4 but3 e3 => ⟨rfl, ?_⟩⟩
    have s3 : Same H3 H4 := fun b' o q => but3 b' o (g3 _ _ q) (ne_of_none q hz)
    have C0 : CondAt Z H4 (.cmp t1 n1 s t2 n2) (.ref z) := by
      unfold CondAt
      exact ⟨z, dz, p1, p2, rfl, e3, S1'.same s3, S2.same s3⟩
    have F4 : But d H H4 := (((F1.trans b2).trans b3).trans (But.of s3))
    have d4 := d3.same s3
    have el4 := s3 _ _ el3
    have gd0 : Gd xs (.cmp t1 n1 s t2 n2) := by unfold Gd; exact ⟨g1, hsm, g2⟩
    have ok0 : Cd.ok (.cmp t1 n1 s t2 n2) := by unfold Cd.ok; exact hsm
    have dp0 : Cd.dep (.cmp t1 n1 s t2 n2) = 1 := by unfold Cd.dep; rfl
    generalize Cd.cmp t1 n1 s t2 n2 = c0 at C0 gd0 ok0 dp0
    clear S1 S1' S2 e3 g1 g2 lo1 lo2 b1 b2 b3 d1 d2 d3 F1 hz2
    refine ⟨_, rfl, d, 8, rfl, d4, (by decide), fun r5 H5 h5 b5 d5 => ?_⟩
    obtain ⟨ya, yb, hz4⟩ := id d4
    have C5 := C0.hard (Hard.soft b5 hz4 soft_l)
    have F5 : But d H H5 := F4.trans b5
    have el5 : H5 l = some (.lst (xs.map V.str)) := b5 _ _ el4 nld
    have two : 2 ≤ sizeLine := Nat.le_of_lt (line 2 (by decide))
    have thr : 3 ≤ sizeLine := Nat.le_of_lt (line 3 (by decide))
    refine ⟨_, rfl, rfl, .inr ⟨_, rfl, _, _, rfl, rfl, .inl ⟨by decide, by decide⟩, _, _, rfl, rfl, ?_⟩⟩
    have big : ∀ m : Int, m < 8 → (V.int ((r5 : Int) + 8 * (if decide (V.int (kk : Int) = V.int 0) = true then 1 else 0)) = V.int m) → ∃ j : Nat, kk = j + 1 := fun m hm e => by
      cases kk with
      | zero => rw [decide_eq_true (show V.int ((0 : Nat) : Int) = V.int 0 from rfl), if_pos rfl] at e; have := V.int.inj e; omega
      | succ j => exact ⟨j, rfl⟩
    refine ⟨_, rfl, rfl, _, rfl, ite2 (fun h => ?_) (fun h => ?_)⟩
    · obtain ⟨j, rfl⟩ := big 0 (by decide) (of_decide_eq_true h)
      refine ⟨_, rfl, _, rfl, _, rfl, _, _, rfl, rfl, d, l, j, xs, congrArg (fun z => [V.ref d, V.ref l, V.int z]) (show ((j + 1 : Nat) : Int) - 1 = (j : Int) by omega), (by omega), d5, el5, hx, hxl, fun p c H6 b6 d6 C6 dc gc okc => ?_⟩
      refine fun x dx hx' hdx ne => ?_
      have g1 := made_same (o := .own x) (o' := .ins Z.t dx []) hx' hdx
      refine ⟨x, dx, .ref p, rfl, upd_same, fun H7 but e1 => ⟨rfl, ?_⟩⟩
      have s7 : Same H6 H7 := fun b' o z => but b' o (g1 _ _ z) (ne_of_none z hx')
      refine k x (.neg c) H7 ((F5.trans b6).trans (But.of s7)) (d6.same s7) ?_ (by unfold Cd.dep; omega) (by unfold Gd; exact gc) (by unfold Cd.ok; exact okc)
      unfold CondAt
      exact ⟨x, dx, .ref p, rfl, e1, C6.hard (Hard.of s7)⟩
    refine ⟨_, rfl, rfl, _, rfl, ite2 (fun h => ?_) (fun h => ?_)⟩
    · obtain ⟨j, rfl⟩ := big 1 (by decide) (of_decide_eq_true h)
      refine ⟨_, rfl, _, rfl, _, rfl, _, rfl, _, _, rfl, rfl, d, l, j, xs, congrArg (fun z => [V.ref d, V.ref l, V.int z]) (show ((j + 1 : Nat) : Int) - 1 = (j : Int) by omega), (by omega), d5, el5, hx, hxl, fun p c H6 b6 d6 C6 dc gc okc => ?_⟩
      obtain ⟨wa, wb, hz5⟩ := id d5
      have C6' := C5.hard (Hard.soft b6 hz5 soft_l)
      refine ⟨two, fun t ht => ?_⟩
      have st := new (o := .tup [V.ref z, V.ref p]) ht
      refine fun x dx hx' hdx ne => ?_
      have g1 := made_same (o := .own x) (o' := .ins Z.e dx []) hx' hdx
      refine ⟨x, dx, t, [V.ref z, V.ref p], rfl, upd_same, g1 _ _ upd_same, fun H7 but e1 => ⟨rfl, ?_⟩⟩
      have s7 : Same (upd H6 t (.tup [V.ref z, V.ref p])) H7 := fun b' o z => but b' o (g1 _ _ z) (ne_of_none z hx')
      have s67 : Same H6 H7 := st.trans s7
      refine k x (.con true [c0, c]) H7 ((F5.trans b6).trans (But.of s67)) (d6.same s67) ?_ (by unfold Cd.dep depL depL depL; omega) (by unfold Gd GdL GdL GdL; exact ⟨by show 2 ≤ 3; decide, gd0, gc, trivial⟩) (by unfold Cd.ok okL okL okL; exact ⟨ok0, okc, trivial⟩)
      unfold CondAt
      refine ⟨x, dx, t, [V.ref z, V.ref p], rfl, e1, s7 _ _ upd_same, (by show 2 ≤ 1000; decide), ?_⟩
      exact conds_paired.mpr (.cons (C6'.hard (Hard.of s67)) (.cons (C6.hard (Hard.of s67)) .nil))
    refine ⟨_, rfl, rfl, _, rfl, ite2 (fun h => ?_) (fun h => ?_)⟩
    · obtain ⟨j, rfl⟩ := big 2 (by decide) (of_decide_eq_true h)
      refine ⟨_, rfl, _, rfl, _, rfl, _, rfl, _, _, rfl, rfl, d, l, j, xs, congrArg (fun z => [V.ref d, V.ref l, V.int z]) (show ((j + 1 : Nat) : Int) - 1 = (j : Int) by omega), (by omega), d5, el5, hx, hxl, fun p c H6 b6 d6 C6 dc gc okc => ?_⟩
      obtain ⟨wa, wb, hz5⟩ := id d5
      have C6' := C5.hard (Hard.soft b6 hz5 soft_l)
      refine ⟨_, rfl, thr, fun t ht => ?_⟩
      have st := new (o := .tup [V.ref z, V.ref p, V.ref z]) ht
      refine fun x dx hx' hdx ne => ?_
      have g1 := made_same (o := .own x) (o' := .ins Z.o dx []) hx' hdx
      refine ⟨x, dx, t, [V.ref z, V.ref p, V.ref z], rfl, upd_same, g1 _ _ upd_same, fun H7 but e1 => ⟨rfl, ?_⟩⟩
      have s7 : Same (upd H6 t (.tup [V.ref z, V.ref p, V.ref z])) H7 := fun b' o z => but b' o (g1 _ _ z) (ne_of_none z hx')
      have s67 : Same H6 H7 := st.trans s7
      refine k x (.con false [c0, c, c0]) H7 ((F5.trans b6).trans (But.of s67)) (d6.same s67) ?_ (by unfold Cd.dep depL depL depL depL; omega) (by unfold Gd GdL GdL GdL GdL; exact ⟨by show 3 ≤ 3; decide, gd0, gc, gd0, trivial⟩) (by unfold Cd.ok okL okL okL okL; exact ⟨ok0, okc, ok0, trivial⟩)
      unfold CondAt
      refine ⟨x, dx, t, [V.ref z, V.ref p, V.ref z], rfl, e1, s7 _ _ upd_same, (by show 3 ≤ 1000; decide), ?_⟩
      exact conds_paired.mpr (.cons (C6'.hard (Hard.of s67)) (.cons (C6.hard (Hard.of s67)) (.cons (C6'.hard (Hard.of s67)) .nil)))
    exact ⟨_, rfl, k z c0 H5 F5 d5 C5 (by omega) gd0 ok0⟩
end
end Hw
namespace Hw
open PySem L2 PyProof.Rows
section
variable {P : Program} {w : World} {K : PySem.W.Frag} {mg : Str → Option Value} {base : Heap}
abbrev sLVal : Stmt := top 20
theorem sc_law_value : FnScope ["_law_one", "_law_numbers", "_law_found", "_law_thing", "_law_times"] ["_law_one", "_law_numbers"] (defScope sLVal) := ⟨rfl, rfl, rfl, by decide +kernel, rfl, by decide +kernel, by decide +kernel⟩
theorem ok_v28 {f : Addr} {fd : FuncData} {Z : Cz} {n : Nat} (F : Fun K "_law_value" "_law_value" sLVal f fd) (T : Txt K mg Z.s) (U : Txz K mg Z)  : FnOk P w K mg base CX0 1 f fd ["_law_one", "_law_numbers"] spLVal := by
  refine F.ok sc_law_value (fun vs H Q E h => ?_) (fun cdv A outer s H vs Q E hr h => ?_)
  · obtain ⟨p, d, ts, ns, m, rfl, U0, hd, h3, hk, k⟩ := h
    rfl
  · obtain ⟨p, d, ts, ns, m, rfl, U0, hd, h3, hk, k⟩ := h
    have hu := hu_of hr
    rw [show defBody sLVal = [_, _, _] from rfl]
    refine ⟨_, (pss_cons (ps_set (i := 2) sc_law_value.nd rfl (Or.inl rfl) (pe_ix ix_tup (pv 0) pe_int (fun _ _ => rfl)))
      (pss_cons (ps_for PassesOwn.never rfl (pi_tup (pe_ix ix_tup (pv 0) pe_int (fun _ _ => rfl))) (pg_tup rfl (pgs_cons (pg_name (i := 3) sc_law_value.nd rfl (Or.inl rfl)) (pgs_cons (pg_name (i := 4) sc_law_value.nd rfl (Or.inl rfl)) pgs_nil))) (pss_one (ps_set (i := 2) sc_law_value.nd rfl (Or.inl rfl) (pe_op op_add (pv 2) (pe_op op_mul (pv 4) (pe_dget hu (pv 1) (pv 3) (fun _ _ => rfl)))))))
      (pss_one (ps_ret (pv 2))))), ?_⟩
    obtain ⟨t, hp, ht⟩ := id U0
    have ht3 := h3.1
    refine ⟨_, rfl, p, _, 1, _, rfl, rfl, SqT.of hp, rfl, ?_⟩
    refine ⟨_, rfl, p, _, 0, _, rfl, rfl, SqT.of hp, rfl, t, rfl, for_tpT ht (fun i σ H' => ∃ a3 a4 : Option V, σ = [some (.ref p), some (.ref d), some (.int (m + lin (ts.take i) (get ns))), a3, a4] ∧ H' = H) ⟨none, none, (by rw [List.take_zero, show lin [] (get ns) = 0 from rfl, Int.add_zero]; rfl), rfl⟩ ?_ ?_ ?_⟩
    · rintro i σ H' ⟨a3, a4, rfl, rfl⟩ b xs e
      exact e
    · rintro i v pr σ H' hi ⟨c, rfl, hc⟩ ⟨a3, a4, rfl, rfl⟩
      have hmm := List.mem_of_getElem? hi
      refine ⟨c, _, rfl, SqT.of hc, rfl, _, _, rfl, _, _, rfl, rfl, ?_⟩
      refine ⟨_, rfl, _, rfl, _, rfl, _, rfl, d, _, rfl, nums_get hd (hk pr hmm), _, _, rfl, rfl, .inl (h3.2 pr hmm).w, _, _, rfl, rfl, some (.str pr.1), some (.int pr.2), ?_, rfl⟩
      rw [take_snoc hi, lin_append]
      show _ = [_, _, some (V.int (m + (lin (ts.take i) (get ns) + (pr.2 * get ns pr.1 + 0)))), _, _]
      rw [Int.add_zero, ← Int.add_assoc]
      rfl
    · rintro σ H' ⟨a3, a4, rfl, rfl⟩
      rw [List.take_length]
      exact ⟨_, rfl, k _ (fun _ _ z => z)⟩
end
end Hw
namespace Hw
open PySem L2 PyProof.Rows
section
variable {P : Program} {w : World} {K : PySem.W.Frag} {mg : Str → Option Value} {base : Heap}
abbrev sLHolds : Stmt := top 21
theorem sc_law_holds : FnScope ["_law_told", "_law_numbers", "_law_truths", "_law_one", "_law_other", "_law_signs"] ["_law_told", "_law_numbers"] (defScope sLHolds) := ⟨rfl, rfl, rfl, by decide +kernel, rfl, by decide +kernel, by decide +kernel⟩
theorem ok_h28 {f : Addr} {fd : FuncData} {Z : Cz} {n : Nat} (F : Fun K "_law_holds" "_law_holds" sLHolds f fd) (T : Txt K mg Z.s) (U : Txz K mg Z) (d_lval : Dn P w K mg base 1 "_law_value" ["_law_one", "_law_numbers"] spLVal) (d_lholds : Dn P w K mg base (n + 1) "_law_holds" ["_law_told", "_law_numbers"] (spLHolds n)) : FnOk P w K mg base CX0 (n + 2) f fd ["_law_told", "_law_numbers"] (spLHolds (n + 1)) := by
  obtain ⟨f_value_, fd_value_, G_value, mg_value, kp_value, b_value⟩ := d_lval
  obtain ⟨f_lh, fd_lh, G_holds, mg_holds, kp_holds, b_holds⟩ := d_lholds
  refine F.ok sc_law_holds (fun vs H Q E h => ?_) (fun cdv A outer s H vs Q E hr h => ?_)
  · obtain ⟨v, d, c, xs, ns, rfl, ht, hd, hg, hN, hk, k⟩ := h
    rfl
  · obtain ⟨v, d, c, xs, ns, rfl, ht, hd, hg, hN, hk, k⟩ := h
    have hu := hu_of hr
    rw [show defBody sLHolds = [_, _, _, _, _, _] from rfl]
    refine ⟨_, (pss_cons (ps_if (pt_cmpR op_eq (pe_ix ix_tup (pv 0) pe_int (fun _ _ => rfl)) pe_str (nomark _)) (pss_one (ps_ret (pe_not (pe_call G_holds (hr.mono (by first | decide | omega)) rfl mg_holds kp_holds b_holds .nil pass0 (pa_cons (pe_ix ix_tup (pv 0) pe_int (fun _ _ => rfl)) (pa_cons (pv 1) pa_nil)))))) pss_nil)
      (pss_cons (ps_if (pt_cmpR op_in_seq (pe_ix ix_tup (pv 0) pe_int (fun _ _ => rfl)) (pe_tup (pa_cons pe_str (pa_cons pe_str pa_nil))) (by rfl)) (pss_cons (ps_setC (i := 2) sc_law_holds.nd rfl (Or.inl rfl) (compSc_mk ["_law_one"] ["_law_numbers"] [1] rfl (by decide +kernel) (by decide +kernel) (by with_unfolding_all rfl) (by exact ⟨rfl, trivial⟩) (by rfl) rfl (by rfl)) rfl (pi_tup (pe_slice sl_tup (pv 0) (po_some pe_int) po_none)) (fun _ _ _ _ => (pg_name (i := 0) (show List.Nodup (["_law_one", "_law_numbers"] : List Str) by decide +kernel) rfl (Or.inl rfl) (Or.inr rfl))) (fun _ _ _ _ => pts_nil) (fun _ _ _ _ => (pe_call G_holds (hr.mono (by first | decide | omega)) rfl mg_holds kp_holds b_holds .nil pass0 (pa_cons (pv 0) (pa_cons (pv 1) pa_nil)))))
      (pss_one (ps_ret (pe_ix ix_list (pe_lst (pa_cons (pe_cmpR op_in_seq pe_bl (pv 2) (by rfl)) (pa_cons (pe_cmpR op_notIn_seq pe_bl (pv 2) (by rfl)) pa_nil))) (pe_callTy call_int1 (by rfl) T.int boot_int (pa_cons (pe_cmpR op_eq (pe_ix ix_tup (pv 0) pe_int (fun _ _ => rfl)) pe_str (nomark _)) pa_nil)) (fun _ _ => rfl))))) pss_nil)
      (pss_cons (ps_set (i := 3) sc_law_holds.nd rfl (Or.inl rfl) (pe_call G_value (hr.mono (by first | decide | omega)) rfl mg_value kp_value b_value .nil pass0 (pa_cons (pe_ix ix_tup (pv 0) pe_int (fun _ _ => rfl)) (pa_cons (pv 1) pa_nil))))
      (pss_cons (ps_set (i := 4) sc_law_holds.nd rfl (Or.inl rfl) (pe_call G_value (hr.mono (by first | decide | omega)) rfl mg_value kp_value b_value .nil pass0 (pa_cons (pe_ix ix_tup (pv 0) pe_int (fun _ _ => rfl)) (pa_cons (pv 1) pa_nil))))
      (pss_cons (ps_set (i := 5) sc_law_holds.nd rfl (Or.inl rfl) (pe_disp (pps_cons pe_str (pe_cmpR op_eq (pv 3) (pv 4) (nomark _)) (pps_cons pe_str (pe_cmpR op_ne (pv 3) (pv 4) (nomark _)) (pps_cons pe_str (pe_cmpR op_lt (pv 3) (pv 4) (nomark _)) (pps_cons pe_str (pe_cmpR op_le (pv 3) (pv 4) (nomark _)) (pps_cons pe_str (pe_cmpR op_gt (pv 3) (pv 4) (nomark _)) pps_nil))))) rfl rfl (by intro z; cases z) (by decide)))
      (pss_one (ps_ret (pe_dget2 hu (pv 5) (pe_ix ix_tup (pv 0) pe_int (fun _ _ => rfl)) (pe_cmpR op_ge (pv 3) (pv 4) (nomark _)) ⟨rfl, rfl, rfl, rfl⟩)))))))), ?_⟩
    cases c with
    | neg c =>
      unfold ToldAt at ht
      unfold Gd at hg
      obtain ⟨r, u, rfl, er, ht⟩ := ht
      refine ⟨_, rfl, r, _, 0, _, rfl, rfl, SqT.of er, rfl, rfl, _, rfl, iteDT rfl ?_⟩
      refine ⟨_, rfl, r, _, 1, _, rfl, rfl, SqT.of er, rfl, _, rfl, u, d, c, xs, ns, rfl, ht, (by unfold Cd.dep at hd; omega), hg, hN, hk, fun H1 s1 => ?_⟩
      have k := k _ s1
      unfold Cd.holds at k
      exact ⟨_, rfl, k⟩
    | con b cs =>
      unfold ToldAt at ht
      unfold Gd at hg
      obtain ⟨r, us, rfl, er, ht⟩ := ht
      have hpt := tolds_paired.mp ht
      have lus : us.length = cs.length := paired_len hpt
      have lc3 := hg.1
      have two : 2 ≤ sizeLine := Nat.le_of_lt (line 2 (by decide))
      refine ⟨_, rfl, r, _, 0, _, rfl, rfl, SqT.of er, atH _ _, rfl, _, rfl, iteDF (str_ne (s := opW b) (by cases b <;> decide +kernel)) ?_⟩
      refine ⟨_, rfl, r, _, 0, _, rfl, rfl, SqT.of er, atH _ _, two, fun q0 hq0 => ?_⟩
      have s0 := new (o := .tup [V.str "and", V.str "or"]) hq0
      refine ⟨q0, _, rfl, .inr (SqT.of upd_same), rfl, rfl, _, rfl, ifT (by cases b <;> decide +kernel) ?_⟩
      refine ⟨_, rfl, _, rfl, r, _, rfl, SqT.of (s0 _ _ er), cut1n _ _, fun t htn => ?_⟩
      rw [cut1]
      have s1 := s0.trans (new (o := .tup us) htn)
      refine ⟨t, rfl, ⟨us, SqT.of upd_same⟩, comp_tup (xs := us) (fun i ys H' => Same (upd (upd H q0 (.tup [V.str "and", V.str "or"])) t (.tup us)) H' ∧ ys = ((cs.take i).map (Cd.holds (get ns))).map V.bl) ⟨fun _ _ z => z, rfl⟩ (fun i ys H' _ q => SqT.of (q.1 _ _ upd_same)) ?_ ?_⟩
      · rintro i x ys H' hix ⟨sm, rfl⟩
        obtain ⟨c, hci, hcx⟩ := paired_at hpt hix
        have ild := (List.getElem?_eq_some_iff.mp hci).1
        have hcm := List.mem_of_getElem? hci
        have dd : c.dep ≤ n := by
          have z := dep_mem hcm
          unfold Cd.dep at hd
          omega
        refine ⟨Ext.one, alwT ⟨_, rfl, _, rfl, x, d, c, xs, ns, rfl, hcx.hard (Hard.of (s1.trans sm)), dd, gdL_mem hg.2 hcm, (s1.trans sm) _ _ hN, hk, fun H1 sm1 => ⟨?_, sm.trans sm1, ?_⟩⟩⟩
        · rw [List.length_map, List.length_map, List.length_take]
          exact line _ (by omega)
        · rw [take_snoc hci, List.map_append, List.map_append]
          rfl
      rintro ys H' ⟨sm, rfl⟩ q hq
      rw [lus, List.take_length]
      have sq := new (o := .lst ((cs.map (Cd.holds (get ns))).map V.bl)) hq
      refine ⟨_, rfl, q, _, rfl, .inl (SqL.of upd_same), rfl, flat_bl _, ?_⟩
      refine ⟨_, rfl, q, _, rfl, .inl (SqL.of upd_same), rfl, flat_bl _, ?_⟩
      refine ⟨two, fun q1 hq1 => ?_⟩
      have sz : ∀ o, Same H (upd (upd H' q (.lst ((cs.map (Cd.holds (get ns))).map V.bl))) q1 o) := fun o => ((s1.trans sm).trans sq).trans (new hq1)
      unfold Cd.holds at k
      have er' := new (o := .lst [V.bl (if false = true then !inV (.bl true) ((cs.map (Cd.holds (get ns))).map V.bl) else inV (.bl true) ((cs.map (Cd.holds (get ns))).map V.bl)), V.bl (if true = true then !inV (.bl false) ((cs.map (Cd.holds (get ns))).map V.bl) else inV (.bl false) ((cs.map (Cd.holds (get ns))).map V.bl))]) hq1 _ _ (sq _ _ (sm _ _ (s1 _ _ er)))
      refine ⟨_, rfl, r, _, 0, _, rfl, rfl, SqT.of er', atH _ _, rfl, ?_⟩
      cases b with
      | true =>
        refine .inr ⟨true, rfl, q1, _, _, _, rfl, rfl, SqL.of upd_same, rfl, ?_⟩
        rw [if_pos rfl, holdsA_all, ← in_false] at k
        exact k _ (sz _)
      | false =>
        refine .inr ⟨false, rfl, q1, _, _, _, rfl, rfl, SqL.of upd_same, rfl, ?_⟩
        rw [if_neg (by decide), holdsO_any, ← in_true] at k
        exact k _ (sz _)
    | cmp a i s b m =>
      unfold ToldAt at ht
      unfold Gd at hg
      obtain ⟨r, u, w, rfl, er, D1, D2⟩ := ht
      have two : 2 ≤ sizeLine := Nat.le_of_lt (line 2 (by decide))
      refine ⟨_, rfl, r, _, 0, _, rfl, rfl, SqT.of er, rfl, rfl, _, rfl, iteDF (str_ne (by decide +kernel)) ?_⟩
      refine ⟨_, rfl, r, _, 0, _, rfl, rfl, SqT.of er, rfl, two, fun q0 hq0 => ?_⟩
      have s0 := new (o := .tup [V.str "and", V.str "or"]) hq0
      refine ⟨q0, _, rfl, .inr (SqT.of upd_same), rfl, rfl, _, rfl, ifF (by decide +kernel) ?_⟩
      refine ⟨_, rfl, r, _, 1, _, rfl, rfl, SqT.of (s0 _ _ er), rfl, _, rfl, u, d, a, ns, i, rfl, D1.hard (Hard.of s0), s0 _ _ hN, hg.1.2.1, (fun z hz => hk _ (hg.1.2.2.1 z hz)), fun H1 s1 => ?_⟩
      refine ⟨_, rfl, r, _, 3, _, rfl, rfl, SqT.of (s1 _ _ (s0 _ _ er)), rfl, _, rfl, w, d, b, ns, m, rfl, D2.hard (Hard.of (s0.trans s1)), s1 _ _ (s0 _ _ hN), hg.2.2.2.1, (fun z hz => hk _ (hg.2.2.2.2.1 z hz)), fun H2 s2 => ?_⟩
      have sA := (s0.trans s1).trans s2
      have er' := sA _ _ er
      unfold Cd.holds at k
      generalize i + lin a (get ns) = X at k ⊢
      generalize m + lin b (get ns) = Y at k ⊢
      have hs := hg.2.1
      intro dd hdd
      refine ⟨_, rfl, _, rfl, rfl, ?_⟩
      refine ⟨_, rfl, _, rfl, rfl, ?_⟩
      refine ⟨_, rfl, _, rfl, _, _, rfl, rfl, ?_⟩
      refine ⟨_, rfl, _, rfl, _, _, rfl, rfl, ?_⟩
      refine ⟨_, rfl, _, rfl, _, _, rfl, rfl, ?_⟩
      refine ⟨upd_same, sgL _ _ _ _ _, rfl, (by show 5 ≤ 15; decide), ?_⟩
      rw [L2.upd_upd]
      have sB : ∀ o, Same H (upd H2 dd o) := fun o => sA.trans (new hdd)
      refine ⟨_, rfl, dd, rfl, (.inl ⟨_, .inl upd_same⟩), ?_⟩
      refine ⟨_, rfl, r, _, 2, _, rfl, rfl, SqT.of (sB _ _ _ er), rfl, ?_⟩
      refine ⟨_, rfl, _, rfl, _, _, rfl, rfl, _, DGet.k (k := Sum.inr s) upd_same, ?_⟩
      rw [sg_at hs, sg_is hs]
      exact k _ (sB _)
end
end Hw
namespace Hw
open PySem L2 PyProof.Rows
section
variable {P : Program} {w : World} {K : PySem.W.Frag} {mg : Str → Option Value} {base : Heap}
abbrev sLRows : Stmt := top 22
theorem sc_law_rows : FnScope ["_law_draw", "_law_things", "_law_known", "_law_found", "_law_k", "_law_thing", "_law_kind"] ["_law_draw"] (defScope sLRows) := ⟨rfl, rfl, rfl, by decide +kernel, rfl, by decide +kernel, by decide +kernel⟩
theorem ok_r28 {f : Addr} {fd : FuncData} {Z : Cz} {n : Nat} (F : Fun K "_law_rows" "_law_rows" sLRows f fd) (T : Txt K mg Z.s) (U : Txz K mg Z) (d_next : Dn P w K mg base 2 "_law_next" ["_law_draw", "_law_size"] spNext) (d_s28 : Dn P w K mg base 4 "_law_sum" ["_law_draw", "_law_things"] (sp28Sum Z)) (d_c28 : Dn P w K mg base 8 "_law_condition" ["_law_draw", "_law_things", "_law_deep"] (sp28Cond Z 3)) : FnOk P w K mg base CX0 9 f fd ["_law_draw"] (sp28Rows Z) := by
  obtain ⟨f_next, fd_next, G_next, mg_next, kp_next, b_next⟩ := d_next
  obtain ⟨f_sum_, fd_sum_, G_sum, mg_sum, kp_sum, b_sum⟩ := d_s28
  obtain ⟨f_condition, fd_condition, G_condition, mg_condition, kp_condition, b_condition⟩ := d_c28
  refine F.ok sc_law_rows (fun vs H Q E h => ?_) (fun cdv A outer s H vs Q E hr h => ?_)
  · obtain ⟨d, rfl, hd, k⟩ := h
    rfl
  · obtain ⟨d, rfl, hd, k⟩ := h
    have hu := hu_of hr
    rw [show defBody sLRows = [_, _, _, _, _] from rfl]
    refine ⟨_, (pss_cons (ps_set (i := 1) sc_law_rows.nd rfl (Or.inl rfl) (pe_lst (pa_strs (xs := ["x", "^", "#row", "~3"]) rfl)))
      (pss_cons (ps_set (i := 2) sc_law_rows.nd rfl (Or.inl rfl) (pe_lst pa_nil))
      (pss_cons (ps_set (i := 3) sc_law_rows.nd rfl (Or.inl rfl) (pe_lst pa_nil))
      (pss_cons (ps_for PassesOwn.never rfl (pi_range1 rfl T.range (pa_cons (pe_call G_next (hr.mono (by first | decide | omega)) rfl mg_next kp_next b_next .nil pass0 (pa_cons (pv 0) (pa_cons pe_int pa_nil))) pa_nil)) (pg_name (i := 4) sc_law_rows.nd rfl (Or.inl rfl)) (pss_cons (ps_set (i := 5) sc_law_rows.nd rfl (Or.inl rfl) (pe_ix ix_list (pv 1) (pe_call G_next (hr.mono (by first | decide | omega)) rfl mg_next kp_next b_next .nil pass0 (pa_cons (pv 0) (pa_cons pe_int pa_nil))) (fun _ _ => rfl)))
      (pss_cons (ps_set (i := 6) sc_law_rows.nd rfl (Or.inl rfl) (pe_call G_next (hr.mono (by first | decide | omega)) rfl mg_next kp_next b_next .nil pass0 (pa_cons (pv 0) (pa_cons pe_int pa_nil))))
      (pss_cons (ps_if (PW.pt (pw_or (pt_cmpR op_eq (pv 6) pe_int (nomark _)) (pw_or1 (pt_cmpR (op_eqNilL (uN hr)) (pv 2) (pe_lst pa_nil) (nomark _))))) (pss_one (ps_expr (pe_bm PySem.F.plainAttrs_list PySem.F.slot_list_append PySem.F.type_list_append mt_append (pv 3) (pa_cons (pe_tup (pa_cons pe_str (pa_cons (pv 5) pa_nil))) pa_nil)))) (pss_one (ps_if (pt_cmpR op_eq (pv 6) pe_int (nomark _)) (pss_one (ps_expr (pe_bm PySem.F.plainAttrs_list PySem.F.slot_list_append PySem.F.type_list_append mt_append (pv 3) (pa_cons (pe_tup (pa_cons pe_str (pa_cons (pv 5) (pa_cons (pe_call G_sum (hr.mono (by first | decide | omega)) rfl mg_sum kp_sum b_sum .nil pass0 (pa_cons (pv 0) (pa_cons (pv 2) pa_nil))) pa_nil)))) pa_nil)))) (pss_one (ps_expr (pe_bm PySem.F.plainAttrs_list PySem.F.slot_list_append PySem.F.type_list_append mt_append (pv 3) (pa_cons (pe_tup (pa_cons pe_str (pa_cons (pe_call G_condition (hr.mono (by first | decide | omega)) rfl mg_condition kp_condition b_condition .nil pass0 (pa_cons (pv 0) (pa_cons (pv 2) (pa_cons pe_int pa_nil)))) pa_nil))) pa_nil)))))))
      (pss_one (ps_if (PW.pt (pw_and (pt_cmpR op_ne (pe_ix ix_tup (pe_ix ix_list (pv 3) (pe_un un_neg pe_int) (fun _ _ => rfl)) pe_int (fun _ _ => rfl)) pe_str (nomark _)) (pw_and1 (pt_cmpR op_notIn_seq (pv 5) (pv 2) (by rfl))))) (pss_one (ps_expr (pe_bm PySem.F.plainAttrs_list PySem.F.slot_list_append PySem.F.type_list_append mt_append (pv 2) (pa_cons (pv 5) pa_nil)))) pss_nil))))))
      (pss_one (ps_ret (pv 3))))))), ?_⟩
    have two : 2 ≤ sizeLine := Nat.le_of_lt (line 2 (by decide))
    have thr : 3 ≤ sizeLine := Nat.le_of_lt (line 3 (by decide))
    refine ⟨(by show 4 ≤ sizeLine; exact Nat.le_of_lt (line 4 (by decide))), fun th hth0 => ?_⟩
    refine ⟨Nat.zero_le _, fun lk hlk => ?_⟩
    refine ⟨Nat.zero_le _, fun lf hlf => ?_⟩
    have hlk0 : H lk = none := none_of_new hlk
    have hlf0 : H lf = none := none_of_new (none_of_new hlf)
    have ntd : th ≠ d := hd.ne hth0
    have nkd : lk ≠ d := hd.ne hlk0
    have nfd : lf ≠ d := hd.ne hlf0
    have ntk : th ≠ lk := ne_of_none upd_same hlk
    have nkf : lk ≠ lf := ne_of_none upd_same hlf
    have ntf : th ≠ lf := ne_of_none (new hlk _ _ upd_same) hlf
    have sA := ((new (o := .lst ([("x" : Str), "^", "#row", "~3"].map V.str)) hth0).trans (new (o := .lst []) hlk)).trans (new (o := .lst []) hlf)
    refine ⟨_, rfl, d, 10, rfl, hd.same sA, (by decide), fun r0 H1 h0 b1 d1 => ?_⟩
    refine ⟨_, rfl, by omega, by omega, for_range (n := (r0 : Int).toNat) (fun i σ H' => ∃ (rs : List Rw) (us : List V) (a4 a5 a6 : Option V), σ = [some (.ref d), some (.ref th), some (.ref lk), some (.ref lf), a4, a5, a6] ∧ But d H H' ∧ Dr H' d ∧ H' th = some (.lst ([("x" : Str), "^", "#row", "~3"].map V.str)) ∧ H' lk = some (.lst ((kn [] rs).map V.str)) ∧ H' lf = some (.lst us) ∧ RowsAt Z H' us rs ∧ wf [] rs ∧ rs.length ≤ i ∧ (kn [] rs).length ≤ i)
      ⟨[], [], none, none, none, rfl, (But.of sA).trans b1, d1, b1 _ _ (new hlf _ _ (new hlk _ _ upd_same)) ntd, b1 _ _ (new hlf _ _ upd_same) nkd, b1 _ _ upd_same nfd, .nil, trivial, Nat.le_refl _, Nat.le_refl _⟩ ?_ ?_⟩
    · rintro i σ H2 hi ⟨rs, us, a4, a5, a6, rfl, F, D, et, ek, ef, R2, W, ll, kl⟩
      refine ⟨_, rfl, _, rfl, d, 4, rfl, D, (by decide), fun r1 H3 h1 b3 d3 => ?_⟩
      obtain ⟨x, hx⟩ : ∃ x : Str, ([("x" : Str), "^", "#row", "~3"].map V.str)[r1]? = some (V.str x) := by
        have : r1 = 0 ∨ r1 = 1 ∨ r1 = 2 ∨ r1 = 3 := by omega
        rcases this with e | e | e | e <;> subst e <;> exact ⟨_, rfl⟩
      refine ⟨th, _, _, _, rfl, rfl, SqL.of (b3 _ _ et ntd), atI_nat hx, ?_⟩
      refine ⟨_, rfl, d, 3, rfl, d3, (by decide), fun r2 H4 h2 b4 d4 => ?_⟩
      have b34 : But d H2 H4 := b3.trans b4
      have et4 := b34 _ _ et ntd
      have ek4 := b34 _ _ ek nkd
      have ef4 := b34 _ _ ef nfd
      obtain ⟨za, zb, hzD⟩ := id D
      have R4 := R2.hard (Hard.soft b34 hzD soft_l)
      have F4 := F.trans b34
      have ul : us.length = rs.length := Paired.length R2
      have vz : us.length < sizeLine := by rw [ul]; exact line _ (by omega)
      clear b3 b4 d3 hx et ek ef R2 F D
      refine ⟨_, rfl, rfl, _, rfl, ite2 (fun hk0 => ?_) (fun hk0 => ?_)⟩
      · refine ifT rfl ?_
        refine ⟨_, rfl, .inl ⟨rfl, _, SqL.of ef4⟩, _, rfl, two, fun t ht => ?_⟩
        have efn : (upd H4 t (.tup [.str "any", .str x])) lf = some (.lst us) := new ht _ _ ef4
        have ekn : (upd H4 t (.tup [.str "any", .str x])) lk = some (.lst ((kn [] rs).map V.str)) := new ht _ _ ek4
        have etn := new (o := .tup [.str "any", .str x]) ht _ _ et4
        have ett : (upd H4 t (.tup [.str "any", .str x])) t = some (.tup [.str "any", .str x]) := upd_same
        have Rn := R4.hard (Hard.of (new (o := .tup [.str "any", .str x]) ht))
        have bn : But d H (upd H4 t (.tup [.str "any", .str x])) := F4.new ht
        have dn := d4.same (new (o := .tup [.str "any", .str x]) ht)
        have rv : RowAt Z (upd H4 t (.tup [.str "any", .str x])) (.ref t) (.any x) := ⟨t, rfl, upd_same⟩
        generalize upd H4 t (.tup [.str "any", .str x]) = Hn at efn ekn etn ett Rn bn dn rv ⊢
        refine ⟨lf, _, _, rfl, rfl, efn, vz, ?_⟩
        have Rn' : RowsAt Z (upd Hn lf (.lst (us ++ [V.ref t]))) (us ++ [V.ref t]) (rs ++ [Rw.any x]) := RowsAt.hard (paired_snoc Rn rv) (hard_upd efn)
        have eln : (upd Hn lf (.lst (us ++ [V.ref t]))) lk = some (.lst ((kn [] rs).map V.str)) := by rw [upd_ne nkf]; exact ekn
        have ethn : (upd Hn lf (.lst (us ++ [V.ref t]))) th = some (.lst ([("x" : Str), "^", "#row", "~3"].map V.str)) := by rw [upd_ne ntf]; exact etn
        have efn' : (upd Hn lf (.lst (us ++ [V.ref t]))) lf = some (.lst (us ++ [V.ref t])) := upd_same
        have Fn : But d H (upd Hn lf (.lst (us ++ [V.ref t]))) := fun b o e n => by
          rw [upd_ne (ne_of_none e hlf0)]
          exact bn b o e n
        have Dn : Dr (upd Hn lf (.lst (us ++ [V.ref t]))) d := by
          obtain ⟨x8, y8, q8⟩ := dn
          exact ⟨x8, y8, by rw [upd_ne nfd.symm]; exact q8⟩
        have etn' : (upd Hn lf (.lst (us ++ [V.ref t]))) t = some (.tup [.str "any", .str x]) := by rw [upd_ne (ne_of ett efn (by intro w; cases w))]; exact ett
        generalize upd Hn lf (.lst (us ++ [V.ref t])) = Hm at Rn' eln ethn efn' Fn Dn etn' ⊢
        have wn : wf [] (rs ++ [Rw.any x]) := wf_snoc W trivial
        have ln : (rs ++ [Rw.any x]).length ≤ i + 1 := by rw [List.length_append]; show rs.length + 1 ≤ i + 1; omega
        refine ⟨_, rfl, _, rfl, lf, _, _, _, rfl, rfl, SqL.of efn', atI_last _ _, t, _, 0, _, rfl, rfl, SqT.of etn', rfl, rfl, _, rfl, ifT (by decide +kernel) ?_⟩
        refine ⟨_, rfl, _, rfl, lk, _, rfl, .inl (SqL.of eln), rfl, flat_strs _, _, rfl, ?_⟩
        rw [inV_str]
        by_cases hin : x ∈ kn [] rs
        · rw [decide_eq_true hin]
          refine ifF rfl ?_
          refine ⟨rs ++ [Rw.any x], us ++ [V.ref t], _, _, _, rfl, Fn, Dn, ethn, ?_, efn', Rn', wn, ln, ?_⟩
          · rw [kn_snoc]
            show _ = some (HO.lst ((addK (kn [] rs) x).map V.str))
            unfold addK
            rw [if_pos hin]
            exact eln
          · rw [kn_snoc]
            show (addK (kn [] rs) x).length ≤ i + 1
            unfold addK
            rw [if_pos hin]
            omega
        rw [decide_eq_false hin]
        refine ifT rfl ?_
        have kz : ((kn [] rs).map V.str).length < sizeLine := by rw [List.length_map]; exact line _ (by omega)
        refine ⟨_, rfl, .inl ⟨rfl, _, SqL.of eln⟩, _, rfl, lk, _, _, rfl, rfl, eln, kz, ?_⟩
        refine ⟨rs ++ [Rw.any x], us ++ [V.ref t], _, _, _, rfl, fun b o e n => ?_, ?_, ?_, ?_, ?_, Rn'.hard (hard_upd eln), wn, ln, ?_⟩
        · rw [upd_ne (ne_of_none e hlk0)]
          exact Fn b o e n
        · obtain ⟨x8, y8, q8⟩ := Dn
          exact ⟨x8, y8, by rw [upd_ne nkd.symm]; exact q8⟩
        · rw [upd_ne ntk]
          exact ethn
        · rw [upd_same, kn_snoc]
          show _ = some (HO.lst ((addK (kn [] rs) x).map V.str))
          unfold addK
          rw [if_neg hin, List.map_append]
          rfl
        · rw [upd_ne nkf.symm]
          exact efn'
        · rw [kn_snoc]
          show (addK (kn [] rs) x).length ≤ i + 1
          unfold addK
          rw [if_neg hin, List.length_append]
          show (kn [] rs).length + 1 ≤ i + 1
          omega
      refine ⟨_, rfl, Nat.zero_le _, fun e0 he0 => ⟨lk, e0, _, rfl, rfl, SqL.of (new he0 _ _ ek4), SqL.of upd_same, _, rfl, ?_⟩⟩
      have se := new (o := .lst []) he0
      have ek4 := se _ _ ek4
      have ef4 := se _ _ ef4
      have et4 := se _ _ et4
      have R4 := R4.hard (Hard.of se)
      have F4 := F4.trans (But.of se)
      have d4 := d4.same se
      generalize upd H4 e0 (.lst []) = H4 at ek4 ef4 et4 R4 F4 d4 ⊢
      by_cases hnil : (kn [] rs).map V.str = []
      · refine iteDT hnil ?_
        refine ⟨_, rfl, .inl ⟨rfl, _, SqL.of ef4⟩, _, rfl, two, fun t ht => ?_⟩
        have efn : (upd H4 t (.tup [.str "any", .str x])) lf = some (.lst us) := new ht _ _ ef4
        have ekn : (upd H4 t (.tup [.str "any", .str x])) lk = some (.lst ((kn [] rs).map V.str)) := new ht _ _ ek4
        have etn := new (o := .tup [.str "any", .str x]) ht _ _ et4
        have ett : (upd H4 t (.tup [.str "any", .str x])) t = some (.tup [.str "any", .str x]) := upd_same
        have Rn := R4.hard (Hard.of (new (o := .tup [.str "any", .str x]) ht))
        have bn : But d H (upd H4 t (.tup [.str "any", .str x])) := F4.new ht
        have dn := d4.same (new (o := .tup [.str "any", .str x]) ht)
        have rv : RowAt Z (upd H4 t (.tup [.str "any", .str x])) (.ref t) (.any x) := ⟨t, rfl, upd_same⟩
        generalize upd H4 t (.tup [.str "any", .str x]) = Hn at efn ekn etn ett Rn bn dn rv ⊢
        refine ⟨lf, _, _, rfl, rfl, efn, vz, ?_⟩
        have Rn' : RowsAt Z (upd Hn lf (.lst (us ++ [V.ref t]))) (us ++ [V.ref t]) (rs ++ [Rw.any x]) := RowsAt.hard (paired_snoc Rn rv) (hard_upd efn)
        have eln : (upd Hn lf (.lst (us ++ [V.ref t]))) lk = some (.lst ((kn [] rs).map V.str)) := by rw [upd_ne nkf]; exact ekn
        have ethn : (upd Hn lf (.lst (us ++ [V.ref t]))) th = some (.lst ([("x" : Str), "^", "#row", "~3"].map V.str)) := by rw [upd_ne ntf]; exact etn
        have efn' : (upd Hn lf (.lst (us ++ [V.ref t]))) lf = some (.lst (us ++ [V.ref t])) := upd_same
        have Fn : But d H (upd Hn lf (.lst (us ++ [V.ref t]))) := fun b o e n => by
          rw [upd_ne (ne_of_none e hlf0)]
          exact bn b o e n
        have Dn : Dr (upd Hn lf (.lst (us ++ [V.ref t]))) d := by
          obtain ⟨x8, y8, q8⟩ := dn
          exact ⟨x8, y8, by rw [upd_ne nfd.symm]; exact q8⟩
        have etn' : (upd Hn lf (.lst (us ++ [V.ref t]))) t = some (.tup [.str "any", .str x]) := by rw [upd_ne (ne_of ett efn (by intro w; cases w))]; exact ett
        generalize upd Hn lf (.lst (us ++ [V.ref t])) = Hm at Rn' eln ethn efn' Fn Dn etn' ⊢
        have wn : wf [] (rs ++ [Rw.any x]) := wf_snoc W trivial
        have ln : (rs ++ [Rw.any x]).length ≤ i + 1 := by rw [List.length_append]; show rs.length + 1 ≤ i + 1; omega
        refine ⟨_, rfl, _, rfl, lf, _, _, _, rfl, rfl, SqL.of efn', atI_last _ _, t, _, 0, _, rfl, rfl, SqT.of etn', rfl, rfl, _, rfl, ifT (by decide +kernel) ?_⟩
        refine ⟨_, rfl, _, rfl, lk, _, rfl, .inl (SqL.of eln), rfl, flat_strs _, _, rfl, ?_⟩
        rw [inV_str]
        by_cases hin : x ∈ kn [] rs
        · rw [decide_eq_true hin]
          refine ifF rfl ?_
          refine ⟨rs ++ [Rw.any x], us ++ [V.ref t], _, _, _, rfl, Fn, Dn, ethn, ?_, efn', Rn', wn, ln, ?_⟩
          · rw [kn_snoc]
            show _ = some (HO.lst ((addK (kn [] rs) x).map V.str))
            unfold addK
            rw [if_pos hin]
            exact eln
          · rw [kn_snoc]
            show (addK (kn [] rs) x).length ≤ i + 1
            unfold addK
            rw [if_pos hin]
            omega
        rw [decide_eq_false hin]
        refine ifT rfl ?_
        have kz : ((kn [] rs).map V.str).length < sizeLine := by rw [List.length_map]; exact line _ (by omega)
        refine ⟨_, rfl, .inl ⟨rfl, _, SqL.of eln⟩, _, rfl, lk, _, _, rfl, rfl, eln, kz, ?_⟩
        refine ⟨rs ++ [Rw.any x], us ++ [V.ref t], _, _, _, rfl, fun b o e n => ?_, ?_, ?_, ?_, ?_, Rn'.hard (hard_upd eln), wn, ln, ?_⟩
        · rw [upd_ne (ne_of_none e hlk0)]
          exact Fn b o e n
        · obtain ⟨x8, y8, q8⟩ := Dn
          exact ⟨x8, y8, by rw [upd_ne nkd.symm]; exact q8⟩
        · rw [upd_ne ntk]
          exact ethn
        · rw [upd_same, kn_snoc]
          show _ = some (HO.lst ((addK (kn [] rs) x).map V.str))
          unfold addK
          rw [if_neg hin, List.map_append]
          rfl
        · rw [upd_ne nkf.symm]
          exact efn'
        · rw [kn_snoc]
          show (addK (kn [] rs) x).length ≤ i + 1
          unfold addK
          rw [if_neg hin, List.length_append]
          show (kn [] rs).length + 1 ≤ i + 1
          omega
      refine iteDF hnil ?_
      refine ⟨_, rfl, rfl, _, rfl, ite2 (fun hk1 => ?_) (fun hk1 => ?_)⟩
      · have kne : 1 ≤ (kn [] rs).length := by
          cases q : kn [] rs with
          | nil => exact absurd (by rw [q]; rfl) hnil
          | cons a b => exact Nat.le_add_left 1 _
        refine ⟨_, rfl, .inl ⟨rfl, _, SqL.of ef4⟩, _, rfl, _, rfl, _, rfl, d, lk, kn [] rs, rfl, d4, ek4, kne, (by omega), fun r3 ts m H5 b5 d5 S5 gs lo => ⟨thr, fun t ht => ?_⟩⟩
        obtain ⟨wa, wb, hz4⟩ := id d4
        have h5 := Hard.soft b5 hz4 soft_l
        have ef5 := b5 _ _ ef4 nfd
        have ek5 := b5 _ _ ek4 nkd
        have et5 := b5 _ _ et4 ntd
        have R5 := R4.hard h5
        have F5 := F4.trans b5
        have efn : (upd H5 t (.tup [.str "let", .str x, .ref r3])) lf = some (.lst us) := new ht _ _ ef5
        have ekn : (upd H5 t (.tup [.str "let", .str x, .ref r3])) lk = some (.lst ((kn [] rs).map V.str)) := new ht _ _ ek5
        have etn := new (o := .tup [.str "let", .str x, .ref r3]) ht _ _ et5
        have ett : (upd H5 t (.tup [.str "let", .str x, .ref r3])) t = some (.tup [.str "let", .str x, .ref r3]) := upd_same
        have Rn := R5.hard (Hard.of (new (o := .tup [.str "let", .str x, .ref r3]) ht))
        have bn : But d H (upd H5 t (.tup [.str "let", .str x, .ref r3])) := F5.new ht
        have dn := d5.same (new (o := .tup [.str "let", .str x, .ref r3]) ht)
        have rv : RowAt Z (upd H5 t (.tup [.str "let", .str x, .ref r3])) (.ref t) (.lt x ts m) := ⟨t, r3, rfl, upd_same, S5.same (new ht)⟩
        generalize upd H5 t (.tup [.str "let", .str x, .ref r3]) = Hn at efn ekn etn ett Rn bn dn rv ⊢
        refine ⟨lf, _, _, rfl, rfl, efn, vz, ?_⟩
        have Rn' : RowsAt Z (upd Hn lf (.lst (us ++ [V.ref t]))) (us ++ [V.ref t]) (rs ++ [Rw.lt x ts m]) := RowsAt.hard (paired_snoc Rn rv) (hard_upd efn)
        have eln : (upd Hn lf (.lst (us ++ [V.ref t]))) lk = some (.lst ((kn [] rs).map V.str)) := by rw [upd_ne nkf]; exact ekn
        have ethn : (upd Hn lf (.lst (us ++ [V.ref t]))) th = some (.lst ([("x" : Str), "^", "#row", "~3"].map V.str)) := by rw [upd_ne ntf]; exact etn
        have efn' : (upd Hn lf (.lst (us ++ [V.ref t]))) lf = some (.lst (us ++ [V.ref t])) := upd_same
        have Fn : But d H (upd Hn lf (.lst (us ++ [V.ref t]))) := fun b o e n => by
          rw [upd_ne (ne_of_none e hlf0)]
          exact bn b o e n
        have Dn : Dr (upd Hn lf (.lst (us ++ [V.ref t]))) d := by
          obtain ⟨x8, y8, q8⟩ := dn
          exact ⟨x8, y8, by rw [upd_ne nfd.symm]; exact q8⟩
        have etn' : (upd Hn lf (.lst (us ++ [V.ref t]))) t = some (.tup [.str "let", .str x, .ref r3]) := by rw [upd_ne (ne_of ett efn (by intro w; cases w))]; exact ett
        generalize upd Hn lf (.lst (us ++ [V.ref t])) = Hm at Rn' eln ethn efn' Fn Dn etn' ⊢
        have wn : wf [] (rs ++ [Rw.lt x ts m]) := wf_snoc W ⟨gs, lo⟩
        have ln : (rs ++ [Rw.lt x ts m]).length ≤ i + 1 := by rw [List.length_append]; show rs.length + 1 ≤ i + 1; omega
        refine ⟨_, rfl, _, rfl, lf, _, _, _, rfl, rfl, SqL.of efn', atI_last _ _, t, _, 0, _, rfl, rfl, SqT.of etn', rfl, rfl, _, rfl, ifT (by decide +kernel) ?_⟩
        refine ⟨_, rfl, _, rfl, lk, _, rfl, .inl (SqL.of eln), rfl, flat_strs _, _, rfl, ?_⟩
        rw [inV_str]
        by_cases hin : x ∈ kn [] rs
        · rw [decide_eq_true hin]
          refine ifF rfl ?_
          refine ⟨rs ++ [Rw.lt x ts m], us ++ [V.ref t], _, _, _, rfl, Fn, Dn, ethn, ?_, efn', Rn', wn, ln, ?_⟩
          · rw [kn_snoc]
            show _ = some (HO.lst ((addK (kn [] rs) x).map V.str))
            unfold addK
            rw [if_pos hin]
            exact eln
          · rw [kn_snoc]
            show (addK (kn [] rs) x).length ≤ i + 1
            unfold addK
            rw [if_pos hin]
            omega
        rw [decide_eq_false hin]
        refine ifT rfl ?_
        have kz : ((kn [] rs).map V.str).length < sizeLine := by rw [List.length_map]; exact line _ (by omega)
        refine ⟨_, rfl, .inl ⟨rfl, _, SqL.of eln⟩, _, rfl, lk, _, _, rfl, rfl, eln, kz, ?_⟩
        refine ⟨rs ++ [Rw.lt x ts m], us ++ [V.ref t], _, _, _, rfl, fun b o e n => ?_, ?_, ?_, ?_, ?_, Rn'.hard (hard_upd eln), wn, ln, ?_⟩
        · rw [upd_ne (ne_of_none e hlk0)]
          exact Fn b o e n
        · obtain ⟨x8, y8, q8⟩ := Dn
          exact ⟨x8, y8, by rw [upd_ne nkd.symm]; exact q8⟩
        · rw [upd_ne ntk]
          exact ethn
        · rw [upd_same, kn_snoc]
          show _ = some (HO.lst ((addK (kn [] rs) x).map V.str))
          unfold addK
          rw [if_neg hin, List.map_append]
          rfl
        · rw [upd_ne nkf.symm]
          exact efn'
        · rw [kn_snoc]
          show (addK (kn [] rs) x).length ≤ i + 1
          unfold addK
          rw [if_neg hin, List.length_append]
          show (kn [] rs).length + 1 ≤ i + 1
          omega
      have kne : 1 ≤ (kn [] rs).length := by
        cases q : kn [] rs with
        | nil => exact absurd (by rw [q]; rfl) hnil
        | cons a b => exact Nat.le_add_left 1 _
      refine ⟨_, rfl, .inl ⟨rfl, _, SqL.of ef4⟩, _, rfl, _, rfl, d, lk, 1, kn [] rs, rfl, (by decide), d4, ek4, kne, (by omega), fun r3 c H5 b5 d5 C5 dc gc okc => ⟨two, fun t ht => ?_⟩⟩
      obtain ⟨wa, wb, hz4⟩ := id d4
      have h5 := Hard.soft b5 hz4 soft_l
      have ef5 := b5 _ _ ef4 nfd
      have ek5 := b5 _ _ ek4 nkd
      have et5 := b5 _ _ et4 ntd
      have R5 := R4.hard h5
      have F5 := F4.trans b5
      have efn : (upd H5 t (.tup [.str "hold", .ref r3])) lf = some (.lst us) := new ht _ _ ef5
      have ekn : (upd H5 t (.tup [.str "hold", .ref r3])) lk = some (.lst ((kn [] rs).map V.str)) := new ht _ _ ek5
      have etn := new (o := .tup [.str "hold", .ref r3]) ht _ _ et5
      have ett : (upd H5 t (.tup [.str "hold", .ref r3])) t = some (.tup [.str "hold", .ref r3]) := upd_same
      have Rn := R5.hard (Hard.of (new (o := .tup [.str "hold", .ref r3]) ht))
      have bn : But d H (upd H5 t (.tup [.str "hold", .ref r3])) := F5.new ht
      have dn := d5.same (new (o := .tup [.str "hold", .ref r3]) ht)
      have rv : RowAt Z (upd H5 t (.tup [.str "hold", .ref r3])) (.ref t) (.hold c) := ⟨t, r3, rfl, upd_same, C5.hard (Hard.of (new ht))⟩
      generalize upd H5 t (.tup [.str "hold", .ref r3]) = Hn at efn ekn etn ett Rn bn dn rv ⊢
      refine ⟨lf, _, _, rfl, rfl, efn, vz, ?_⟩
      have Rn' : RowsAt Z (upd Hn lf (.lst (us ++ [V.ref t]))) (us ++ [V.ref t]) (rs ++ [Rw.hold c]) := RowsAt.hard (paired_snoc Rn rv) (hard_upd efn)
      have eln : (upd Hn lf (.lst (us ++ [V.ref t]))) lk = some (.lst ((kn [] rs).map V.str)) := by rw [upd_ne nkf]; exact ekn
      have ethn : (upd Hn lf (.lst (us ++ [V.ref t]))) th = some (.lst ([("x" : Str), "^", "#row", "~3"].map V.str)) := by rw [upd_ne ntf]; exact etn
      have efn' : (upd Hn lf (.lst (us ++ [V.ref t]))) lf = some (.lst (us ++ [V.ref t])) := upd_same
      have Fn : But d H (upd Hn lf (.lst (us ++ [V.ref t]))) := fun b o e n => by
        rw [upd_ne (ne_of_none e hlf0)]
        exact bn b o e n
      have Dn : Dr (upd Hn lf (.lst (us ++ [V.ref t]))) d := by
        obtain ⟨x8, y8, q8⟩ := dn
        exact ⟨x8, y8, by rw [upd_ne nfd.symm]; exact q8⟩
      have etn' : (upd Hn lf (.lst (us ++ [V.ref t]))) t = some (.tup [.str "hold", .ref r3]) := by rw [upd_ne (ne_of ett efn (by intro w; cases w))]; exact ett
      generalize upd Hn lf (.lst (us ++ [V.ref t])) = Hm at Rn' eln ethn efn' Fn Dn etn' ⊢
      have wn : wf [] (rs ++ [Rw.hold c]) := wf_snoc W ⟨gc, dc, okc⟩
      have ln : (rs ++ [Rw.hold c]).length ≤ i + 1 := by rw [List.length_append]; show rs.length + 1 ≤ i + 1; omega
      refine ⟨_, rfl, _, rfl, lf, _, _, _, rfl, rfl, SqL.of efn', atI_last _ _, t, _, 0, _, rfl, rfl, SqT.of etn', rfl, rfl, _, rfl, ifF (by decide +kernel) ?_⟩
      refine ifF rfl ?_
      refine ⟨rs ++ [Rw.hold c], us ++ [V.ref t], _, _, _, rfl, Fn, Dn, ethn, ?_, efn', Rn', wn, ln, ?_⟩
      · rw [kn_snoc]
        exact eln
      · rw [kn_snoc]
        show (kn [] rs).length ≤ i + 1
        omega
    rintro σ H3 ⟨rs, us, a4, a5, a6, rfl, F, D, et, ek, ef, R2, W, ll, kl⟩
    exact ⟨_, rfl, k lf us rs H3 F D hlf0 ef R2 W (by omega)⟩
end
end Hw
namespace Hw
open PySem L2 PyProof.Rows
section
variable {P : Program} {w : World} {K : PySem.W.Frag} {mg : Str → Option Value} {base : Heap}
abbrev sLDue : Stmt := top 23
theorem sc_law_due : FnScope ["_law_ahead", "_law_numbers", "_law_found", "_law_left", "_law_row"] ["_law_ahead", "_law_numbers"] (defScope sLDue) := ⟨rfl, rfl, rfl, by decide +kernel, rfl, by decide +kernel, by decide +kernel⟩
theorem ok_u28 {f : Addr} {fd : FuncData} {Z : Cz} {n : Nat} (F : Fun K "_law_due" "_law_due" sLDue f fd) (T : Txt K mg Z.s) (U : Txz K mg Z) (d_lval : Dn P w K mg base 1 "_law_value" ["_law_one", "_law_numbers"] spLVal) (d_lh28 : Dn P w K mg base 4 "_law_holds" ["_law_told", "_law_numbers"] (spLHolds 3)) (M4_told : M4 P w K mg base (3 + 1) Z "told" ["self"] (spCTold Z 3)) : FnOk P w K mg base CX0 9 f fd ["_law_ahead", "_law_numbers"] (sp28Due Z) := by
  obtain ⟨f_value_, fd_value_, G_value, mg_value, kp_value, b_value⟩ := d_lval
  obtain ⟨f_lh, fd_lh, G_holds, mg_holds, kp_holds, b_holds⟩ := d_lh28
  refine F.ok sc_law_due (fun vs H Q E h => ?_) (fun cdv A outer s H vs Q E hr h => ?_)
  · obtain ⟨a, b, us, rs, ns, rfl, ha, R0, W, hrl, hb, hfar, hnl, k⟩ := h
    rfl
  · obtain ⟨a, b, us, rs, ns, rfl, ha, R0, W, hrl, hb, hfar, hnl, k⟩ := h
    have hu := hu_of hr
    rw [show defBody sLDue = [_, _, _, _] from rfl]
    refine ⟨_, (pss_cons (ps_set (i := 2) sc_law_due.nd rfl (Or.inl rfl) pe_dnewK)
      (pss_cons (ps_set (i := 3) sc_law_due.nd rfl (Or.inl rfl) (pe_callTy call_list_of (by rfl) T.list boot_list (pa_cons (pv 1) pa_nil)))
      (pss_cons (ps_for PassesOwn.never rfl (pi_list (pv 0)) (pg_name (i := 4) sc_law_due.nd rfl (Or.inl rfl)) (pss_one (ps_if (pt_cmpR op_eq (pe_ix ix_tup (pv 4) pe_int (fun _ _ => rfl)) pe_str (nomark _)) (pss_cons (ps_if (pt_cmpR (op_eqNilL (uN hr)) (pv 3) (pe_lst pa_nil) (nomark _)) (pss_one (ps_ret pe_non)) pss_nil)
      (pss_one (ps_dput hu (pv 2) (pe_ix ix_tup (pv 4) pe_int (fun _ _ => rfl)) (pe_bm PySem.F.plainAttrs_list PySem.F.slot_list_pop PySem.F.type_list_pop mt_popAt (pv 3) (pa_cons pe_int pa_nil)) rfl))) (pss_one (ps_if (pt_cmpR op_eq (pe_ix ix_tup (pv 4) pe_int (fun _ _ => rfl)) pe_str (nomark _)) (pss_one (ps_dput hu (pv 2) (pe_ix ix_tup (pv 4) pe_int (fun _ _ => rfl)) (pe_call G_value (hr.mono (by first | decide | omega)) rfl mg_value kp_value b_value .nil pass0 (pa_cons (pe_tup (pa_cons (pe_fld (pe_ix ix_tup (pv 4) pe_int (fun _ _ => rfl)) rfl) (pa_cons (pe_fld (pe_ix ix_tup (pv 4) pe_int (fun _ _ => rfl)) rfl) pa_nil))) (pa_cons (pv 2) pa_nil))) rfl)) (pss_one (ps_if (pt_not (pt_val (pe_call G_holds (hr.mono (by first | decide | omega)) rfl mg_holds kp_holds b_holds .nil pass0 (pa_cons (pe_cm0 (Z := Z) (pe_ix ix_tup (pv 4) pe_int (fun _ _ => rfl)) U.cl nf_told M4_told (hr.mono (by first | decide | omega)) pass0) (pa_cons (pv 2) pa_nil))))) (pss_one (ps_ret pe_non)) pss_nil)))))))
      (pss_one (ps_ret (pe_ix ix_list (pe_lst (pa_cons pe_non (pa_cons (pv 2) pa_nil))) (pe_callTy call_int1 (by rfl) T.int boot_int (pa_cons (pe_cmpR (op_eqNilL (uN hr)) (pv 3) (pe_lst pa_nil) (nomark _)) pa_nil)) (fun _ _ => rfl))))))), ?_⟩
    intro fd hfd
    have el0 := new (o := .dK []) hfd
    refine ⟨_, rfl, b, _, rfl, .inl (SqL.of (el0 _ _ hb)), fun lf hlf => ?_⟩
    have hlf0 := none_of_new hlf
    have nfl : fd ≠ lf := ne_of_none upd_same hlf
    have sA := el0.trans (new (o := .lst (ns.map V.int)) hlf)
    have lur : us.length = rs.length := Paired.length R0
    refine ⟨_, rfl, a, rfl, ⟨us, SqL.of (sA _ _ ha)⟩, for_list (xs := us) (fun i σ H' => ∃ (e : Ps) (l : List Int) (a4 : Option V), σ = [some (.ref a), some (.ref b), some (.ref fd), some (.ref lf), a4] ∧ Same H H' ∧ H' fd = some (.dK (enc e)) ∧ H' lf = some (.lst (l.map V.int)) ∧ (keys e).Nodup ∧ fitE i e ∧ Far l ∧ l.length ≤ 20 ∧ e.length ≤ i ∧ wf (keys e) (rs.drop i) ∧ go (rs.drop i) e l = go rs [] ns)
      ⟨[], ns, none, rfl, sA, new hlf _ _ upd_same, upd_same, .nil, fitE.nil 0, hfar, hnl, Nat.le_refl _, W, rfl⟩ (fun i σ H' _ ⟨_, _, _, _, q, _⟩ => SqL.of (q _ _ ha)) ?_ ?_⟩
    · rintro i v σ H2 hi ⟨e, l, a4, rfl, sm, ef, el, nd, fe, fl, ll, elen, wr, hgo⟩
      obtain ⟨r, hri, hrv⟩ := paired_at R0 hi
      have ild := (List.getElem?_eq_some_iff.mp hri).1
      have hdrop : rs.drop i = r :: rs.drop (i + 1) := by
        rw [List.drop_eq_getElem_cons ild]
        rw [List.getElem?_eq_getElem ild] at hri
        rw [Option.some.inj hri]
      rw [hdrop] at wr hgo
      have hrv := hrv.hard (Hard.of sm)
      have i9 : i < 9 := by omega
      cases r with
      | any x =>
        obtain ⟨p, rfl, ep⟩ := hrv
        refine ⟨_, rfl, p, _, 0, _, rfl, rfl, SqT.of ep, rfl, rfl, _, rfl, iteDT rfl ?_⟩
        refine ⟨_, rfl, Nat.zero_le _, fun e0 he0 => ⟨lf, e0, _, rfl, rfl, SqL.of (new he0 _ _ el), SqL.of upd_same, _, rfl, ?_⟩⟩
        have se := new (o := .lst []) he0
        cases l with
        | nil =>
          refine iteDT rfl ?_
          refine k .non _ (sm.trans se) ?_
          have : due rs ns = none := by unfold due; rw [← hgo]; rfl
          rw [this]
          rfl
        | cons m l =>
          refine iteDF (by simp) ?_
          refine ⟨_, rfl, .inl ⟨rfl, _, SqL.of (se _ _ el)⟩, lf, _, 0, 0, _, rfl, rfl, se _ _ el, (by decide), (by decide), seq0 _ _, rfl, ?_⟩
          have ep2 : (upd (upd H2 e0 (.lst [])) lf (.lst (((m :: l).map V.int).eraseIdx 0))) p = some (.tup [.str "any", .str x]) := by rw [upd_ne (ne_of (se _ _ ep) (se _ _ el) (by intro w; cases w))]; exact se _ _ ep
          have ef2 : (upd (upd H2 e0 (.lst [])) lf (.lst (((m :: l).map V.int).eraseIdx 0))) fd = some (.dK (enc e)) := by rw [upd_ne nfl]; exact se _ _ ef
          refine ⟨_, rfl, _, rfl, p, _, 1, _, rfl, rfl, SqT.of ep2, rfl, fd, _, rfl, DPut.k (k := Sum.inr x) ef2 (by rw [enc_len]; exact line _ (by omega)), ?_⟩
          refine ⟨put e x m, l, _, rfl, fun c o z => ?_, ?_, ?_, nodup_put nd, fe.any (fl m List.mem_cons_self), fun n hn => fl n (List.mem_cons_of_mem _ hn), (by rw [List.length_cons] at ll; omega), ?_, ?_, hgo⟩
          · rw [upd_ne (ne_of_none z hfd), upd_ne (ne_of_none z hlf0)]
            exact se _ _ (sm _ _ z)
          · rw [upd_same]
            exact congrArg (fun z => some (HO.dK z)) (enc_put e _ _)
          · rw [upd_ne nfl.symm]
            exact upd_same
          · have := len_put e x m
            omega
          · rw [keys_addK]
            exact wr.2
      | lt x ts m =>
        obtain ⟨p, q, rfl, ep, S⟩ := hrv
        obtain ⟨gs, lo⟩ := wr.1
        refine ⟨_, rfl, p, _, 0, _, rfl, rfl, SqT.of ep, rfl, rfl, _, rfl, iteDF (str_ne (by decide +kernel)) ?_⟩
        refine ⟨_, rfl, p, _, 0, _, rfl, rfl, SqT.of ep, rfl, rfl, _, rfl, iteDT rfl ?_⟩
        obtain ⟨dx, t, hp, ht, hz⟩ := id S
        refine ⟨_, rfl, p, _, 2, _, rfl, rfl, SqT.of ep, rfl, q, Z.s, dx, _, _, rfl, hp, T.cl, T.nT, sflds_terms _ _, ?_⟩
        refine ⟨_, rfl, p, _, 2, _, rfl, rfl, SqT.of ep, rfl, q, Z.s, dx, _, _, rfl, hp, T.cl, T.nN, sflds_number _ _, Nat.le_of_lt (line 2 (by decide)), fun u hu' => ?_⟩
        have su := new (o := .tup [.ref t, .int m]) hu'
        refine ⟨_, rfl, u, fd, ts, e, m, rfl, ⟨t, upd_same, ht.same su⟩, su _ _ ef, gs.2.1, gs.2.2.1, fun H3 s3 => ?_⟩
        have s23 := su.trans s3
        refine ⟨_, rfl, _, rfl, p, _, 1, _, rfl, rfl, SqT.of (s23 _ _ ep), rfl, fd, _, rfl, DPut.k (k := Sum.inr x) (s23 _ _ ef) (by rw [enc_len]; exact line _ (by omega)), ?_⟩
        refine ⟨put e x (m + lin ts (get e)), l, _, rfl, fun c o z => ?_, ?_, ?_, nodup_put nd, fe.low lo, fl, ll, ?_, ?_, hgo⟩
        · rw [upd_ne (ne_of_none z hfd)]
          exact s23 _ _ (sm _ _ z)
        · rw [upd_same]
          exact congrArg (fun z => some (HO.dK z)) (enc_put e _ _)
        · rw [upd_ne nfl.symm]
          exact s23 _ _ el
        · have := len_put e x (m + lin ts (get e))
          omega
        · rw [keys_addK]
          exact wr.2
      | hold c =>
        obtain ⟨p, q, rfl, ep, C⟩ := hrv
        obtain ⟨gc, dc, okc⟩ := wr.1
        refine ⟨_, rfl, p, _, 0, _, rfl, rfl, SqT.of ep, rfl, rfl, _, rfl, iteDF (str_ne (by decide +kernel)) ?_⟩
        refine ⟨_, rfl, p, _, 0, _, rfl, rfl, SqT.of ep, rfl, rfl, _, rfl, iteDF (str_ne (by decide +kernel)) ?_⟩
        refine ⟨_, rfl, p, _, 1, _, rfl, rfl, SqT.of ep, rfl, q, c, rfl, C, q, c, rfl, rfl, C, (by omega), fun v H3 s3 tv => ?_⟩
        refine ⟨_, rfl, v, fd, c, keys e, e, rfl, tv, (by omega), gc, s3 _ _ ef, (fun _ z => z), fun H4 s4 => ⟨_, rfl, ?_⟩⟩
        have s24 := s3.trans s4
        have e3 : go (.hold c :: rs.drop (i + 1)) e l = if c.holds (get e) = true then go (rs.drop (i + 1)) e l else none := rfl
        rw [e3] at hgo
        cases hc : c.holds (get e) with
        | true =>
          rw [hc, if_pos rfl] at hgo
          refine ifF rfl ?_
          exact ⟨e, l, _, rfl, sm.trans s24, s24 _ _ ef, s24 _ _ el, nd, fe.up, fl, ll, by omega, wr.2, hgo⟩
        | false =>
          rw [hc, if_neg (by decide)] at hgo
          refine ifT rfl ?_
          refine k .non _ (sm.trans s24) ?_
          have : due rs ns = none := by unfold due; rw [← hgo]
          rw [this]
          rfl
    rintro σ H2 ⟨e, l, a4, rfl, sm, ef, el, nd, fe, fl, ll, elen, wr, hgo⟩
    rw [lur, List.drop_length] at hgo
    have hgo : some (e, l) = go rs [] ns := hgo
    refine ⟨_, rfl, Nat.le_of_lt (line 2 (by decide)), fun q hq => ?_⟩
    have sq := new (o := .lst [V.non, V.ref fd]) hq
    refine ⟨_, rfl, Nat.zero_le _, fun e0 he0 => ⟨lf, e0, _, rfl, rfl, SqL.of (new he0 _ _ (sq _ _ el)), SqL.of upd_same, ?_⟩⟩
    have se := new (o := .lst []) he0
    have s2e := sq.trans se
    cases l with
    | nil =>
      refine .inr ⟨true, rfl, q, _, _, _, rfl, rfl, SqL.of (se _ _ upd_same), rfl, ?_⟩
      refine k (.ref fd) _ (sm.trans s2e) ?_
      have : due rs ns = some e := by unfold due; rw [← hgo]
      rw [this]
      exact ⟨fd, rfl, hfd, s2e _ _ ef, nd⟩
    | cons m l =>
      refine .inr ⟨false, rfl, q, _, _, _, rfl, rfl, SqL.of (se _ _ upd_same), rfl, ?_⟩
      refine k .non _ (sm.trans s2e) ?_
      have : due rs ns = none := by unfold due; rw [← hgo]
      rw [this]
      rfl
end
end Hw
namespace Hw
open PySem L2 PyProof.Rows
section
variable {P : Program} {w : World} {K : PySem.W.Frag} {mg : Str → Option Value} {base : Heap}
abbrev sAlong : Stmt := top 2
theorem sc_along : FnScope ["ahead", "numbers", "things", "taken", "row"] ["ahead", "numbers"] (defScope sAlong) := ⟨rfl, rfl, rfl, by decide +kernel, rfl, by decide +kernel, by decide +kernel⟩
theorem ok_a28 {f : Addr} {fd : FuncData} {Z : Cz} {n : Nat} (F : Fun K "along" "along" sAlong f fd) (T : Txt K mg Z.s) (U : Txz K mg Z) (d_value : Mt P w K mg base 1 Z.s "value" ["self", "numbers"] (spValue Z.s)) (M4_holds : M4 P w K mg base (3 + 1) Z "holds" ["self", "numbers"] (spCHolds Z 3)) : FnOk P w K mg base CX0 9 f fd ["ahead", "numbers"] (sp28Along Z K) := by
  obtain ⟨f_value, fd_value, G_Sum_value, m_value, b_Sum_value⟩ := d_value
  refine F.ok sc_along (fun vs H Q E h => ?_) (fun cdv A outer s H vs Q E hr h => ?_)
  · obtain ⟨a, b, us, rs, ns, rfl, ha, R0, W, hrl, hb, hfar, hnl, k⟩ := h
    rfl
  · obtain ⟨a, b, us, rs, ns, rfl, ha, R0, W, hrl, hb, hfar, hnl, k⟩ := h
    have hu := hu_of hr
    rw [show defBody sAlong = [_, _, _, _, _] from rfl]
    refine ⟨_, (pss_cons (ps_if (pt_cmpR op_ne (pe_callB call_len_seq (by rfl) T.len PySem.boot_len (pa_cons (pv 1) pa_nil)) (pe_callB call_len_seq (by rfl) T.len PySem.boot_len (pa_cons (pe_comp (compSc_mk ["row"] [] [] rfl (by decide +kernel) (by decide +kernel) (by with_unfolding_all rfl) (by exact trivial) (by rfl) rfl (by rfl)) rfl (pi_seq (pv 0)) (fun _ _ _ _ => (pg_name (i := 0) (show List.Nodup (["row"] : List Str) by decide +kernel) rfl (Or.inl rfl) (Or.inr rfl))) (fun _ _ _ _ => (pts_one (pt_cmpR op_eq (pe_ix (ix_tupK (K := K) rfl) (pv 0) pe_int (fun _ _ => rfl)) pe_str (nomark _)))) (fun _ _ _ _ => (pv 0))) pa_nil)) (nomark _)) (pss_one (ps_ret pe_non)) pss_nil)
      (pss_cons (ps_set (i := 2) sc_along.nd rfl (Or.inl rfl) pe_dnewK)
      (pss_cons (ps_set (i := 3) sc_along.nd rfl (Or.inl rfl) pe_int)
      (pss_cons (ps_for PassesOwn.never rfl (pi_seq (pv 0)) (pg_name (i := 4) sc_along.nd rfl (Or.inl rfl)) (pss_one (ps_if (pt_cmpR op_eq (pe_ix ix_tup (pv 4) pe_int (fun _ _ => rfl)) pe_str (nomark _)) (pss_cons (ps_dput hu (pv 2) (pe_ix ix_tup (pv 4) pe_int (fun _ _ => rfl)) (pe_ix ix_seq (pv 1) (pv 3) (fun _ _ => rfl)) rfl)
      (pss_one (ps_set (i := 3) sc_along.nd rfl (Or.inl rfl) (pe_op op_add (pv 3) pe_int)))) (pss_one (ps_if (pt_cmpR op_eq (pe_ix ix_tup (pv 4) pe_int (fun _ _ => rfl)) pe_str (nomark _)) (pss_one (ps_dput hu (pv 2) (pe_ix ix_tup (pv 4) pe_int (fun _ _ => rfl)) (pe_meth (pe_ix ix_tup (pv 4) pe_int (fun _ _ => rfl)) T.cl m_value G_Sum_value (hr.mono (by first | decide | omega)) b_Sum_value .nil pass0 (pa_cons (pv 2) pa_nil)) rfl)) (pss_one (ps_if (pt_not (pt_truth (pe_cm (Z := Z) (pe_ix ix_tup (pv 4) pe_int (fun _ _ => rfl)) U.cl nf_holds M4_holds (hr.mono (by first | decide | omega)) pass0 (pa_cons (pv 2) pa_nil)) (fun _ => rfl))) (pss_one (ps_ret pe_non)) pss_nil)))))))
      (pss_one (ps_ret (pv 2))))))), ?_⟩
    have lur : us.length = rs.length := Paired.length R0
    have lm : (ns.map V.int).length = ns.length := List.length_map ..
    refine ⟨_, rfl, b, _, rfl, seq_or hb, _, rfl, a, rfl, comp_seqV ha (fun i ys H' => H' = H ∧ ys.length = anys (rs.take i)) ⟨rfl, rfl⟩ (fun i ys H' q o z => by rw [q.1]; exact z) ?_ ?_⟩
    · rintro i v ys H' hi ⟨rfl, yl⟩
      obtain ⟨r, hri, hrv⟩ := paired_at R0 hi
      have ild := (List.getElem?_eq_some_iff.mp hri).1
      have tk : rs.take (i + 1) = rs.take i ++ [r] := by
        rw [List.take_add_one, hri]
        rfl
      have le : (rs.take i).length ≤ i := List.length_take_le _ _
      have yz : ys.length < sizeLine := by
        refine line _ ?_
        have : ∀ l : List Rw, anys l ≤ l.length := fun l => by
          induction l with
          | nil => exact Nat.le_refl _
          | cons a l ih =>
            cases a with
            | any x => exact Nat.succ_le_succ ih
            | lt x a n => exact Nat.le_succ_of_le ih
            | hold c => exact Nat.le_succ_of_le ih
        have := this (rs.take i)
        omega
      obtain ⟨p, ws, rfl, ep⟩ := row_tag hrv
      refine ⟨Ext.one, _, rfl, p, _, 0, _, rfl, rfl, SqT.of ep, atH _ _, rfl, _, rfl, ?_⟩
      cases r with
      | any x =>
        refine iteDT rfl ?_
        refine ⟨_, rfl, yz, rfl, ?_⟩
        rw [List.length_append, tk, anys_snoc, yl]
        rfl
      | lt x a n =>
        refine iteDF (str_ne (show ¬ ("let" : Str) = "any" by decide +kernel)) ⟨rfl, ?_⟩
        rw [tk, anys_snoc, yl]
        rfl
      | hold c =>
        refine iteDF (str_ne (show ¬ ("hold" : Str) = "any" by decide +kernel)) ⟨rfl, ?_⟩
        rw [tk, anys_snoc, yl]
        rfl
    rintro ys H' ⟨rfl, yl⟩ q0 hq0
    have s0 := new (o := .lst ys) hq0
    rw [lur, List.take_length] at yl
    refine ⟨q0, _, rfl, .inl (SqL.of upd_same), rfl, _, rfl, ?_⟩
    have ha := seq_same ha s0
    have hb := seq_same hb s0
    by_cases hcnt : ns.length = anys rs
    rotate_left
    · refine iteNN (fun z => hcnt (by have := V.int.inj z; rw [lm] at this; omega)) ?_
      refine k .non _ s0 ?_
      rw [due_none hcnt]
      rfl
    refine iteNS (congrArg V.int (by rw [lm]; omega)) ?_
    have k := fun v H9 (z : Same (upd H' q0 (.lst ys)) H9) o => k v H9 (s0.trans z) o
    have R0 := R0.hard (Hard.of s0)
    intro fd hfd
    have hfd0 : H' fd = none := none_of_new hfd
    have sA := new (o := .dK []) hfd
    have nfa : fd ≠ a := by rcases ha with h | h <;> exact (ne_of_none h hfd).symm
    generalize hE : upd H' q0 (.lst ys) = HA at *
    clear hE
    refine ⟨_, rfl, a, rfl, ?_⟩
    have hS : ∀ H', Same HA H' → H' a = some (.lst us) ∨ H' a = some (.tup us) := fun H' s => seq_same ha s
    refine for_seqV (seq_same ha sA) (fun i σ H' => ∃ (e : Ps) (j : Nat) (a4 : Option V), σ = [some (.ref a), some (.ref b), some (.ref fd), some (.int (j : Int)), a4] ∧ Same HA H' ∧ H' fd = some (.dK (enc e)) ∧ (keys e).Nodup ∧ fitE i e ∧ j + anys (rs.drop i) = ns.length ∧ e.length ≤ i ∧ wf (keys e) (rs.drop i) ∧ go (rs.drop i) e (ns.drop j) = go rs [] ns)
      ⟨[], 0, none, rfl, sA, upd_same, .nil, fitE.nil 0, (by show 0 + anys rs = ns.length; omega), Nat.le_refl _, W, rfl⟩ ?hS ?_ ?_
    case hS => exact fun i σ H' ⟨_, _, _, _, q, _⟩ o z => q _ _ (by rw [upd_ne nfa.symm] at z; exact z)
    · rintro i v σ H2 hi ⟨e, j, a4, rfl, sm, ef, nd, fe, jl, elen, wr, hgo⟩
      obtain ⟨r, hri, hrv⟩ := paired_at R0 hi
      have ild := (List.getElem?_eq_some_iff.mp hri).1
      have hdrop : rs.drop i = r :: rs.drop (i + 1) := by
        rw [List.drop_eq_getElem_cons ild]
        rw [List.getElem?_eq_getElem ild] at hri
        rw [Option.some.inj hri]
      rw [hdrop] at wr hgo jl
      have hrv := hrv.hard (Hard.of sm)
      have i9 : i < 9 := by omega
      have hb2 := seq_same hb sm
      cases r with
      | any x =>
        obtain ⟨p, rfl, ep⟩ := hrv
        refine ⟨_, rfl, p, _, 0, _, rfl, rfl, SqT.of ep, rfl, rfl, _, rfl, iteDT rfl ?_⟩
        have hj : j < ns.length := by
          have : anys (Rw.any x :: rs.drop (i + 1)) = anys (rs.drop (i + 1)) + 1 := rfl
          omega
        have hdn : ns.drop j = ns[j] :: ns.drop (j + 1) := List.drop_eq_getElem_cons hj
        rw [hdn] at hgo
        have hat : atI (ns.map V.int) (j : Int) = some (V.int ns[j]) := atI_nat (by rw [List.getElem?_map, List.getElem?_eq_getElem hj]; rfl)
        refine ⟨_, rfl, _, rfl, ix_or hb2 hat ?_⟩
        refine ⟨_, rfl, _, rfl, p, _, 1, _, rfl, rfl, SqT.of ep, rfl, fd, _, rfl, DPut.k (k := Sum.inr x) ef (by rw [enc_len]; exact line _ (by omega)), ?_⟩
        refine ⟨_, rfl, _, _, rfl, rfl, ?_⟩
        refine ⟨put e x ns[j], j + 1, _, rfl, fun c o z => ?_, ?_, nodup_put nd, fe.any (hfar _ (List.getElem_mem hj)), ?_, ?_, ?_, hgo⟩
        · rw [upd_ne (ne_of_none z hfd)]
          exact sm _ _ z
        · rw [upd_same]
          exact congrArg (fun z => some (HO.dK z)) (enc_put e _ _)
        · have : anys (Rw.any x :: rs.drop (i + 1)) = anys (rs.drop (i + 1)) + 1 := rfl
          omega
        · have := len_put e x ns[j]
          omega
        · rw [keys_addK]
          exact wr.2
      | lt x ts m =>
        obtain ⟨p, q, rfl, ep, S⟩ := hrv
        obtain ⟨gs, lo⟩ := wr.1
        refine ⟨_, rfl, p, _, 0, _, rfl, rfl, SqT.of ep, rfl, rfl, _, rfl, iteDF (str_ne (by decide +kernel)) ?_⟩
        refine ⟨_, rfl, p, _, 0, _, rfl, rfl, SqT.of ep, rfl, rfl, _, rfl, iteDT rfl ?_⟩
        obtain ⟨dx, t, hp, ht, hz⟩ := id S
        refine ⟨_, rfl, p, _, 2, _, rfl, rfl, SqT.of ep, rfl, q, dx, _, rfl, hp, rfl, _, rfl, q, fd, ts, e, m, rfl, S, fe.nums (by omega) ef, (fun t ht => ?_), fun H3 s3 => ?_⟩
        · obtain ⟨p', hp', rfl⟩ := List.mem_map.mp ht
          exact gs.2.2.1 p' hp'
        refine ⟨_, rfl, _, rfl, p, _, 1, _, rfl, rfl, SqT.of (s3 _ _ ep), rfl, fd, _, rfl, DPut.k (k := Sum.inr x) (s3 _ _ ef) (by rw [enc_len]; exact line _ (by omega)), ?_⟩
        refine ⟨put e x (m + lin ts (get e)), j, _, rfl, fun c o z => ?_, ?_, nodup_put nd, fe.low lo, jl, ?_, ?_, hgo⟩
        · rw [upd_ne (ne_of_none z hfd)]
          exact s3 _ _ (sm _ _ z)
        · rw [upd_same]
          exact congrArg (fun z => some (HO.dK z)) (enc_put e _ _)
        · have := len_put e x (m + lin ts (get e))
          omega
        · rw [keys_addK]
          exact wr.2
      | hold c =>
        obtain ⟨p, q, rfl, ep, C⟩ := hrv
        obtain ⟨gc, dc, okc⟩ := wr.1
        refine ⟨_, rfl, p, _, 0, _, rfl, rfl, SqT.of ep, rfl, rfl, _, rfl, iteDF (str_ne (by decide +kernel)) ?_⟩
        refine ⟨_, rfl, p, _, 0, _, rfl, rfl, SqT.of ep, rfl, rfl, _, rfl, iteDF (str_ne (by decide +kernel)) ?_⟩
        refine ⟨_, rfl, p, _, 1, _, rfl, rfl, SqT.of ep, rfl, q, c, rfl, C, _, rfl, q, fd, c, e, rfl, rfl, C, (by omega), okc, fe.nums (by omega) ef, gc.in_, fun H3 s3 => ?_⟩
        have e3 : go (.hold c :: rs.drop (i + 1)) e (ns.drop j) = if c.holds (get e) = true then go (rs.drop (i + 1)) e (ns.drop j) else none := rfl
        rw [e3] at hgo
        cases hc : c.holds (get e) with
        | true =>
          rw [hc, if_pos rfl] at hgo
          refine ⟨_, rfl, ifF rfl ?_⟩
          exact ⟨e, j, _, rfl, sm.trans s3, s3 _ _ ef, nd, fe.up, jl, by omega, wr.2, hgo⟩
        | false =>
          rw [hc, if_neg (by decide)] at hgo
          refine ⟨_, rfl, ifT rfl ?_⟩
          refine k .non _ (sm.trans s3) ?_
          have : due rs ns = none := by unfold due; rw [← hgo]
          rw [this]
          rfl
    rintro σ H2 ⟨e, j, a4, rfl, sm, ef, nd, fe, jl, elen, wr, hgo⟩
    rw [lur, List.drop_length] at hgo
    have hgo : some (e, ns.drop j) = go rs [] ns := hgo
    rw [lur, List.drop_length] at jl
    have jl : j = ns.length := by have : anys [] = 0 := rfl; omega
    refine ⟨_, rfl, k (.ref fd) _ sm ?_⟩
    have : due rs ns = some e := by unfold due; rw [← hgo, show ns.drop j = [] from List.drop_eq_nil_of_le (by omega)]
    rw [this]
    exact ⟨fd, rfl, hfd0, ef, nd⟩
end
end Hw
namespace Hw
open PySem L2 PyProof.Rows
section
variable {P : Program} {w : World} {K : PySem.W.Frag} {mg : Str → Option Value} {base : Heap}
abbrev sLaw : Stmt := top 24
theorem sc_law : FnScope ["_law_script", "_law_draw", "_law_ahead", "_law_many", "_law_wide", "_law_numbers", "_law_handed", "_law_found", "_law_due_here"] ["_law_script"] (defScope sLaw) := ⟨rfl, rfl, rfl, by decide +kernel, rfl, by decide +kernel, by decide +kernel⟩
theorem ok_law {f : Addr} {fd : FuncData} {Z : Cz} {n : Nat} (F : Fun K "law" "law" sLaw f fd) (T : Txt K mg Z.s) (U : Txz K mg Z) (d_cell_at : Dn P w K mg base 2 "_law_cell_at" ["_law_script", "_law_k"] (spCell K)) (d_next : Dn P w K mg base 2 "_law_next" ["_law_draw", "_law_size"] spNext) (d_r28 : Dn P w K mg base 9 "_law_rows" ["_law_draw"] (sp28Rows Z)) (d_u28 : Dn P w K mg base 9 "_law_due" ["_law_ahead", "_law_numbers"] (sp28Due Z)) (d_a28 : Dn P w K mg base 9 "along" ["ahead", "numbers"] (sp28Along Z K)) (hmax : mg "max" = none) : FnOk P w K mg base CX0 11 f fd ["_law_script"] (spLaw K) := by
  obtain ⟨f_cell_at, fd_cell_at, G_cell_at, mg_cell_at, kp_cell_at, b_cell_at⟩ := d_cell_at
  obtain ⟨f_next, fd_next, G_next, mg_next, kp_next, b_next⟩ := d_next
  obtain ⟨f_rows, fd_rows, G_rows, mg_rows, kp_rows, b_rows⟩ := d_r28
  obtain ⟨f_due, fd_due, G_due, mg_due, kp_due, b_due⟩ := d_u28
  obtain ⟨f_al, fd_al, G_along, mg_along, kp_along, b_along⟩ := d_a28
  refine F.ok sc_law (fun vs H Q E h => ?_) (fun cdv A outer s H vs Q E hr h => ?_)
  · obtain ⟨a, ns, rfl, hS, hz, k⟩ := h
    rfl
  · obtain ⟨a, ns, rfl, hS, hz, k⟩ := h
    have hu := hu_of hr
    rw [show defBody sLaw = [_, _, _, _, _, _, _, _, _, _, _, _, _] from rfl]
    refine ⟨_, (pss_cons (ps_set (i := 1) sc_law.nd rfl (Or.inr rfl) (pe_lst (pa_cons (pe_call G_cell_at (hr.mono (by first | decide | omega)) rfl mg_cell_at kp_cell_at b_cell_at .nil pass0 (pa_cons (pv 0) (pa_cons pe_int pa_nil))) (pa_cons pe_int pa_nil))))
      (pss_cons (ps_set (i := 2) sc_law.nd rfl (Or.inl rfl) (pe_call G_rows (hr.mono (by first | decide | omega)) rfl mg_rows kp_rows b_rows .nil pass0 (pa_cons (pv 1) pa_nil)))
      (pss_cons (ps_if (pt_cmpR op_eq (pe_call G_next (hr.mono (by first | decide | omega)) rfl mg_next kp_next b_next .nil pass0 (pa_cons (pv 1) (pa_cons pe_int pa_nil))) pe_int (nomark _)) (pss_one (ps_setC (i := 2) sc_law.nd rfl (Or.inl rfl) (compSc_mk ["_law_row"] [] [] rfl (by decide +kernel) (by decide +kernel) (by with_unfolding_all rfl) (by exact trivial) (by rfl) rfl (by rfl)) rfl (pi_list (pv 2)) (fun _ _ _ _ => (pg_name (i := 0) (show List.Nodup (["_law_row"] : List Str) by decide +kernel) rfl (Or.inl rfl) (Or.inr rfl))) (fun _ _ _ _ => (pts_one (pt_cmpR op_ne (pe_ix (ix_tupK (K := K) rfl) (pv 0) pe_int (fun _ _ => rfl)) pe_str (nomark _)))) (fun _ _ _ _ => (pv 0)))) pss_nil)
      (pss_cons (ps_set (i := 3) sc_law.nd rfl (Or.inl rfl) (pe_op op_add (pe_callB call_len_seq (by rfl) T.len PySem.boot_len (pa_cons (pe_comp (compSc_mk ["_law_row"] [] [] rfl (by decide +kernel) (by decide +kernel) (by with_unfolding_all rfl) (by exact trivial) (by rfl) rfl (by rfl)) rfl (pi_list (pv 2)) (fun _ _ _ _ => (pg_name (i := 0) (show List.Nodup (["_law_row"] : List Str) by decide +kernel) rfl (Or.inl rfl) (Or.inr rfl))) (fun _ _ _ _ => (pts_one (pt_cmpR op_eq (pe_ix (ix_tupK (K := K) rfl) (pv 0) pe_int (fun _ _ => rfl)) pe_str (nomark _)))) (fun _ _ _ _ => (pv 0))) pa_nil)) (pe_ix ix_list (pe_lst (pa_cons pe_int (pa_cons pe_int (pa_cons pe_int (pa_cons pe_int (pa_cons (pe_un un_neg pe_int) pa_nil)))))) (pe_call G_next (hr.mono (by first | decide | omega)) rfl mg_next kp_next b_next .nil pass0 (pa_cons (pv 1) (pa_cons pe_int pa_nil))) (fun _ _ => rfl))))
      (pss_cons (ps_set (i := 4) sc_law.nd rfl (Or.inr rfl) (pe_ix ix_list (pe_lst (pa_cons pe_int (pa_cons pe_int (pa_cons (pe_op op_pow pe_int pe_int) pa_nil)))) (pe_call G_next (hr.mono (by first | decide | omega)) rfl mg_next kp_next b_next .nil pass0 (pa_cons (pv 1) (pa_cons pe_int pa_nil))) (fun _ _ => rfl)))
      (pss_cons (ps_setC (i := 5) sc_law.nd rfl (Or.inl rfl) (compSc_mk ["_law_k"] ["_law_wide", "_law_draw"] [4, 1] rfl (by decide +kernel) (by decide +kernel) (by with_unfolding_all rfl) (by exact ⟨rfl, rfl, trivial⟩) (by rfl) rfl (by rfl)) rfl (pi_range1 rfl T.range (pa_cons (pe_callB (call_max2 rfl) (by rfl) hmax boot_max (pa_cons pe_int (pa_cons (pv 3) pa_nil))) pa_nil)) (fun _ _ _ _ => (pg_name (i := 0) (show List.Nodup (["_law_k", "_law_wide", "_law_draw"] : List Str) by decide +kernel) rfl (Or.inl rfl) (Or.inr rfl))) (fun _ _ _ _ => pts_nil) (fun _ _ _ _ => (pe_op op_sub (pe_call G_next (hr.mono (by first | decide | omega)) rfl mg_next kp_next b_next .nil pass0 (pa_cons (pv 2) (pa_cons (pe_op op_add (pe_op op_mul pe_int (pv 1)) pe_int) pa_nil))) (pv 1))))
      (pss_cons (ps_set (i := 6) sc_law.nd rfl (Or.inl rfl) (pe_ix ix_list (pe_lst (pa_cons (pe_callTy call_list_of (by rfl) T.list boot_list (pa_cons (pv 5) pa_nil)) (pa_cons (pe_callTy call_tuple_of (by rfl) T.tuple boot_tuple (pa_cons (pv 5) pa_nil)) pa_nil))) (pe_op op_mod (pe_call G_cell_at (hr.mono (by first | decide | omega)) rfl mg_cell_at kp_cell_at b_cell_at .nil pass0 (pa_cons (pv 0) (pa_cons pe_int pa_nil))) pe_int) (fun _ _ => rfl)))
      (pss_cons (ps_set (i := 7) sc_law.nd rfl (Or.inl rfl) (pe_call G_along (hr.mono (by first | decide | omega)) rfl mg_along kp_along b_along .nil pass0 (pa_cons (pe_ix ix_list (pe_lst (pa_cons (pv 2) (pa_cons (pe_callTy call_tuple_of (by rfl) T.tuple boot_tuple (pa_cons (pv 2) pa_nil)) pa_nil))) (pe_op op_mod (pe_op op_fdiv (pe_call G_cell_at (hr.mono (by first | decide | omega)) rfl mg_cell_at kp_cell_at b_cell_at .nil pass0 (pa_cons (pv 0) (pa_cons pe_int pa_nil))) pe_int) pe_int) (fun _ _ => rfl)) (pa_cons (pv 6) pa_nil))))
      (pss_cons (ps_set (i := 8) sc_law.nd rfl (Or.inl rfl) (pe_call G_due (hr.mono (by first | decide | omega)) rfl mg_due kp_due b_due .nil pass0 (pa_cons (pv 2) (pa_cons (pv 5) pa_nil))))
      (pss_cons (ps_if (pt_cmpR op_isN (pv 8) pe_non (nomark _)) (pss_one (ps_ret (pe_and (pe_cmpR op_isN (pv 7) pe_non (nomark _)) (pe_one (pe_cmpR (op_eqL 1 (uL hr)) (pe_callTy call_list_of (by rfl) T.list boot_list (pa_cons (pv 6) pa_nil)) (pv 5) (nomark _)))))) pss_nil)
      (pss_cons (ps_if (PW.pt (pw_or (pt_not (pt_val (pe_callB (call_isi (c := .ty "dict") trivial) (by rfl) T.isinstance boot_isinstance (pa_cons (pv 7) (pa_cons (pe_bltn (v := .ty "dict") rfl T.dict boot_dict rfl) pa_nil))))) (pw_or (pt_cmpR (op_neD (uN hr)) (pv 7) (pv 8) (nomark _)) (pw_or1 (pt_cmpR (op_neL 1 (uL hr)) (pe_callTy call_list_of (by rfl) T.list boot_list (pa_cons (pv 6) pa_nil)) (pv 5) (nomark _)))))) (pss_one (ps_ret pe_bl)) pss_nil)
      (pss_cons (ps_expr (pe_bm0 PySem.F.plainAttrs_dict PySem.F.slot_dict_clear PySem.F.type_dict_clear mt_dclear (pv 7)))
      (pss_one (ps_ret (pe_cmpR (op_eqD (uN hr)) (pe_call G_along (hr.mono (by first | decide | omega)) rfl mg_along kp_along b_along .nil pass0 (pa_cons (pv 2) (pa_cons (pe_callTy call_list_of (by rfl) T.list boot_list (pa_cons (pv 5) pa_nil)) pa_nil))) (pv 8) (nomark _)))))))))))))))), ?_⟩
    have two : 2 ≤ sizeLine := Nat.le_of_lt (line 2 (by decide))
    refine ⟨_, rfl, a, ns, 0, rfl, hS, fun r0 => ⟨two, fun d hd => ?_⟩⟩
    have s1 : Same H (upd H d (.lst [.int r0, .int 0])) := new hd
    have D1 : Dr (upd H d (.lst [.int r0, .int 0])) d := ⟨_, _, upd_same⟩
    refine ⟨_, rfl, d, rfl, D1, fun la us rs H1 b1 D2 f2 ela R2 W len => ?_⟩
    have nla : la ≠ d := D1.ne f2
    have S1 : Same H H1 := But.back s1 b1 hd
    refine ⟨_, rfl, d, 3, rfl, D2, (by decide), fun r3 H2 h3 b3 D3 => ⟨rfl, _, rfl, ?_⟩⟩
    obtain ⟨za, zb, hz2⟩ := id D2
    have R2 := R2.hard (Hard.soft b3 hz2 soft_l)
    have ela := b3 _ _ ela nla
    have S2 : Same H H2 := But.back S1 b3 hd
    have D2 := D3
    clear b3 D3 S1 b1 hz2 s1 D1 f2
    refine ite2 (fun _ => ?_) (fun _ => ?_)
    · have lur : us.length = rs.length := Paired.length R2
      refine ⟨_, rfl, la, rfl, ⟨us, SqL.of ela⟩, comp_list (xs := us) (fun i ys H' => H' = H2 ∧ RowsAt Z H2 ys ((rs.take i).filter nhB)) ⟨rfl, .nil⟩ (fun i ys H' _ q => by rw [q.1]; exact SqL.of ela) ?_ ?_⟩
      · rintro i v ys H' hi ⟨rfl, Ry⟩
        obtain ⟨r, hri, hrv⟩ := paired_at R2 hi
        have ild := (List.getElem?_eq_some_iff.mp hri).1
        have yl : ys.length ≤ 9 := by
          rw [Paired.length Ry]
          have := List.length_filter_le nhB (rs.take i)
          rw [List.length_take] at this
          omega
        obtain ⟨p, ws, rfl, ep⟩ := row_tag hrv
        refine ⟨Ext.one, _, rfl, p, _, 0, _, rfl, rfl, SqT.of ep, atH _ _, rfl, _, rfl, ?_⟩
        rw [tag_nh]
        cases hn : nhB r with
        | true =>
          refine ifT rfl ?_
          refine ⟨_, rfl, line _ (by omega), rfl, ?_⟩
          rw [take_snoc hri, List.filter_append, List.filter_cons_of_pos hn]
          exact paired_snoc Ry hrv
        | false =>
          refine ifF rfl ?_
          refine ⟨rfl, ?_⟩
          rw [take_snoc hri, List.filter_append, List.filter_cons_of_neg (by rw [hn]; decide)]
          rw [show List.filter nhB ([] : List Rw) = [] from rfl, List.append_nil]
          exact Ry
      rintro ys0 H' ⟨rfl, Ry⟩ lb hlb
      rw [lur, List.take_length] at Ry
      have sb := new (o := .lst ys0) hlb
      have nla : lb ≠ d := D2.ne hlb
      have W := wf_nh W
      have len : (rs.filter nhB).length ≤ 9 := Nat.le_trans (List.length_filter_le _ _) len
      have R2 := RowsAt.hard Ry (Hard.of sb)
      have ela : (upd H' lb (.lst ys0)) lb = some (.lst ys0) := upd_same
      have S2 := S2.trans sb
      have D2 := D2.same sb
      generalize upd H' lb (.lst ys0) = H2 at R2 ela S2 D2 ⊢
      clear Ry lur sb hlb
      generalize rs.filter nhB = rs at R2 W len ⊢
      have lur : ys0.length = rs.length := Paired.length R2
      have lua : ys0.length ≤ 9 := by omega
      refine ⟨_, rfl, lb, rfl, ⟨ys0, SqL.of ela⟩, comp_list (xs := ys0) (fun i ys H' => H' = H2 ∧ ys.length ≤ i) ⟨rfl, Nat.le_refl _⟩ (fun i ys H' _ q => by rw [q.1]; exact SqL.of ela) ?_ ?_⟩
      · rintro i v ys H' hi ⟨rfl, yl⟩
        obtain ⟨r, hri, hrv⟩ := paired_at R2 hi
        have ild := (List.getElem?_eq_some_iff.mp hri).1
        obtain ⟨p, ws, rfl, ep⟩ := row_tag hrv
        refine ⟨Ext.one, _, rfl, p, _, 0, _, rfl, rfl, SqT.of ep, atH _ _, rfl, _, rfl, ?_⟩
        refine ite2 (fun _ => ?_) (fun _ => ⟨rfl, by omega⟩)
        exact ⟨_, rfl, line _ (by omega), rfl, by rw [List.length_append]; show ys.length + 1 ≤ i + 1; omega⟩
      rintro ys H' ⟨rfl, yl⟩ q0 hq0
      have s0 := new (o := .lst ys) hq0
      refine ⟨q0, _, rfl, .inl (SqL.of upd_same), _, rfl, (by show 5 ≤ sizeLine; exact Nat.le_of_lt (line 5 (by decide))), fun q1 hq1 => ?_⟩
      have s1' := new (o := .lst [V.int 0, V.int 0, V.int 0, V.int 1, V.int (-1)]) hq1
      have s01 := s0.trans s1'
      have nq1 : q1 ≠ d := (D2.same s0).ne hq1
      refine ⟨_, rfl, d, 5, rfl, D2.same s01, (by decide), fun r5 H5 h5 b5 D5 => ?_⟩
      obtain ⟨z, hz, z1, z2⟩ : ∃ z, ([V.int 0, V.int 0, V.int 0, V.int 1, V.int (-1)] : List V)[r5]? = some (V.int z) ∧ -1 ≤ z ∧ z ≤ 1 := by
        have : r5 = 0 ∨ r5 = 1 ∨ r5 = 2 ∨ r5 = 3 ∨ r5 = 4 := by omega
        rcases this with e | e | e | e | e <;> subst e <;> exact ⟨_, rfl, by decide, by decide⟩
      refine ⟨q1, _, _, _, rfl, rfl, SqL.of (b5 _ _ upd_same nq1), atI_nat hz, _, _, rfl, rfl, ?_⟩
      have S5 : Same H H5 := But.back (S2.trans s01) b5 hd
      have ela5 := b5 _ _ (s01 _ _ ela) nla
      obtain ⟨ya, yb, hy5⟩ := id (D2.same s01)
      have R5 := (R2.hard (Hard.of s01)).hard (Hard.soft b5 hy5 soft_l)
      have mb : (ys.length : Int) + z ≤ 10 := by omega
      clear s0 s1' s01 b5 hz nq1 hq0 hq1 hy5 ela R2 S2 D2
      refine ⟨_, _, rfl, rfl, ⟨by decide, by decide, by decide⟩, (by show 3 ≤ sizeLine; exact Nat.le_of_lt (line 3 (by decide))), fun q2 hq2 => ?_⟩
      have nq2 : q2 ≠ d := D5.ne hq2
      have s6 := new (o := .lst [V.int 3, V.int 20, V.int (10 ^ Int.toNat 9)]) hq2
      refine ⟨_, rfl, d, 3, rfl, D5.same s6, (by decide), fun r6 H6 h6 b6 D6 => ?_⟩
      obtain ⟨w, hw, w1, w2⟩ : ∃ w, ([V.int 3, V.int 20, V.int (10 ^ Int.toNat 9)] : List V)[r6]? = some (V.int w) ∧ 0 ≤ w ∧ w ≤ 10 ^ 9 := by
        have : r6 = 0 ∨ r6 = 1 ∨ r6 = 2 := by omega
        rcases this with e | e | e <;> subst e <;> exact ⟨_, rfl, by decide, by decide⟩
      refine ⟨q2, _, _, _, rfl, rfl, SqL.of (b6 _ _ upd_same nq2), atI_nat hw, ?_⟩
      have S6 : Same H H6 := But.back (S5.trans s6) b6 hd
      have ela6 := b6 _ _ (s6 _ _ ela5) nla
      obtain ⟨ya, yb, hy6⟩ := id (D5.same s6)
      have R6 := (R5.hard (Hard.of s6)).hard (Hard.soft b6 hy6 soft_l)
      clear s6 b6 hw nq2 hq2 hy6 ela5 R5 S5 D5
      refine ⟨_, rfl, _, _, rfl, _, rfl, (by split <;> omega), (by split <;> omega), comp_range (n := (if (ys.length : Int) + z > 0 then (ys.length : Int) + z else 0).toNat) (fun i ys H' => Same H H' ∧ Dr H' d ∧ H' lb = some (.lst ys0) ∧ RowsAt Z H' ys0 rs ∧ ∃ nn : List Int, ys = nn.map V.int ∧ nn.length = i ∧ Far nn) ⟨S6, D6, ela6, R6, [], rfl, rfl, (fun _ h => nomatch h)⟩ ?_ ?_⟩
      · rintro i ys H' hi ⟨S7, D7, ela7, R7, nn, rfl, nl, nf⟩
        refine ⟨Ext.one, alwT ⟨_, rfl, _, rfl, _, _, rfl, rfl, .inl ⟨by decide, by decide⟩, _, _, rfl, rfl, d, _, rfl, D7, (by show (0 : Int) < 2 * w + 1; omega), fun r7 H8 h7 b7 D8 => ?_⟩⟩
        obtain ⟨ya, yb, hy7⟩ := id D7
        refine ⟨_, rfl, _, _, rfl, rfl, (by rw [List.length_map]; exact line _ (by split at hi <;> omega)), But.back S7 b7 hd, D8, b7 _ _ ela7 nla, R7.hard (Hard.soft b7 hy7 soft_l), nn ++ [(r7 : Int) - w], (by rw [List.map_append]; rfl), (by rw [List.length_append, nl]; rfl), fun m hm => ?_⟩
        rcases List.mem_append.mp hm with z | z
        · exact nf m z
        · rw [List.mem_singleton.mp z]
          exact far_ints w1 w2 h7
      rintro ys H7 ⟨S7, D7, ela7, R7, nn, rfl, nl, nf⟩ ln hln
      have nl : nn.length ≤ 20 := by rw [nl]; split <;> omega
      have s8 := new (o := .lst (nn.map V.int)) hln
      have S8 := S7.trans s8
      have ela8 := s8 _ _ ela7
      have eln8 : (upd H7 ln (.lst (nn.map V.int))) ln = some (.lst (nn.map V.int)) := upd_same
      have R8 := R7.hard (Hard.of s8)
      generalize upd H7 ln (.lst (nn.map V.int)) = H8 at S8 ela8 eln8 R8 ⊢
      clear s8 S7 ela7 R7 D7 hln w1 w2
      refine ⟨_, rfl, ln, _, rfl, .inl (SqL.of eln8), fun l1 hl1 => ?_⟩
      have t1 := new (o := .lst (nn.map V.int)) hl1
      refine ⟨_, rfl, ln, _, rfl, .inl ⟨SqL.of (t1 _ _ eln8), fun l2 hl2 => ?_⟩⟩
      have t2 := new (o := .tup (nn.map V.int)) hl2
      refine ⟨two, fun q3 hq3 => ?_⟩
      have t3 := new (o := .lst [V.ref l1, V.ref l2]) hq3
      have t23 := t2.trans t3
      have S9 := S8.trans (t1.trans t23)
      refine ⟨_, rfl, a, ns, 1, rfl, S9.seq hS, fun rc => ⟨_, _, rfl, rfl, (by show (0 : Int) < 2; decide), ?_⟩⟩
      obtain ⟨lh, hlh, eh⟩ : ∃ lh, atI [V.ref l1, V.ref l2] (rc % 2) = some (V.ref lh) ∧ ((upd (upd (upd H8 l1 (.lst (nn.map V.int))) l2 (.tup (nn.map V.int))) q3 (.lst [V.ref l1, V.ref l2])) lh = some (.lst (nn.map V.int)) ∨ (upd (upd (upd H8 l1 (.lst (nn.map V.int))) l2 (.tup (nn.map V.int))) q3 (.lst [V.ref l1, V.ref l2])) lh = some (.tup (nn.map V.int))) := by
        have : rc % 2 = 0 ∨ rc % 2 = 1 := by omega
        rcases this with e | e <;> rw [e]
        · exact ⟨l1, rfl, .inl (t23 _ _ upd_same)⟩
        · exact ⟨l2, rfl, .inr (t3 _ _ upd_same)⟩
      refine ⟨q3, _, _, _, rfl, rfl, SqL.of upd_same, hlh, ?_⟩
      have ela9 := (t1.trans t23) _ _ ela8
      have eln9 := (t1.trans t23) _ _ eln8
      have R9 := R8.hard (Hard.of (t1.trans t23))
      generalize upd (upd (upd H8 l1 (.lst (nn.map V.int))) l2 (.tup (nn.map V.int))) q3 (.lst [V.ref l1, V.ref l2]) = H9 at S9 eh ela9 eln9 R9 ⊢
      clear t1 t2 t3 t23 hl1 hl2 hq3 S8 ela8 eln8 R8 hlh
      refine ⟨_, rfl, _, rfl, lb, _, rfl, .inl ⟨SqL.of ela9, fun l4 hl4 => ?_⟩⟩
      have t4 := new (o := .tup ys0) hl4
      refine ⟨two, fun q5 hq5 => ?_⟩
      have t5 := new (o := .lst [V.ref lb, V.ref l4]) hq5
      have t45 := t4.trans t5
      have S10 := S9.trans t45
      refine ⟨_, rfl, a, ns, 1, rfl, S10.seq hS, fun rd => ⟨_, _, rfl, rfl, ⟨by decide, by decide⟩, _, _, rfl, rfl, (by show (0 : Int) < 2; decide), ?_⟩⟩
      obtain ⟨lg, hlg, eg⟩ : ∃ lg, atI [V.ref lb, V.ref l4] (rd / 2 % 2) = some (V.ref lg) ∧ ((upd (upd H9 l4 (.tup ys0)) q5 (.lst [V.ref lb, V.ref l4])) lg = some (.lst ys0) ∨ (upd (upd H9 l4 (.tup ys0)) q5 (.lst [V.ref lb, V.ref l4])) lg = some (.tup ys0)) := by
        have : rd / 2 % 2 = 0 ∨ rd / 2 % 2 = 1 := by omega
        rcases this with e | e <;> rw [e]
        · exact ⟨lb, rfl, .inl (t45 _ _ ela9)⟩
        · exact ⟨l4, rfl, .inr (t5 _ _ upd_same)⟩
      refine ⟨q5, _, _, _, rfl, rfl, SqL.of upd_same, hlg, ?_⟩
      have ela10 := t45 _ _ ela9
      have eln10 := t45 _ _ eln9
      have eh10 := seq_same eh t45
      have R10 := R9.hard (Hard.of t45)
      generalize upd (upd H9 l4 (.tup ys0)) q5 (.lst [V.ref lb, V.ref l4]) = H10 at S10 eg ela10 eln10 eh10 R10 ⊢
      clear t4 t5 t45 hl4 hq5 S9 ela9 eln9 eh R9 hlg
      refine ⟨_, rfl, lg, lh, ys0, rs, nn, rfl, eg, R10, W, len, eh10, nf, nl, fun v1 H11 t11 out1 => ?_⟩
      have ela11 := t11 _ _ ela10
      have eln11 := t11 _ _ eln10
      have eh11 := seq_same eh10 t11
      have R11 := R10.hard (Hard.of t11)
      refine ⟨_, rfl, _, rfl, lb, ln, ys0, rs, nn, rfl, ela11, R11, W, len, eln11, nf, nl, fun v2 H12 t12 out2 => ?_⟩
      have ela12 := t12 _ _ ela11
      have eln12 := t12 _ _ eln11
      have eh12 := seq_same eh11 t12
      have R12 := R11.hard (Hard.of t12)
      cases hdue : due rs nn with
      | none =>
        rw [hdue] at out1 out2
        have out1 : v1 = .non := out1
        have out2 : v2 = .non := out2
        subst out1 out2
        refine ⟨_, rfl, rfl, _, rfl, iteDT rfl ?_⟩
        refine ⟨_, rfl, rfl, true, rfl, ifT rfl ?_⟩
        refine ⟨_, rfl, lh, _, rfl, seq_or eh12, fun l6 hl6 => ?_⟩
        exact ⟨_, rfl, l6, ln, _, _, rfl, rfl, .inl ⟨SqL.of upd_same, SqL.of (new hl6 _ _ eln12)⟩, like_ints nn, k _⟩
      | some e =>
        rw [hdue] at out1 out2
        obtain ⟨q1, rfl, n1, e1, nd⟩ := out1
        obtain ⟨q2, rfl, n2, e2, _⟩ := out2
        have e1' := t12 _ _ e1
        have n12 : q2 ≠ q1 := (ne_of_none e1 n2).symm
        refine ⟨_, rfl, rfl, _, rfl, iteDF (by intro z; cases z) ?_⟩
        refine ⟨_, rfl, .ref q1, _, _, true, rfl, TyOf.dK e1', rfl, kit_dict K, _, rfl, ifF rfl ?_⟩
        refine ⟨_, rfl, _, rfl, q1, q2, e, rfl, rfl, e1', e2, nd, _, rfl, ifF rfl ?_⟩
        refine ⟨_, rfl, lh, _, rfl, seq_or eh12, fun l6 hl6 => ?_⟩
        have t6 := new (o := .lst (nn.map V.int)) hl6
        refine ⟨_, rfl, l6, ln, _, _, rfl, rfl, .inl ⟨SqL.of upd_same, SqL.of (t6 _ _ eln12)⟩, like_ints nn, _, rfl, ifF rfl ?_⟩
        have e1'' := t6 _ _ e1'
        have e2'' := t6 _ _ e2
        have ela13 := t6 _ _ ela12
        have eln13 := t6 _ _ eln12
        have R13 := R12.hard (Hard.of t6)
        generalize upd H12 l6 (.lst (nn.map V.int)) = H13 at e1'' e2'' ela13 eln13 R13 ⊢
        refine ⟨_, rfl, .inr (.inr (.inl ⟨rfl, .inl ⟨_, e1''⟩⟩)), q1, _, rfl, rfl, e1'', ?_⟩
        have h14 : Hard H13 (upd H13 q1 (.dK [])) := Hard.soft But.upd e1'' soft_d
        have ela14 : (upd H13 q1 (.dK [])) lb = some (.lst ys0) := by rw [upd_ne (ne_of ela13 e1'' (by intro z; cases z))]; exact ela13
        have eln14 : (upd H13 q1 (.dK [])) ln = some (.lst (nn.map V.int)) := by rw [upd_ne (ne_of eln13 e1'' (by intro z; cases z))]; exact eln13
        have e214 : (upd H13 q1 (.dK [])) q2 = some (.dK (enc e)) := by rw [upd_ne n12]; exact e2''
        have R14 := R13.hard h14
        generalize upd H13 q1 (.dK []) = H14 at ela14 eln14 e214 R14 ⊢
        refine ⟨_, rfl, _, rfl, ln, _, rfl, .inl (SqL.of eln14), fun l7 hl7 => ?_⟩
        have t7 := new (o := .lst (nn.map V.int)) hl7
        refine ⟨lb, l7, ys0, rs, nn, rfl, .inl (t7 _ _ ela14), R14.hard (Hard.of t7), W, len, .inl upd_same, nf, nl, fun v3 H15 t15 out3 => ?_⟩
        rw [hdue] at out3
        obtain ⟨q3, rfl, n3, e3, _⟩ := out3
        exact ⟨_, rfl, q3, q2, e, rfl, rfl, e3, t15 _ _ (t7 _ _ e214), nd, k _⟩
    have lur : us.length = rs.length := Paired.length R2
    have lua : us.length ≤ 9 := by omega
    refine ⟨_, rfl, la, rfl, ⟨us, SqL.of ela⟩, comp_list (xs := us) (fun i ys H' => H' = H2 ∧ ys.length ≤ i) ⟨rfl, Nat.le_refl _⟩ (fun i ys H' _ q => by rw [q.1]; exact SqL.of ela) ?_ ?_⟩
    · rintro i v ys H' hi ⟨rfl, yl⟩
      obtain ⟨r, hri, hrv⟩ := paired_at R2 hi
      have ild := (List.getElem?_eq_some_iff.mp hri).1
      obtain ⟨p, ws, rfl, ep⟩ := row_tag hrv
      refine ⟨Ext.one, _, rfl, p, _, 0, _, rfl, rfl, SqT.of ep, atH _ _, rfl, _, rfl, ?_⟩
      refine ite2 (fun _ => ?_) (fun _ => ⟨rfl, by omega⟩)
      exact ⟨_, rfl, line _ (by omega), rfl, by rw [List.length_append]; show ys.length + 1 ≤ i + 1; omega⟩
    rintro ys H' ⟨rfl, yl⟩ q0 hq0
    have s0 := new (o := .lst ys) hq0
    refine ⟨q0, _, rfl, .inl (SqL.of upd_same), _, rfl, (by show 5 ≤ sizeLine; exact Nat.le_of_lt (line 5 (by decide))), fun q1 hq1 => ?_⟩
    have s1' := new (o := .lst [V.int 0, V.int 0, V.int 0, V.int 1, V.int (-1)]) hq1
    have s01 := s0.trans s1'
    have nq1 : q1 ≠ d := (D2.same s0).ne hq1
    refine ⟨_, rfl, d, 5, rfl, D2.same s01, (by decide), fun r5 H5 h5 b5 D5 => ?_⟩
    obtain ⟨z, hz, z1, z2⟩ : ∃ z, ([V.int 0, V.int 0, V.int 0, V.int 1, V.int (-1)] : List V)[r5]? = some (V.int z) ∧ -1 ≤ z ∧ z ≤ 1 := by
      have : r5 = 0 ∨ r5 = 1 ∨ r5 = 2 ∨ r5 = 3 ∨ r5 = 4 := by omega
      rcases this with e | e | e | e | e <;> subst e <;> exact ⟨_, rfl, by decide, by decide⟩
    refine ⟨q1, _, _, _, rfl, rfl, SqL.of (b5 _ _ upd_same nq1), atI_nat hz, _, _, rfl, rfl, ?_⟩
    have S5 : Same H H5 := But.back (S2.trans s01) b5 hd
    have ela5 := b5 _ _ (s01 _ _ ela) nla
    obtain ⟨ya, yb, hy5⟩ := id (D2.same s01)
    have R5 := (R2.hard (Hard.of s01)).hard (Hard.soft b5 hy5 soft_l)
    have mb : (ys.length : Int) + z ≤ 10 := by omega
    clear s0 s1' s01 b5 hz nq1 hq0 hq1 hy5 ela R2 S2 D2
    refine ⟨_, _, rfl, rfl, ⟨by decide, by decide, by decide⟩, (by show 3 ≤ sizeLine; exact Nat.le_of_lt (line 3 (by decide))), fun q2 hq2 => ?_⟩
    have nq2 : q2 ≠ d := D5.ne hq2
    have s6 := new (o := .lst [V.int 3, V.int 20, V.int (10 ^ Int.toNat 9)]) hq2
    refine ⟨_, rfl, d, 3, rfl, D5.same s6, (by decide), fun r6 H6 h6 b6 D6 => ?_⟩
    obtain ⟨w, hw, w1, w2⟩ : ∃ w, ([V.int 3, V.int 20, V.int (10 ^ Int.toNat 9)] : List V)[r6]? = some (V.int w) ∧ 0 ≤ w ∧ w ≤ 10 ^ 9 := by
      have : r6 = 0 ∨ r6 = 1 ∨ r6 = 2 := by omega
      rcases this with e | e | e <;> subst e <;> exact ⟨_, rfl, by decide, by decide⟩
    refine ⟨q2, _, _, _, rfl, rfl, SqL.of (b6 _ _ upd_same nq2), atI_nat hw, ?_⟩
    have S6 : Same H H6 := But.back (S5.trans s6) b6 hd
    have ela6 := b6 _ _ (s6 _ _ ela5) nla
    obtain ⟨ya, yb, hy6⟩ := id (D5.same s6)
    have R6 := (R5.hard (Hard.of s6)).hard (Hard.soft b6 hy6 soft_l)
    clear s6 b6 hw nq2 hq2 hy6 ela5 R5 S5 D5
    refine ⟨_, rfl, _, _, rfl, _, rfl, (by split <;> omega), (by split <;> omega), comp_range (n := (if (ys.length : Int) + z > 0 then (ys.length : Int) + z else 0).toNat) (fun i ys H' => Same H H' ∧ Dr H' d ∧ H' la = some (.lst us) ∧ RowsAt Z H' us rs ∧ ∃ nn : List Int, ys = nn.map V.int ∧ nn.length = i ∧ Far nn) ⟨S6, D6, ela6, R6, [], rfl, rfl, (fun _ h => nomatch h)⟩ ?_ ?_⟩
    · rintro i ys H' hi ⟨S7, D7, ela7, R7, nn, rfl, nl, nf⟩
      refine ⟨Ext.one, alwT ⟨_, rfl, _, rfl, _, _, rfl, rfl, .inl ⟨by decide, by decide⟩, _, _, rfl, rfl, d, _, rfl, D7, (by show (0 : Int) < 2 * w + 1; omega), fun r7 H8 h7 b7 D8 => ?_⟩⟩
      obtain ⟨ya, yb, hy7⟩ := id D7
      refine ⟨_, rfl, _, _, rfl, rfl, (by rw [List.length_map]; exact line _ (by split at hi <;> omega)), But.back S7 b7 hd, D8, b7 _ _ ela7 nla, R7.hard (Hard.soft b7 hy7 soft_l), nn ++ [(r7 : Int) - w], (by rw [List.map_append]; rfl), (by rw [List.length_append, nl]; rfl), fun m hm => ?_⟩
      rcases List.mem_append.mp hm with z | z
      · exact nf m z
      · rw [List.mem_singleton.mp z]
        exact far_ints w1 w2 h7
    rintro ys H7 ⟨S7, D7, ela7, R7, nn, rfl, nl, nf⟩ ln hln
    have nl : nn.length ≤ 20 := by rw [nl]; split <;> omega
    have s8 := new (o := .lst (nn.map V.int)) hln
    have S8 := S7.trans s8
    have ela8 := s8 _ _ ela7
    have eln8 : (upd H7 ln (.lst (nn.map V.int))) ln = some (.lst (nn.map V.int)) := upd_same
    have R8 := R7.hard (Hard.of s8)
    generalize upd H7 ln (.lst (nn.map V.int)) = H8 at S8 ela8 eln8 R8 ⊢
    clear s8 S7 ela7 R7 D7 hln w1 w2
    refine ⟨_, rfl, ln, _, rfl, .inl (SqL.of eln8), fun l1 hl1 => ?_⟩
    have t1 := new (o := .lst (nn.map V.int)) hl1
    refine ⟨_, rfl, ln, _, rfl, .inl ⟨SqL.of (t1 _ _ eln8), fun l2 hl2 => ?_⟩⟩
    have t2 := new (o := .tup (nn.map V.int)) hl2
    refine ⟨two, fun q3 hq3 => ?_⟩
    have t3 := new (o := .lst [V.ref l1, V.ref l2]) hq3
    have t23 := t2.trans t3
    have S9 := S8.trans (t1.trans t23)
    refine ⟨_, rfl, a, ns, 1, rfl, S9.seq hS, fun rc => ⟨_, _, rfl, rfl, (by show (0 : Int) < 2; decide), ?_⟩⟩
    obtain ⟨lh, hlh, eh⟩ : ∃ lh, atI [V.ref l1, V.ref l2] (rc % 2) = some (V.ref lh) ∧ ((upd (upd (upd H8 l1 (.lst (nn.map V.int))) l2 (.tup (nn.map V.int))) q3 (.lst [V.ref l1, V.ref l2])) lh = some (.lst (nn.map V.int)) ∨ (upd (upd (upd H8 l1 (.lst (nn.map V.int))) l2 (.tup (nn.map V.int))) q3 (.lst [V.ref l1, V.ref l2])) lh = some (.tup (nn.map V.int))) := by
      have : rc % 2 = 0 ∨ rc % 2 = 1 := by omega
      rcases this with e | e <;> rw [e]
      · exact ⟨l1, rfl, .inl (t23 _ _ upd_same)⟩
      · exact ⟨l2, rfl, .inr (t3 _ _ upd_same)⟩
    refine ⟨q3, _, _, _, rfl, rfl, SqL.of upd_same, hlh, ?_⟩
    have ela9 := (t1.trans t23) _ _ ela8
    have eln9 := (t1.trans t23) _ _ eln8
    have R9 := R8.hard (Hard.of (t1.trans t23))
    generalize upd (upd (upd H8 l1 (.lst (nn.map V.int))) l2 (.tup (nn.map V.int))) q3 (.lst [V.ref l1, V.ref l2]) = H9 at S9 eh ela9 eln9 R9 ⊢
    clear t1 t2 t3 t23 hl1 hl2 hq3 S8 ela8 eln8 R8 hlh
    refine ⟨_, rfl, _, rfl, la, _, rfl, .inl ⟨SqL.of ela9, fun l4 hl4 => ?_⟩⟩
    have t4 := new (o := .tup us) hl4
    refine ⟨two, fun q5 hq5 => ?_⟩
    have t5 := new (o := .lst [V.ref la, V.ref l4]) hq5
    have t45 := t4.trans t5
    have S10 := S9.trans t45
    refine ⟨_, rfl, a, ns, 1, rfl, S10.seq hS, fun rd => ⟨_, _, rfl, rfl, ⟨by decide, by decide⟩, _, _, rfl, rfl, (by show (0 : Int) < 2; decide), ?_⟩⟩
    obtain ⟨lg, hlg, eg⟩ : ∃ lg, atI [V.ref la, V.ref l4] (rd / 2 % 2) = some (V.ref lg) ∧ ((upd (upd H9 l4 (.tup us)) q5 (.lst [V.ref la, V.ref l4])) lg = some (.lst us) ∨ (upd (upd H9 l4 (.tup us)) q5 (.lst [V.ref la, V.ref l4])) lg = some (.tup us)) := by
      have : rd / 2 % 2 = 0 ∨ rd / 2 % 2 = 1 := by omega
      rcases this with e | e <;> rw [e]
      · exact ⟨la, rfl, .inl (t45 _ _ ela9)⟩
      · exact ⟨l4, rfl, .inr (t5 _ _ upd_same)⟩
    refine ⟨q5, _, _, _, rfl, rfl, SqL.of upd_same, hlg, ?_⟩
    have ela10 := t45 _ _ ela9
    have eln10 := t45 _ _ eln9
    have eh10 := seq_same eh t45
    have R10 := R9.hard (Hard.of t45)
    generalize upd (upd H9 l4 (.tup us)) q5 (.lst [V.ref la, V.ref l4]) = H10 at S10 eg ela10 eln10 eh10 R10 ⊢
    clear t4 t5 t45 hl4 hq5 S9 ela9 eln9 eh R9 hlg
    refine ⟨_, rfl, lg, lh, us, rs, nn, rfl, eg, R10, W, len, eh10, nf, nl, fun v1 H11 t11 out1 => ?_⟩
    have ela11 := t11 _ _ ela10
    have eln11 := t11 _ _ eln10
    have eh11 := seq_same eh10 t11
    have R11 := R10.hard (Hard.of t11)
    refine ⟨_, rfl, _, rfl, la, ln, us, rs, nn, rfl, ela11, R11, W, len, eln11, nf, nl, fun v2 H12 t12 out2 => ?_⟩
    have ela12 := t12 _ _ ela11
    have eln12 := t12 _ _ eln11
    have eh12 := seq_same eh11 t12
    have R12 := R11.hard (Hard.of t12)
    cases hdue : due rs nn with
    | none =>
      rw [hdue] at out1 out2
      have out1 : v1 = .non := out1
      have out2 : v2 = .non := out2
      subst out1 out2
      refine ⟨_, rfl, rfl, _, rfl, iteDT rfl ?_⟩
      refine ⟨_, rfl, rfl, true, rfl, ifT rfl ?_⟩
      refine ⟨_, rfl, lh, _, rfl, seq_or eh12, fun l6 hl6 => ?_⟩
      exact ⟨_, rfl, l6, ln, _, _, rfl, rfl, .inl ⟨SqL.of upd_same, SqL.of (new hl6 _ _ eln12)⟩, like_ints nn, k _⟩
    | some e =>
      rw [hdue] at out1 out2
      obtain ⟨q1, rfl, n1, e1, nd⟩ := out1
      obtain ⟨q2, rfl, n2, e2, _⟩ := out2
      have e1' := t12 _ _ e1
      have n12 : q2 ≠ q1 := (ne_of_none e1 n2).symm
      refine ⟨_, rfl, rfl, _, rfl, iteDF (by intro z; cases z) ?_⟩
      refine ⟨_, rfl, .ref q1, _, _, true, rfl, TyOf.dK e1', rfl, kit_dict K, _, rfl, ifF rfl ?_⟩
      refine ⟨_, rfl, _, rfl, q1, q2, e, rfl, rfl, e1', e2, nd, _, rfl, ifF rfl ?_⟩
      refine ⟨_, rfl, lh, _, rfl, seq_or eh12, fun l6 hl6 => ?_⟩
      have t6 := new (o := .lst (nn.map V.int)) hl6
      refine ⟨_, rfl, l6, ln, _, _, rfl, rfl, .inl ⟨SqL.of upd_same, SqL.of (t6 _ _ eln12)⟩, like_ints nn, _, rfl, ifF rfl ?_⟩
      have e1'' := t6 _ _ e1'
      have e2'' := t6 _ _ e2
      have ela13 := t6 _ _ ela12
      have eln13 := t6 _ _ eln12
      have R13 := R12.hard (Hard.of t6)
      generalize upd H12 l6 (.lst (nn.map V.int)) = H13 at e1'' e2'' ela13 eln13 R13 ⊢
      refine ⟨_, rfl, .inr (.inr (.inl ⟨rfl, .inl ⟨_, e1''⟩⟩)), q1, _, rfl, rfl, e1'', ?_⟩
      have h14 : Hard H13 (upd H13 q1 (.dK [])) := Hard.soft But.upd e1'' soft_d
      have ela14 : (upd H13 q1 (.dK [])) la = some (.lst us) := by rw [upd_ne (ne_of ela13 e1'' (by intro z; cases z))]; exact ela13
      have eln14 : (upd H13 q1 (.dK [])) ln = some (.lst (nn.map V.int)) := by rw [upd_ne (ne_of eln13 e1'' (by intro z; cases z))]; exact eln13
      have e214 : (upd H13 q1 (.dK [])) q2 = some (.dK (enc e)) := by rw [upd_ne n12]; exact e2''
      have R14 := R13.hard h14
      generalize upd H13 q1 (.dK []) = H14 at ela14 eln14 e214 R14 ⊢
      refine ⟨_, rfl, _, rfl, ln, _, rfl, .inl (SqL.of eln14), fun l7 hl7 => ?_⟩
      have t7 := new (o := .lst (nn.map V.int)) hl7
      refine ⟨la, l7, us, rs, nn, rfl, .inl (t7 _ _ ela14), R14.hard (Hard.of t7), W, len, .inl upd_same, nf, nl, fun v3 H15 t15 out3 => ?_⟩
      rw [hdue] at out3
      obtain ⟨q3, rfl, n3, e3, _⟩ := out3
      exact ⟨_, rfl, q3, q2, e, rfl, rfl, e3, t15 _ _ (t7 _ _ e214), nd, k _⟩
end
end Hw
namespace Hw
open PySem L2 PyProof.Rows
section
variable {P : Program} {w : World} {K : PySem.W.Frag} {mg : Str → Option Value} {base : Heap}
theorem all_told {Z : Cz} {f0 f1 f2 f3 : Addr} {fd0 fd1 fd2 fd3 : FuncData} (T : Txt K mg Z.s) (U : Txz K mg Z) (F0 : Fun K "told" "Compare.told" sCTold f0 fd0) (h0 : Meth K (clsOf Z 0) "told" f0) (b0 : Binds K fd0 ["self"] []) (F1 : Fun K "told" "Turned.told" sTTold f1 fd1) (h1 : Meth K (clsOf Z 1) "told" f1) (b1 : Binds K fd1 ["self"] []) (F2 : Fun K "told" "Every.told" sETold f2 fd2) (h2 : Meth K (clsOf Z 2) "told" f2) (b2 : Binds K fd2 ["self"] []) (F3 : Fun K "told" "Some.told" sOTold f3 fd3) (h3 : Meth K (clsOf Z 3) "told" f3) (b3 : Binds K fd3 ["self"] []) (d_told : Mt P w K mg base 1 Z.s "told" ["self"] (spTold Z.s)) : ∀ n, M4 P w K mg base (n + 1) Z "told" ["self"] (spCTold Z n) := by
  refine m4_rec (lv := fun n => n + 1) (sp := fun n => spCTold Z n) (fun j => match j with | 0 => f0 | 1 => f1 | 2 => f2 | _ => f3) (fun j => match j with | 0 => fd0 | 1 => fd1 | 2 => fd2 | _ => fd3) (fun j hj => ?_) (fun j hj => ?_) (told0 Z) (fun n R j hj => ?_)
  · match j, hj with
    | 0, _ => exact h0
    | 1, _ => exact h1
    | 2, _ => exact h2
    | 3, _ => exact h3
  · match j, hj with
    | 0, _ => exact b0
    | 1, _ => exact b1
    | 2, _ => exact b2
    | 3, _ => exact b3
  · match j, hj with
    | 0, _ => exact ok_ctold (n := n) F0 T U d_told
    | 1, _ => exact ok_ttold (n := n) F1 T U R
    | 2, _ => exact ok_etold (n := n) F2 T U R
    | 3, _ => exact ok_otold (n := n) F3 T U R
theorem all_holds {Z : Cz} {f0 f1 f2 f3 : Addr} {fd0 fd1 fd2 fd3 : FuncData} (T : Txt K mg Z.s) (U : Txz K mg Z) (F0 : Fun K "holds" "Compare.holds" sCholds f0 fd0) (h0 : Meth K (clsOf Z 0) "holds" f0) (b0 : Binds K fd0 ["self", "numbers"] []) (F1 : Fun K "holds" "Turned.holds" sTholds f1 fd1) (h1 : Meth K (clsOf Z 1) "holds" f1) (b1 : Binds K fd1 ["self", "numbers"] []) (F2 : Fun K "holds" "Every.holds" sEholds f2 fd2) (h2 : Meth K (clsOf Z 2) "holds" f2) (b2 : Binds K fd2 ["self", "numbers"] []) (F3 : Fun K "holds" "Some.holds" sOholds f3 fd3) (h3 : Meth K (clsOf Z 3) "holds" f3) (b3 : Binds K fd3 ["self", "numbers"] []) (d_value : Mt P w K mg base 1 Z.s "value" ["self", "numbers"] (spValue Z.s)) (d_cmps : Dn P w K mg base 1 "compares" ["one", "sign", "other"] spCompares) : ∀ n, M4 P w K mg base (n + 1) Z "holds" ["self", "numbers"] (spCHolds Z n) := by
  refine m4_rec (lv := fun n => n + 1) (sp := fun n => spCHolds Z n) (fun j => match j with | 0 => f0 | 1 => f1 | 2 => f2 | _ => f3) (fun j => match j with | 0 => fd0 | 1 => fd1 | 2 => fd2 | _ => fd3) (fun j hj => ?_) (fun j hj => ?_) (holds0 Z) (fun n R j hj => ?_)
  · match j, hj with
    | 0, _ => exact h0
    | 1, _ => exact h1
    | 2, _ => exact h2
    | 3, _ => exact h3
  · match j, hj with
    | 0, _ => exact b0
    | 1, _ => exact b1
    | 2, _ => exact b2
    | 3, _ => exact b3
  · match j, hj with
    | 0, _ => exact ok_cholds (n := n) F0 T U d_value d_cmps
    | 1, _ => exact ok_tholds (n := n) F1 T U R
    | 2, _ => exact ok_eholds (n := n) F2 T U R
    | 3, _ => exact ok_oholds (n := n) F3 T U R
theorem all_c28 {Z : Cz} {f : Addr} {fd : FuncData} (T : Txt K mg Z.s) (U : Txz K mg Z) (F : Fun K "_law_condition" "_law_condition" sLCond f fd) (hm : mg "_law_condition" = some (.ref f)) (hk : PySem.W.keepIn K (.ref f) = true) (hb : Binds K fd ["_law_draw", "_law_things", "_law_deep"] []) (d_next : Dn P w K mg base 2 "_law_next" ["_law_draw", "_law_size"] spNext) (d_s28 : Dn P w K mg base 4 "_law_sum" ["_law_draw", "_law_things"] (sp28Sum Z)) (d_cinit : Mr P w K mg base 1 Z.c ["self", "one", "sign", "other"] (spCInit Z)) (d_tinit : Mr P w K mg base 1 Z.t ["self", "condition"] (spTInit Z)) (d_einit : Mr P w K mg base 1 Z.e ["self", "conditions"] (spVInitT Z.e)) (d_oinit : Mr P w K mg base 1 Z.o ["self", "conditions"] (spVInitT Z.o)) : ∀ n, Dn P w K mg base (n + 5) "_law_condition" ["_law_draw", "_law_things", "_law_deep"] (sp28Cond Z n) :=
  dn_rec (lv := fun n => n + 5) (sp := fun n => sp28Cond Z n) hm hk hb (cond28_0 Z) fun n R => ok_c28 (n := n) F T U d_next d_s28 d_cinit d_tinit d_einit d_oinit R
theorem all_h28 {Z : Cz} {f : Addr} {fd : FuncData} (T : Txt K mg Z.s) (U : Txz K mg Z) (F : Fun K "_law_holds" "_law_holds" sLHolds f fd) (hm : mg "_law_holds" = some (.ref f)) (hk : PySem.W.keepIn K (.ref f) = true) (hb : Binds K fd ["_law_told", "_law_numbers"] []) (d_lval : Dn P w K mg base 1 "_law_value" ["_law_one", "_law_numbers"] spLVal) : ∀ n, Dn P w K mg base (n + 1) "_law_holds" ["_law_told", "_law_numbers"] (spLHolds n) :=
  dn_rec (lv := fun n => n + 1) (sp := fun n => spLHolds n) hm hk hb (lholds0) fun n R => ok_h28 (n := n) F T U d_lval R
end
end Hw
namespace Hw
open PySem L2 PyProof.Rows
theorem all_mk {l : PySem.W.OpenLaw} {w : World} {K : PySem.W.Frag} {h : Heap} {mg : Str → Option Value} {fa Cs Cc Ct Ce Co f1 f2 f3 f4 f5 f6 f7 f8 f9 f10 f11 f12 f13 f14 f15 f16 f17 f18 f19 f20 f21 f22 f23 f24 f25 f26 f27 f28 : Addr} (X : K.In h) (G : h.Ns mainGlobals mg) (hfa : mg "law" = some (.ref fa))
    {od1 an1 od2 an2 od3 an3 od4 an4 od5 an5 od6 an6 od7 an7 od8 an8 od9 an9 od10 an10 od11 an11 od12 an12 od13 an13 od14 an14 od15 an15 od16 an16 od17 an17 od18 an18 od19 an19 od20 an20 od21 an21 od22 an22 od23 an23 od24 an24 od25 an25 od26 an26 od27 an27 od28 an28 : Option Addr} {sl1 sl2 sl3 sl4 sl5 sl6 sl7 sl8 sl9 sl10 sl11 sl12 sl13 sl14 sl15 sl16 sl17 sl18 sl19 sl20 sl21 sl22 sl23 sl24 sl25 sl26 sl27 sl28 : Array (Option Value)} {oc1 kV1 dc1 pm1 cd1 ct1 oc2 kV2 dc2 pm2 cd2 ct2 oc3 kV3 dc3 pm3 cd3 ct3 oc4 kV4 dc4 pm4 cd4 ct4 oc5 kV5 dc5 pm5 cd5 ct5 oc6 kV6 dc6 pm6 cd6 ct6 oc7 kV7 dc7 pm7 cd7 ct7 oc8 kV8 dc8 pm8 cd8 ct8 oc9 kV9 dc9 pm9 cd9 ct9 oc10 kV10 dc10 pm10 cd10 ct10 oc11 kV11 dc11 pm11 cd11 ct11 oc12 kV12 dc12 pm12 cd12 ct12 oc13 kV13 dc13 pm13 cd13 ct13 oc14 kV14 dc14 pm14 cd14 ct14 oc15 kV15 dc15 pm15 cd15 ct15 oc16 kV16 dc16 pm16 cd16 ct16 oc17 kV17 dc17 pm17 cd17 ct17 oc18 kV18 dc18 pm18 cd18 ct18 oc19 kV19 dc19 pm19 cd19 ct19 oc20 kV20 dc20 pm20 cd20 ct20 oc21 kV21 dc21 pm21 cd21 ct21 oc22 kV22 dc22 pm22 cd22 ct22 oc23 kV23 dc23 pm23 cd23 ct23 oc24 kV24 dc24 pm24 cd24 ct24 oc25 kV25 dc25 pm25 cd25 ct25 oc26 kV26 dc26 pm26 cd26 ct26 oc27 kV27 dc27 pm27 cd27 ct27 oc28 kV28 dc28 pm28 cd28 ct28 : Value}
    (a1 : PySem.W.findIn K (.ref Cs) "__init__" = some (some (.ref f1))) (i1 : PySem.W.isFn K (.ref f1) = true)
    (l1 : K.lookup f1 = some ⟨oc1, od1, .func (PySem.W.fnOf "__init__" "Sum.__init__" (defArgs sInit) (defBody sInit) (defScope sInit) .none kV1 dc1 pm1 an1 cd1 ct1), sl1⟩) (c1 : PySem.W.codeIn K cd1 "Sum.__init__" = true) (k1 : PySem.W.keepIn K (.ref f1) = true)
    (a2 : PySem.W.findIn K (.ref Cs) "value" = some (some (.ref f2))) (i2 : PySem.W.isFn K (.ref f2) = true)
    (l2 : K.lookup f2 = some ⟨oc2, od2, .func (PySem.W.fnOf "value" "Sum.value" (defArgs sValue) (defBody sValue) (defScope sValue) .none kV2 dc2 pm2 an2 cd2 ct2), sl2⟩) (c2 : PySem.W.codeIn K cd2 "Sum.value" = true) (k2 : PySem.W.keepIn K (.ref f2) = true)
    (a3 : PySem.W.findIn K (.ref Cs) "told" = some (some (.ref f3))) (i3 : PySem.W.isFn K (.ref f3) = true)
    (l3 : K.lookup f3 = some ⟨oc3, od3, .func (PySem.W.fnOf "told" "Sum.told" (defArgs sSTold) (defBody sSTold) (defScope sSTold) .none kV3 dc3 pm3 an3 cd3 ct3), sl3⟩) (c3 : PySem.W.codeIn K cd3 "Sum.told" = true) (k3 : PySem.W.keepIn K (.ref f3) = true)
    (a4 : PySem.W.findIn K (.ref Cc) "__init__" = some (some (.ref f4))) (i4 : PySem.W.isFn K (.ref f4) = true)
    (l4 : K.lookup f4 = some ⟨oc4, od4, .func (PySem.W.fnOf "__init__" "Compare.__init__" (defArgs sCInit) (defBody sCInit) (defScope sCInit) .none kV4 dc4 pm4 an4 cd4 ct4), sl4⟩) (c4 : PySem.W.codeIn K cd4 "Compare.__init__" = true) (k4 : PySem.W.keepIn K (.ref f4) = true)
    (a5 : PySem.W.findIn K (.ref Ct) "__init__" = some (some (.ref f5))) (i5 : PySem.W.isFn K (.ref f5) = true)
    (l5 : K.lookup f5 = some ⟨oc5, od5, .func (PySem.W.fnOf "__init__" "Turned.__init__" (defArgs sTInit) (defBody sTInit) (defScope sTInit) .none kV5 dc5 pm5 an5 cd5 ct5), sl5⟩) (c5 : PySem.W.codeIn K cd5 "Turned.__init__" = true) (k5 : PySem.W.keepIn K (.ref f5) = true)
    (a6 : PySem.W.findIn K (.ref Ce) "__init__" = some (some (.ref f6))) (i6 : PySem.W.isFn K (.ref f6) = true)
    (l6 : K.lookup f6 = some ⟨oc6, od6, .func (PySem.W.fnOf "__init__" "Several.__init__" (defArgs sVInit) (defBody sVInit) (defScope sVInit) .none kV6 dc6 pm6 an6 cd6 ct6), sl6⟩) (c6 : PySem.W.codeIn K cd6 "Several.__init__" = true) (k6 : PySem.W.keepIn K (.ref f6) = true)
    (a7 : PySem.W.findIn K (.ref Co) "__init__" = some (some (.ref f7))) (i7 : PySem.W.isFn K (.ref f7) = true)
    (l7 : K.lookup f7 = some ⟨oc7, od7, .func (PySem.W.fnOf "__init__" "Several.__init__" (defArgs sVInit) (defBody sVInit) (defScope sVInit) .none kV7 dc7 pm7 an7 cd7 ct7), sl7⟩) (c7 : PySem.W.codeIn K cd7 "Several.__init__" = true) (k7 : PySem.W.keepIn K (.ref f7) = true)
    (a8 : PySem.W.findIn K (.ref Cc) "told" = some (some (.ref f8))) (i8 : PySem.W.isFn K (.ref f8) = true)
    (l8 : K.lookup f8 = some ⟨oc8, od8, .func (PySem.W.fnOf "told" "Compare.told" (defArgs sCTold) (defBody sCTold) (defScope sCTold) .none kV8 dc8 pm8 an8 cd8 ct8), sl8⟩) (c8 : PySem.W.codeIn K cd8 "Compare.told" = true) (k8 : PySem.W.keepIn K (.ref f8) = true)
    (a9 : PySem.W.findIn K (.ref Ct) "told" = some (some (.ref f9))) (i9 : PySem.W.isFn K (.ref f9) = true)
    (l9 : K.lookup f9 = some ⟨oc9, od9, .func (PySem.W.fnOf "told" "Turned.told" (defArgs sTTold) (defBody sTTold) (defScope sTTold) .none kV9 dc9 pm9 an9 cd9 ct9), sl9⟩) (c9 : PySem.W.codeIn K cd9 "Turned.told" = true) (k9 : PySem.W.keepIn K (.ref f9) = true)
    (a10 : PySem.W.findIn K (.ref Ce) "told" = some (some (.ref f10))) (i10 : PySem.W.isFn K (.ref f10) = true)
    (l10 : K.lookup f10 = some ⟨oc10, od10, .func (PySem.W.fnOf "told" "Every.told" (defArgs sETold) (defBody sETold) (defScope sETold) .none kV10 dc10 pm10 an10 cd10 ct10), sl10⟩) (c10 : PySem.W.codeIn K cd10 "Every.told" = true) (k10 : PySem.W.keepIn K (.ref f10) = true)
    (a11 : PySem.W.findIn K (.ref Co) "told" = some (some (.ref f11))) (i11 : PySem.W.isFn K (.ref f11) = true)
    (l11 : K.lookup f11 = some ⟨oc11, od11, .func (PySem.W.fnOf "told" "Some.told" (defArgs sOTold) (defBody sOTold) (defScope sOTold) .none kV11 dc11 pm11 an11 cd11 ct11), sl11⟩) (c11 : PySem.W.codeIn K cd11 "Some.told" = true) (k11 : PySem.W.keepIn K (.ref f11) = true)
    (a12 : PySem.W.findIn K (.ref Cc) "holds" = some (some (.ref f12))) (i12 : PySem.W.isFn K (.ref f12) = true)
    (l12 : K.lookup f12 = some ⟨oc12, od12, .func (PySem.W.fnOf "holds" "Compare.holds" (defArgs sCholds) (defBody sCholds) (defScope sCholds) .none kV12 dc12 pm12 an12 cd12 ct12), sl12⟩) (c12 : PySem.W.codeIn K cd12 "Compare.holds" = true) (k12 : PySem.W.keepIn K (.ref f12) = true)
    (a13 : PySem.W.findIn K (.ref Ct) "holds" = some (some (.ref f13))) (i13 : PySem.W.isFn K (.ref f13) = true)
    (l13 : K.lookup f13 = some ⟨oc13, od13, .func (PySem.W.fnOf "holds" "Turned.holds" (defArgs sTholds) (defBody sTholds) (defScope sTholds) .none kV13 dc13 pm13 an13 cd13 ct13), sl13⟩) (c13 : PySem.W.codeIn K cd13 "Turned.holds" = true) (k13 : PySem.W.keepIn K (.ref f13) = true)
    (a14 : PySem.W.findIn K (.ref Ce) "holds" = some (some (.ref f14))) (i14 : PySem.W.isFn K (.ref f14) = true)
    (l14 : K.lookup f14 = some ⟨oc14, od14, .func (PySem.W.fnOf "holds" "Every.holds" (defArgs sEholds) (defBody sEholds) (defScope sEholds) .none kV14 dc14 pm14 an14 cd14 ct14), sl14⟩) (c14 : PySem.W.codeIn K cd14 "Every.holds" = true) (k14 : PySem.W.keepIn K (.ref f14) = true)
    (a15 : PySem.W.findIn K (.ref Co) "holds" = some (some (.ref f15))) (i15 : PySem.W.isFn K (.ref f15) = true)
    (l15 : K.lookup f15 = some ⟨oc15, od15, .func (PySem.W.fnOf "holds" "Some.holds" (defArgs sOholds) (defBody sOholds) (defScope sOholds) .none kV15 dc15 pm15 an15 cd15 ct15), sl15⟩) (c15 : PySem.W.codeIn K cd15 "Some.holds" = true) (k15 : PySem.W.keepIn K (.ref f15) = true)
    (a16 : PySem.W.nsIn K mainGlobals "sum_of" = some (some (.ref f16)))
    (l16 : K.lookup f16 = some ⟨oc16, od16, .func (PySem.W.fnOf "sum_of" "sum_of" (defArgs sSumOf) (defBody sSumOf) (defScope sSumOf) .none kV16 dc16 pm16 an16 cd16 ct16), sl16⟩) (c16 : PySem.W.codeIn K cd16 "sum_of" = true) (k16 : PySem.W.keepIn K (.ref f16) = true)
    (a17 : PySem.W.nsIn K mainGlobals "_law_mixed" = some (some (.ref f17)))
    (l17 : K.lookup f17 = some ⟨oc17, od17, .func (PySem.W.fnOf "_law_mixed" "_law_mixed" (defArgs sMixed) (defBody sMixed) (defScope sMixed) .none kV17 dc17 pm17 an17 cd17 ct17), sl17⟩) (c17 : PySem.W.codeIn K cd17 "_law_mixed" = true) (k17 : PySem.W.keepIn K (.ref f17) = true)
    (a18 : PySem.W.nsIn K mainGlobals "_law_cell_at" = some (some (.ref f18)))
    (l18 : K.lookup f18 = some ⟨oc18, od18, .func (PySem.W.fnOf "_law_cell_at" "_law_cell_at" (defArgs sCellAt) (defBody sCellAt) (defScope sCellAt) .none kV18 dc18 pm18 an18 cd18 ct18), sl18⟩) (c18 : PySem.W.codeIn K cd18 "_law_cell_at" = true) (k18 : PySem.W.keepIn K (.ref f18) = true)
    (a19 : PySem.W.nsIn K mainGlobals "_law_next" = some (some (.ref f19)))
    (l19 : K.lookup f19 = some ⟨oc19, od19, .func (PySem.W.fnOf "_law_next" "_law_next" (defArgs sNext) (defBody sNext) (defScope sNext) .none kV19 dc19 pm19 an19 cd19 ct19), sl19⟩) (c19 : PySem.W.codeIn K cd19 "_law_next" = true) (k19 : PySem.W.keepIn K (.ref f19) = true)
    (a20 : PySem.W.nsIn K mainGlobals "compares" = some (some (.ref f20)))
    (l20 : K.lookup f20 = some ⟨oc20, od20, .func (PySem.W.fnOf "compares" "compares" (defArgs sCmps) (defBody sCmps) (defScope sCmps) .none kV20 dc20 pm20 an20 cd20 ct20), sl20⟩) (c20 : PySem.W.codeIn K cd20 "compares" = true) (k20 : PySem.W.keepIn K (.ref f20) = true)
    (a21 : PySem.W.nsIn K mainGlobals "_law_sum" = some (some (.ref f21)))
    (l21 : K.lookup f21 = some ⟨oc21, od21, .func (PySem.W.fnOf "_law_sum" "_law_sum" (defArgs sLSum) (defBody sLSum) (defScope sLSum) .none kV21 dc21 pm21 an21 cd21 ct21), sl21⟩) (c21 : PySem.W.codeIn K cd21 "_law_sum" = true) (k21 : PySem.W.keepIn K (.ref f21) = true)
    (a22 : PySem.W.nsIn K mainGlobals "_law_condition" = some (some (.ref f22)))
    (l22 : K.lookup f22 = some ⟨oc22, od22, .func (PySem.W.fnOf "_law_condition" "_law_condition" (defArgs sLCond) (defBody sLCond) (defScope sLCond) .none kV22 dc22 pm22 an22 cd22 ct22), sl22⟩) (c22 : PySem.W.codeIn K cd22 "_law_condition" = true) (k22 : PySem.W.keepIn K (.ref f22) = true)
    (a23 : PySem.W.nsIn K mainGlobals "_law_value" = some (some (.ref f23)))
    (l23 : K.lookup f23 = some ⟨oc23, od23, .func (PySem.W.fnOf "_law_value" "_law_value" (defArgs sLVal) (defBody sLVal) (defScope sLVal) .none kV23 dc23 pm23 an23 cd23 ct23), sl23⟩) (c23 : PySem.W.codeIn K cd23 "_law_value" = true) (k23 : PySem.W.keepIn K (.ref f23) = true)
    (a24 : PySem.W.nsIn K mainGlobals "_law_holds" = some (some (.ref f24)))
    (l24 : K.lookup f24 = some ⟨oc24, od24, .func (PySem.W.fnOf "_law_holds" "_law_holds" (defArgs sLHolds) (defBody sLHolds) (defScope sLHolds) .none kV24 dc24 pm24 an24 cd24 ct24), sl24⟩) (c24 : PySem.W.codeIn K cd24 "_law_holds" = true) (k24 : PySem.W.keepIn K (.ref f24) = true)
    (a25 : PySem.W.nsIn K mainGlobals "_law_rows" = some (some (.ref f25)))
    (l25 : K.lookup f25 = some ⟨oc25, od25, .func (PySem.W.fnOf "_law_rows" "_law_rows" (defArgs sLRows) (defBody sLRows) (defScope sLRows) .none kV25 dc25 pm25 an25 cd25 ct25), sl25⟩) (c25 : PySem.W.codeIn K cd25 "_law_rows" = true) (k25 : PySem.W.keepIn K (.ref f25) = true)
    (a26 : PySem.W.nsIn K mainGlobals "_law_due" = some (some (.ref f26)))
    (l26 : K.lookup f26 = some ⟨oc26, od26, .func (PySem.W.fnOf "_law_due" "_law_due" (defArgs sLDue) (defBody sLDue) (defScope sLDue) .none kV26 dc26 pm26 an26 cd26 ct26), sl26⟩) (c26 : PySem.W.codeIn K cd26 "_law_due" = true) (k26 : PySem.W.keepIn K (.ref f26) = true)
    (a27 : PySem.W.nsIn K mainGlobals "along" = some (some (.ref f27)))
    (l27 : K.lookup f27 = some ⟨oc27, od27, .func (PySem.W.fnOf "along" "along" (defArgs sAlong) (defBody sAlong) (defScope sAlong) .none kV27 dc27 pm27 an27 cd27 ct27), sl27⟩) (c27 : PySem.W.codeIn K cd27 "along" = true) (k27 : PySem.W.keepIn K (.ref f27) = true)
    (a28 : PySem.W.nsIn K mainGlobals "law" = some (some (.ref f28)))
    (l28 : K.lookup f28 = some ⟨oc28, od28, .func (PySem.W.fnOf "law" "law" (defArgs sLaw) (defBody sLaw) (defScope sLaw) .none kV28 dc28 pm28 an28 cd28 ct28), sl28⟩) (c28 : PySem.W.codeIn K cd28 "law" = true) (k28 : PySem.W.keepIn K (.ref f28) = true)
    (g_Cs : PySem.W.nsIn K mainGlobals "Sum" = some (some (.ref Cs))) (pg_Cs : PySem.W.plainGet K Cs Str.empty = true) (hd_Cs : PySem.W.hasDictIn K Cs = true) (po_Cs : PySem.W.plainOver K Cs = true) (sa_Cs : PySem.W.findIn K (.ref Cs) "__setattr__" = some (some (.builtin "object.__setattr__"))) (mk_Cs : PySem.W.makesIn K Cs = true) (kc_Cs : PySem.W.keepIn K (.ref Cs) = true)
    (g_Cc : PySem.W.nsIn K mainGlobals "Compare" = some (some (.ref Cc))) (pg_Cc : PySem.W.plainGet K Cc Str.empty = true) (hd_Cc : PySem.W.hasDictIn K Cc = true) (po_Cc : PySem.W.plainOver K Cc = true) (sa_Cc : PySem.W.findIn K (.ref Cc) "__setattr__" = some (some (.builtin "object.__setattr__"))) (mk_Cc : PySem.W.makesIn K Cc = true) (kc_Cc : PySem.W.keepIn K (.ref Cc) = true)
    (g_Ct : PySem.W.nsIn K mainGlobals "Turned" = some (some (.ref Ct))) (pg_Ct : PySem.W.plainGet K Ct Str.empty = true) (hd_Ct : PySem.W.hasDictIn K Ct = true) (po_Ct : PySem.W.plainOver K Ct = true) (sa_Ct : PySem.W.findIn K (.ref Ct) "__setattr__" = some (some (.builtin "object.__setattr__"))) (mk_Ct : PySem.W.makesIn K Ct = true) (kc_Ct : PySem.W.keepIn K (.ref Ct) = true)
    (g_Ce : PySem.W.nsIn K mainGlobals "Every" = some (some (.ref Ce))) (pg_Ce : PySem.W.plainGet K Ce Str.empty = true) (hd_Ce : PySem.W.hasDictIn K Ce = true) (po_Ce : PySem.W.plainOver K Ce = true) (sa_Ce : PySem.W.findIn K (.ref Ce) "__setattr__" = some (some (.builtin "object.__setattr__"))) (mk_Ce : PySem.W.makesIn K Ce = true) (kc_Ce : PySem.W.keepIn K (.ref Ce) = true)
    (g_Co : PySem.W.nsIn K mainGlobals "Some" = some (some (.ref Co))) (pg_Co : PySem.W.plainGet K Co Str.empty = true) (hd_Co : PySem.W.hasDictIn K Co = true) (po_Co : PySem.W.plainOver K Co = true) (sa_Co : PySem.W.findIn K (.ref Co) "__setattr__" = some (some (.builtin "object.__setattr__"))) (mk_Co : PySem.W.makesIn K Co = true) (kc_Co : PySem.W.keepIn K (.ref Co) = true)
    (n_Cs_terms : PySem.W.findIn K (.ref Cs) "terms" = some none)
    (n_Cs_number : PySem.W.findIn K (.ref Cs) "number" = some none)
    (n_Cc_one : PySem.W.findIn K (.ref Cc) "one" = some none)
    (n_Cc_sign : PySem.W.findIn K (.ref Cc) "sign" = some none)
    (n_Cc_other : PySem.W.findIn K (.ref Cc) "other" = some none)
    (n_Ct_condition : PySem.W.findIn K (.ref Ct) "condition" = some none)
    (n_Ce_conditions : PySem.W.findIn K (.ref Ce) "conditions" = some none)
    (n_Co_conditions : PySem.W.findIn K (.ref Co) "conditions" = some none)
    (z_len : PySem.W.nsIn K mainGlobals "len" = some none)
    (z_sum : PySem.W.nsIn K mainGlobals "sum" = some none)
    (z_sorted : PySem.W.nsIn K mainGlobals "sorted" = some none)
    (z_list : PySem.W.nsIn K mainGlobals "list" = some none)
    (z_tuple : PySem.W.nsIn K mainGlobals "tuple" = some none)
    (z_isinstance : PySem.W.nsIn K mainGlobals "isinstance" = some none)
    (z_range : PySem.W.nsIn K mainGlobals "range" = some none)
    (z_abs : PySem.W.nsIn K mainGlobals "abs" = some none)
    (z_str : PySem.W.nsIn K mainGlobals "str" = some none)
    (z_int : PySem.W.nsIn K mainGlobals "int" = some none)
    (z_dict : PySem.W.nsIn K mainGlobals "dict" = some none)
    (z_all : PySem.W.nsIn K mainGlobals "all" = some none)
    (z_any : PySem.W.nsIn K mainGlobals "any" = some none)
    (z_max : PySem.W.nsIn K mainGlobals "max" = some none)
    (x_cg : PySem.W.specialIn K (.builtin "object.__class__") "__get__" = some (some (.builtin "getset_descriptor.__get__")))
    (x_ct : PySem.W.takesIn K (.builtin "object.__class__") = some true)
    (x_caCs : PySem.W.findIn K (.ref Cs) "__class__" = some (some (.builtin "object.__class__")))
    (x_cmCs : PySem.W.mroIn K Cs (.type "object") = some true)
    : ∃ fd : FuncData, (∀ (s : Shared) (v : Value), BindsTo s fd ⟨[v], []⟩ [("_law_script", v)]) ∧ ∀ base : Heap, K.In base → base.Ns mainGlobals mg → FnOk l.prog w K mg base CX0 11 fa fd ["_law_script"] (spLaw K) := by
  have e := hfa.symm.trans (PySem.W.mg_of X G a28)
  cases e
  let Z : Cz := (⟨Cs, Cc, Ct, Ce, Co⟩ : Cz)
  have T : Txt K mg Z.s := ⟨⟨pg_Cs, hd_Cs, po_Cs, sa_Cs⟩, n_Cs_terms, n_Cs_number, PySem.W.mg_of X G g_Cs, PySem.W.mg_none_of X G z_len, PySem.W.mg_none_of X G z_sum, PySem.W.mg_none_of X G z_sorted, PySem.W.mg_none_of X G z_list, PySem.W.mg_none_of X G z_tuple, PySem.W.mg_none_of X G z_isinstance, PySem.W.mg_none_of X G z_range, PySem.W.mg_none_of X G z_abs, PySem.W.mg_none_of X G z_str, PySem.W.mg_none_of X G z_int, PySem.W.mg_none_of X G z_dict, x_caCs, x_cg, x_ct, x_cmCs, kit_ref K Cs, kit_tup K⟩
  have cl4 : ∀ j, j < 4 → Cls K (clsOf Z j) := fun j hj => match j, hj with
    | 0, _ => ⟨pg_Cc, hd_Cc, po_Cc, sa_Cc⟩
    | 1, _ => ⟨pg_Ct, hd_Ct, po_Ct, sa_Ct⟩
    | 2, _ => ⟨pg_Ce, hd_Ce, po_Ce, sa_Ce⟩
    | 3, _ => ⟨pg_Co, hd_Co, po_Co, sa_Co⟩
  have U : Txz K mg Z := ⟨cl4, n_Cc_one, n_Cc_sign, n_Cc_other, n_Ct_condition, n_Ce_conditions, n_Co_conditions, PySem.W.mg_of X G g_Cc, PySem.W.mg_of X G g_Ct, PySem.W.mg_of X G g_Ce, PySem.W.mg_of X G g_Co, PySem.W.mg_none_of X G z_all, PySem.W.mg_none_of X G z_any⟩
  have F1 := fun_mk (st := sInit) l1 c1 k1
  have b1 := F1.binds (ps := ["self", "terms", "number"]) fun _ _ _ _ _ _ us hl => match us, hl with | [_, _, _], _ => rfl
  have F2 := fun_mk (st := sValue) l2 c2 k2
  have b2 := F2.binds (ps := ["self", "numbers"]) fun _ _ _ _ _ _ us hl => match us, hl with | [_, _], _ => rfl
  have F3 := fun_mk (st := sSTold) l3 c3 k3
  have b3 := F3.binds (ps := ["self"]) fun _ _ _ _ _ _ us hl => match us, hl with | [_], _ => rfl
  have F4 := fun_mk (st := sCInit) l4 c4 k4
  have b4 := F4.binds (ps := ["self", "one", "sign", "other"]) fun _ _ _ _ _ _ us hl => match us, hl with | [_, _, _, _], _ => rfl
  have F5 := fun_mk (st := sTInit) l5 c5 k5
  have b5 := F5.binds (ps := ["self", "condition"]) fun _ _ _ _ _ _ us hl => match us, hl with | [_, _], _ => rfl
  have F6 := fun_mk (st := sVInit) l6 c6 k6
  have b6 := F6.binds (ps := ["self", "conditions"]) fun _ _ _ _ _ _ us hl => match us, hl with | [_, _], _ => rfl
  have F7 := fun_mk (st := sVInit) l7 c7 k7
  have b7 := F7.binds (ps := ["self", "conditions"]) fun _ _ _ _ _ _ us hl => match us, hl with | [_, _], _ => rfl
  have F8 := fun_mk (st := sCTold) l8 c8 k8
  have b8 := F8.binds (ps := ["self"]) fun _ _ _ _ _ _ us hl => match us, hl with | [_], _ => rfl
  have F9 := fun_mk (st := sTTold) l9 c9 k9
  have b9 := F9.binds (ps := ["self"]) fun _ _ _ _ _ _ us hl => match us, hl with | [_], _ => rfl
  have F10 := fun_mk (st := sETold) l10 c10 k10
  have b10 := F10.binds (ps := ["self"]) fun _ _ _ _ _ _ us hl => match us, hl with | [_], _ => rfl
  have F11 := fun_mk (st := sOTold) l11 c11 k11
  have b11 := F11.binds (ps := ["self"]) fun _ _ _ _ _ _ us hl => match us, hl with | [_], _ => rfl
  have F12 := fun_mk (st := sCholds) l12 c12 k12
  have b12 := F12.binds (ps := ["self", "numbers"]) fun _ _ _ _ _ _ us hl => match us, hl with | [_, _], _ => rfl
  have F13 := fun_mk (st := sTholds) l13 c13 k13
  have b13 := F13.binds (ps := ["self", "numbers"]) fun _ _ _ _ _ _ us hl => match us, hl with | [_, _], _ => rfl
  have F14 := fun_mk (st := sEholds) l14 c14 k14
  have b14 := F14.binds (ps := ["self", "numbers"]) fun _ _ _ _ _ _ us hl => match us, hl with | [_, _], _ => rfl
  have F15 := fun_mk (st := sOholds) l15 c15 k15
  have b15 := F15.binds (ps := ["self", "numbers"]) fun _ _ _ _ _ _ us hl => match us, hl with | [_, _], _ => rfl
  have F16 := fun_mk (st := sSumOf) l16 c16 k16
  have b16 := F16.binds (ps := ["pairs", "number"]) fun _ _ _ _ _ _ us hl => match us, hl with | [_, _], _ => rfl
  have F17 := fun_mk (st := sMixed) l17 c17 k17
  have b17 := F17.binds (ps := ["_law_cell", "_law_k"]) fun _ _ _ _ _ _ us hl => match us, hl with | [_, _], _ => rfl
  have F18 := fun_mk (st := sCellAt) l18 c18 k18
  have b18 := F18.binds (ps := ["_law_script", "_law_k"]) fun _ _ _ _ _ _ us hl => match us, hl with | [_, _], _ => rfl
  have F19 := fun_mk (st := sNext) l19 c19 k19
  have b19 := F19.binds (ps := ["_law_draw", "_law_size"]) fun _ _ _ _ _ _ us hl => match us, hl with | [_, _], _ => rfl
  have F20 := fun_mk (st := sCmps) l20 c20 k20
  have b20 := F20.binds (ps := ["one", "sign", "other"]) fun _ _ _ _ _ _ us hl => match us, hl with | [_, _, _], _ => rfl
  have F21 := fun_mk (st := sLSum) l21 c21 k21
  have b21 := F21.binds (ps := ["_law_draw", "_law_things"]) fun _ _ _ _ _ _ us hl => match us, hl with | [_, _], _ => rfl
  have F22 := fun_mk (st := sLCond) l22 c22 k22
  have b22 := F22.binds (ps := ["_law_draw", "_law_things", "_law_deep"]) fun _ _ _ _ _ _ us hl => match us, hl with | [_, _, _], _ => rfl
  have F23 := fun_mk (st := sLVal) l23 c23 k23
  have b23 := F23.binds (ps := ["_law_one", "_law_numbers"]) fun _ _ _ _ _ _ us hl => match us, hl with | [_, _], _ => rfl
  have F24 := fun_mk (st := sLHolds) l24 c24 k24
  have b24 := F24.binds (ps := ["_law_told", "_law_numbers"]) fun _ _ _ _ _ _ us hl => match us, hl with | [_, _], _ => rfl
  have F25 := fun_mk (st := sLRows) l25 c25 k25
  have b25 := F25.binds (ps := ["_law_draw"]) fun _ _ _ _ _ _ us hl => match us, hl with | [_], _ => rfl
  have F26 := fun_mk (st := sLDue) l26 c26 k26
  have b26 := F26.binds (ps := ["_law_ahead", "_law_numbers"]) fun _ _ _ _ _ _ us hl => match us, hl with | [_, _], _ => rfl
  have F27 := fun_mk (st := sAlong) l27 c27 k27
  have b27 := F27.binds (ps := ["ahead", "numbers"]) fun _ _ _ _ _ _ us hl => match us, hl with | [_, _], _ => rfl
  have F28 := fun_mk (st := sLaw) l28 c28 k28
  refine ⟨PySem.W.fnOf "law" "law" (defArgs sLaw) (defBody sLaw) (defScope sLaw) .none kV28 dc28 pm28 an28 cd28 ct28, fun s v => .of_eq rfl, fun base _ _ => ?_⟩
  have D_init : Mr l.prog w K mg base 1 Z.s ["self", "terms", "number"] (spInit Z.s) := ⟨f1, _, ok_init F1 T , ⟨mk_Cs, a1, i1, kc_Cs⟩, b1⟩
  have D_value : Mt l.prog w K mg base 1 Z.s "value" ["self", "numbers"] (spValue Z.s) := ⟨f2, _, ok_value F2 T , ⟨a2, i2, k2⟩, b2⟩
  have D_sum_of : Dn l.prog w K mg base 3 "sum_of" ["pairs", "number"] (spSumOf Z.s) := ⟨f16, _, ok_sum_of F16 T D_init, PySem.W.mg_of X G a16, k16, b16⟩
  have D_mixed : Dn l.prog w K mg base 1 "_law_mixed" ["_law_cell", "_law_k"] spMixed := ⟨f17, _, ok_mixed F17 T , PySem.W.mg_of X G a17, k17, b17⟩
  have D_cell_at : Dn l.prog w K mg base 2 "_law_cell_at" ["_law_script", "_law_k"] (spCell K) := ⟨f18, _, ok_cell_at F18 T D_mixed, PySem.W.mg_of X G a18, k18, b18⟩
  have D_next : Dn l.prog w K mg base 2 "_law_next" ["_law_draw", "_law_size"] spNext := ⟨f19, _, ok_next F19 T D_mixed, PySem.W.mg_of X G a19, k19, b19⟩
  have D_stold : Mt l.prog w K mg base 1 Z.s "told" ["self"] (spTold Z.s) := ⟨f3, _, ok_stold (n := 0) F3 T U , ⟨a3, i3, k3⟩, b3⟩
  have D_cinit : Mr l.prog w K mg base 1 Z.c ["self", "one", "sign", "other"] (spCInit Z) := ⟨f4, _, ok_cinit (n := 0) F4 T U , ⟨mk_Cc, a4, i4, kc_Cc⟩, b4⟩
  have D_tinit : Mr l.prog w K mg base 1 Z.t ["self", "condition"] (spTInit Z) := ⟨f5, _, ok_tinit (n := 0) F5 T U , ⟨mk_Ct, a5, i5, kc_Ct⟩, b5⟩
  have D_einitT : Mr l.prog w K mg base 1 Z.e ["self", "conditions"] (spVInitT Z.e) := ⟨f6, _, ok_einitT (n := 0) F6 T U , ⟨mk_Ce, a6, i6, kc_Ce⟩, b6⟩
  have D_oinitT : Mr l.prog w K mg base 1 Z.o ["self", "conditions"] (spVInitT Z.o) := ⟨f7, _, ok_oinitT (n := 0) F7 T U , ⟨mk_Co, a7, i7, kc_Co⟩, b7⟩
  have D_compares : Dn l.prog w K mg base 1 "compares" ["one", "sign", "other"] spCompares := ⟨f20, _, ok_compares (n := 0) F20 T U , PySem.W.mg_of X G a20, k20, b20⟩
  have D_s28 : Dn l.prog w K mg base 4 "_law_sum" ["_law_draw", "_law_things"] (sp28Sum Z) := ⟨f21, _, ok_s28 (n := 0) F21 T U D_next D_sum_of, PySem.W.mg_of X G a21, k21, b21⟩
  have D_lval : Dn l.prog w K mg base 1 "_law_value" ["_law_one", "_law_numbers"] spLVal := ⟨f23, _, ok_v28 (n := 0) F23 T U , PySem.W.mg_of X G a23, k23, b23⟩
  have AL_told := all_told (P := l.prog) (w := w) (base := base) (Z := Z) T U F8 ⟨a8, i8, k8⟩ b8 F9 ⟨a9, i9, k9⟩ b9 F10 ⟨a10, i10, k10⟩ b10 F11 ⟨a11, i11, k11⟩ b11 D_stold
  have AL_holds := all_holds (P := l.prog) (w := w) (base := base) (Z := Z) T U F12 ⟨a12, i12, k12⟩ b12 F13 ⟨a13, i13, k13⟩ b13 F14 ⟨a14, i14, k14⟩ b14 F15 ⟨a15, i15, k15⟩ b15 D_value D_compares
  have AL_c28 := all_c28 (P := l.prog) (w := w) (base := base) (Z := Z) T U F22 (PySem.W.mg_of X G a22) k22 b22 D_next D_s28 D_cinit D_tinit D_einitT D_oinitT
  have AL_h28 := all_h28 (P := l.prog) (w := w) (base := base) (Z := Z) T U F24 (PySem.W.mg_of X G a24) k24 b24 D_lval
  have D_r28 : Dn l.prog w K mg base 9 "_law_rows" ["_law_draw"] (sp28Rows Z) := ⟨f25, _, ok_r28 (n := 0) F25 T U D_next D_s28 (AL_c28 3), PySem.W.mg_of X G a25, k25, b25⟩
  have D_u28 : Dn l.prog w K mg base 9 "_law_due" ["_law_ahead", "_law_numbers"] (sp28Due Z) := ⟨f26, _, ok_u28 (n := 0) F26 T U D_lval (AL_h28 3) (AL_told 3), PySem.W.mg_of X G a26, k26, b26⟩
  have D_a28 : Dn l.prog w K mg base 9 "along" ["ahead", "numbers"] (sp28Along Z K) := ⟨f27, _, ok_a28 (n := 0) F27 T U D_value (AL_holds 3), PySem.W.mg_of X G a27, k27, b27⟩
  exact ok_law (n := 3) F28 T U D_cell_at D_next D_r28 D_u28 D_a28 (PySem.W.mg_none_of X G z_max)
theorem walk {l : PySem.W.OpenLaw} {q : Program} {loose : List Str} {XP : (Str → Option Value) → Heap → Prop} {YP : World → Heap → Prop} {d : DefRec} {K : Params → PySem.W.Frag} (hn : l.most = some 63) (hdf : d.params.defaults = [])
    (hY : ∀ (w : World) (h : Heap), YP w h → (K w.params).In h)
    (F : ∀ (w : World) (mg : Str → Option Value) (fa : Addr) (h : Heap), (K w.params).In h → h.Ns mainGlobals mg → mg d.name = some (.ref fa) →
      ∃ fd : FuncData, (∀ (s : Shared) (u : Value), BindsTo s fd ⟨[u], []⟩ [("_law_script", u)]) ∧ ∀ base : Heap, (K w.params).In base → base.Ns mainGlobals mg → FnOk l.prog w (K w.params) mg base CX0 11 fa fd ["_law_script"] (spLaw (K w.params))) :
    PySem.W.WalkO q loose XP YP l.row.toRowW d [] (fun f vs => PySem.call f vs) :=
  L2.walk_of (n := 63) (k := 11) (x := "_law_script") (CX := fun _ => CX0) (sp := fun w => spLaw (K w.params)) hn (by decide) hdf ⟨rfl, by decide, by decide⟩ hY F (fun _ _ a ns hl _ hS => ⟨a, ns, rfl, hS, hl, fun _ => rfl⟩) fun _ _ _ _ _ z => z
end Hw
open PySem PySem.W PyProof.Rows
def PySem.W.Fast.tw13238796561181129524 : Nat := 0
def PySem.W.Fast.tw4903782005885806256 : Nat := 0
def PySem.W.Fast.tw4093587392349589221 : Nat := 0
def PySem.W.Fast.tw11947060328482873318 : Nat := 0
def PySem.W.Fast.tw15650846342421367844 : Nat := 0
def PySem.W.Fast.tw13058443805244551131 : Nat := 0
def PySem.W.Fast.tw8476716224886575445 : Nat := 0
def PySem.W.Fast.tw14838144514201808802 : Nat := 0
def PySem.W.Fast.tw273320619683792252 : Nat := 0
def PySem.W.Fast.tw10311749193178018178 : Nat := 0
def PySem.W.Fast.tw13268725602089703225 : Nat := 0
def PySem.W.Fast.tw10335540084306177495 : Nat := 0
def PySem.W.Fast.tw9436725035295762219 : Nat := 0
def PySem.W.Fast.tw4800298422623691824 : Nat := 0
def PySem.W.Fast.tw6385140954289658513 : Nat := 0
def PySem.W.Fast.tw1279490046613943800 : Nat := 0
def PySem.W.Fast.tw10726659855698694570 : Nat := 0
def PySem.W.Fast.tw3258840832459781862 : Nat := 0
set_option maxRecDepth 100000 in
set_option maxHeartbeats 0 in
theorem PySem.Challenge.cw_holdwright_k28_along_holds : PySem.Challenge.rw_holdwright_k28_along.Holds := by
  w_on; o_law; k_head; (case hw => w_witness2)
  k_fill
  refine Hw.walk (l := PySem.Challenge.rw_holdwright_k28_along) rfl rfl (fun w h Y => PySem.W.kIn_of Y) ?F
  case F =>
    intro w mg fa h KX G hmg
    refine' Hw.all_mk KX G hmg ?a1 ?i1 ?l1 ?c1 ?k1 ?a2 ?i2 ?l2 ?c2 ?k2 ?a3 ?i3 ?l3 ?c3 ?k3 ?a4 ?i4 ?l4 ?c4 ?k4 ?a5 ?i5 ?l5 ?c5 ?k5 ?a6 ?i6 ?l6 ?c6 ?k6 ?a7 ?i7 ?l7 ?c7 ?k7 ?a8 ?i8 ?l8 ?c8 ?k8 ?a9 ?i9 ?l9 ?c9 ?k9 ?a10 ?i10 ?l10 ?c10 ?k10 ?a11 ?i11 ?l11 ?c11 ?k11 ?a12 ?i12 ?l12 ?c12 ?k12 ?a13 ?i13 ?l13 ?c13 ?k13 ?a14 ?i14 ?l14 ?c14 ?k14 ?a15 ?i15 ?l15 ?c15 ?k15 ?a16 ?l16 ?c16 ?k16 ?a17 ?l17 ?c17 ?k17 ?a18 ?l18 ?c18 ?k18 ?a19 ?l19 ?c19 ?k19 ?a20 ?l20 ?c20 ?k20 ?a21 ?l21 ?c21 ?k21 ?a22 ?l22 ?c22 ?k22 ?a23 ?l23 ?c23 ?k23 ?a24 ?l24 ?c24 ?k24 ?a25 ?l25 ?c25 ?k25 ?a26 ?l26 ?c26 ?k26 ?a27 ?l27 ?c27 ?k27 ?a28 ?l28 ?c28 ?k28 ?g_Cs ?pg_Cs ?hd_Cs ?po_Cs ?sa_Cs ?mk_Cs ?kc_Cs ?g_Cc ?pg_Cc ?hd_Cc ?po_Cc ?sa_Cc ?mk_Cc ?kc_Cc ?g_Ct ?pg_Ct ?hd_Ct ?po_Ct ?sa_Ct ?mk_Ct ?kc_Ct ?g_Ce ?pg_Ce ?hd_Ce ?po_Ce ?sa_Ce ?mk_Ce ?kc_Ce ?g_Co ?pg_Co ?hd_Co ?po_Co ?sa_Co ?mk_Co ?kc_Co ?n_Cs_terms ?n_Cs_number ?n_Cc_one ?n_Cc_sign ?n_Cc_other ?n_Ct_condition ?n_Ce_conditions ?n_Co_conditions ?z_len ?z_sum ?z_sorted ?z_list ?z_tuple ?z_isinstance ?z_range ?z_abs ?z_str ?z_int ?z_dict ?z_all ?z_any ?z_max ?x_cg ?x_ct ?x_caCs ?x_cmCs
    (case g_Cs => k_is)
    (case g_Cc => k_is)
    (case g_Ct => k_is)
    (case g_Ce => k_is)
    (case g_Co => k_is)
    (case a1 => k_is)
    (case i1 => k_is)
    (case l1 => k_is)
    (case c1 => k_is)
    (case k1 => k_is)
    (case a2 => k_is)
    (case i2 => k_is)
    (case l2 => k_is)
    (case c2 => k_is)
    (case k2 => k_is)
    (case a3 => k_is)
    (case i3 => k_is)
    (case l3 => k_is)
    (case c3 => k_is)
    (case k3 => k_is)
    (case a4 => k_is)
    (case i4 => k_is)
    (case l4 => k_is)
    (case c4 => k_is)
    (case k4 => k_is)
    (case a5 => k_is)
    (case i5 => k_is)
    (case l5 => k_is)
    (case c5 => k_is)
    (case k5 => k_is)
    (case a6 => k_is)
    (case i6 => k_is)
    (case l6 => k_is)
    (case c6 => k_is)
    (case k6 => k_is)
    (case a7 => k_is)
    (case i7 => k_is)
    (case l7 => k_is)
    (case c7 => k_is)
    (case k7 => k_is)
    (case a8 => k_is)
    (case i8 => k_is)
    (case l8 => k_is)
    (case c8 => k_is)
    (case k8 => k_is)
    (case a9 => k_is)
    (case i9 => k_is)
    (case l9 => k_is)
    (case c9 => k_is)
    (case k9 => k_is)
    (case a10 => k_is)
    (case i10 => k_is)
    (case l10 => k_is)
    (case c10 => k_is)
    (case k10 => k_is)
    (case a11 => k_is)
    (case i11 => k_is)
    (case l11 => k_is)
    (case c11 => k_is)
    (case k11 => k_is)
    (case a12 => k_is)
    (case i12 => k_is)
    (case l12 => k_is)
    (case c12 => k_is)
    (case k12 => k_is)
    (case a13 => k_is)
    (case i13 => k_is)
    (case l13 => k_is)
    (case c13 => k_is)
    (case k13 => k_is)
    (case a14 => k_is)
    (case i14 => k_is)
    (case l14 => k_is)
    (case c14 => k_is)
    (case k14 => k_is)
    (case a15 => k_is)
    (case i15 => k_is)
    (case l15 => k_is)
    (case c15 => k_is)
    (case k15 => k_is)
    (case a16 => k_is)
    (case l16 => k_is)
    (case c16 => k_is)
    (case k16 => k_is)
    (case a17 => k_is)
    (case l17 => k_is)
    (case c17 => k_is)
    (case k17 => k_is)
    (case a18 => k_is)
    (case l18 => k_is)
    (case c18 => k_is)
    (case k18 => k_is)
    (case a19 => k_is)
    (case l19 => k_is)
    (case c19 => k_is)
    (case k19 => k_is)
    (case a20 => k_is)
    (case l20 => k_is)
    (case c20 => k_is)
    (case k20 => k_is)
    (case a21 => k_is)
    (case l21 => k_is)
    (case c21 => k_is)
    (case k21 => k_is)
    (case a22 => k_is)
    (case l22 => k_is)
    (case c22 => k_is)
    (case k22 => k_is)
    (case a23 => k_is)
    (case l23 => k_is)
    (case c23 => k_is)
    (case k23 => k_is)
    (case a24 => k_is)
    (case l24 => k_is)
    (case c24 => k_is)
    (case k24 => k_is)
    (case a25 => k_is)
    (case l25 => k_is)
    (case c25 => k_is)
    (case k25 => k_is)
    (case a26 => k_is)
    (case l26 => k_is)
    (case c26 => k_is)
    (case k26 => k_is)
    (case a27 => k_is)
    (case l27 => k_is)
    (case c27 => k_is)
    (case k27 => k_is)
    (case a28 => k_is)
    (case l28 => k_is)
    (case c28 => k_is)
    (case k28 => k_is)
    (case pg_Cs => k_is)
    (case hd_Cs => k_is)
    (case po_Cs => k_is)
    (case sa_Cs => k_is)
    (case mk_Cs => k_is)
    (case kc_Cs => k_is)
    (case pg_Cc => k_is)
    (case hd_Cc => k_is)
    (case po_Cc => k_is)
    (case sa_Cc => k_is)
    (case mk_Cc => k_is)
    (case kc_Cc => k_is)
    (case pg_Ct => k_is)
    (case hd_Ct => k_is)
    (case po_Ct => k_is)
    (case sa_Ct => k_is)
    (case mk_Ct => k_is)
    (case kc_Ct => k_is)
    (case pg_Ce => k_is)
    (case hd_Ce => k_is)
    (case po_Ce => k_is)
    (case sa_Ce => k_is)
    (case mk_Ce => k_is)
    (case kc_Ce => k_is)
    (case pg_Co => k_is)
    (case hd_Co => k_is)
    (case po_Co => k_is)
    (case sa_Co => k_is)
    (case mk_Co => k_is)
    (case kc_Co => k_is)
    (case n_Cs_terms => k_is)
    (case n_Cs_number => k_is)
    (case n_Cc_one => k_is)
    (case n_Cc_sign => k_is)
    (case n_Cc_other => k_is)
    (case n_Ct_condition => k_is)
    (case n_Ce_conditions => k_is)
    (case n_Co_conditions => k_is)
    (case z_len => k_is)
    (case z_sum => k_is)
    (case z_sorted => k_is)
    (case z_list => k_is)
    (case z_tuple => k_is)
    (case z_isinstance => k_is)
    (case z_range => k_is)
    (case z_abs => k_is)
    (case z_str => k_is)
    (case z_int => k_is)
    (case z_dict => k_is)
    (case z_all => k_is)
    (case z_any => k_is)
    (case z_max => k_is)
    (case x_cg => k_is)
    (case x_ct => k_is)
    (case x_caCs => k_is)
    (case x_cmCs => k_is)
#print axioms PySem.Challenge.cw_holdwright_k28_along_holds
