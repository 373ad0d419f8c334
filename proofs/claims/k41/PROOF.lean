import PyProof.Rows.All
import Wide.All
import OpenK.AllK
import Wide.FinOn
import Lean
import PyProof.EqAt
import PyProof.EqKinds
import PyProof.TupleCall
import PySem.Spec
import PyProof.NeKinds
import KE.KDictList
import KE.KPairComp
import PyProof.DictWalks
import PyProof.FString5
import PyProof.StrLawsIn
import PyProof.Rows.SetFrom
import KE.KEqDict
import PyProof.Rows.DictMethods
import PySem.Challenge.RW_holdwright_k41_whole_shown
set_option Elab.async false
set_option linter.all false
set_option maxRecDepth 100000
namespace L2
open PySem PySem.Spec PyProof.Rows
abbrev Key := Sum Int Str
def keyIs : Key → Value → Bool
  | .inl k, v => Value.isInt k v
  | .inr x, v => Value.isStrOf x v
def keyH (w : World) : Key → Int
  | .inl k => hashInt k
  | .inr x => hashStr w x
theorem keyIs_shape : ∀ {k : Key} {v : Value}, keyIs k v = true → (∃ i t, k = Sum.inl i ∧ v = Value.int i t) ∨ (∃ x t, k = Sum.inr x ∧ v = Value.str x t)
  | .inl i, v, h => by
    obtain ⟨t, e⟩ := Value.isInt_shape (k := i) (v := v) h
    exact .inl ⟨i, t, rfl, e⟩
  | .inr x, v, h => by
    obtain ⟨t, e⟩ := Value.isStrOf_shape (x := x) (v := v) h
    exact .inr ⟨x, t, rfl, e⟩
theorem keyIs_int (i : Int) (t : Tok) : keyIs (.inl i) (.int i t) = true := by simp [keyIs, Value.isInt]
theorem keyIs_str (x : Str) (t : Tok) : keyIs (.inr x) (.str x t) = true := by simp [keyIs, Value.isStrOf]
theorem key_ll (a b : Int) : decide ((Sum.inl a : Key) = Sum.inl b) = (a == b) := by
  by_cases e : a = b
  · subst e; simp
  · have h : ¬ (Sum.inl a : Key) = Sum.inl b := fun q => e (Sum.inl.inj q)
    rw [decide_eq_false h]
    exact (beq_eq_false_iff_ne.mpr e).symm
theorem key_rr (a b : Str) : decide ((Sum.inr a : Key) = Sum.inr b) = decide (a = b) := by
  by_cases e : a = b
  · subst e; simp
  · have h : ¬ (Sum.inr a : Key) = Sum.inr b := fun q => e (Sum.inr.inj q)
    rw [decide_eq_false h, decide_eq_false e]
theorem key_lr (a : Int) (b : Str) : decide ((Sum.inl a : Key) = Sum.inr b) = false := decide_eq_false (fun q => nomatch q)
theorem key_rl (a : Str) (b : Int) : decide ((Sum.inr a : Key) = Sum.inl b) = false := decide_eq_false (fun q => nomatch q)
def mixKind (prog : Program) (w : World) : PySem.KeyKind prog w Key where
  is := keyIs
  hash := keyH w
  inj := fun v a b ha hb => by
    rcases keyIs_shape ha with ⟨i, t, rfl, rfl⟩ | ⟨x, t, rfl, rfl⟩
    · rcases keyIs_shape hb with ⟨j, u, rfl, e⟩ | ⟨y, u, rfl, e⟩
      · injection e with e1 _; rw [e1]
      · exact nomatch e
    · rcases keyIs_shape hb with ⟨j, u, rfl, e⟩ | ⟨y, u, rfl, e⟩
      · exact nomatch e
      · injection e with e1 _; rw [e1]
  byValue := fun k v h => by
    rcases keyIs_shape h with ⟨i, t, rfl, rfl⟩ | ⟨x, t, rfl, rfl⟩ <;> rfl
  pyHash := fun hv h => by
    rcases keyIs_shape hv with ⟨i, t, rfl, rfl⟩ | ⟨x, t, rfl, rfl⟩
    · exact wpAny_pyHash_int h
    · exact wpAny_pyHash_str h
  eqBool := fun hu hv h => by
    rcases keyIs_shape hu with ⟨i, t, rfl, rfl⟩ | ⟨x, t, rfl, rfl⟩
    · rcases keyIs_shape hv with ⟨j, u, rfl, rfl⟩ | ⟨y, u, rfl, rfl⟩
      · rw [key_ll] at h; exact wpAny_eqBool_int h
      · rw [key_lr] at h; exact SeqAt.EqAt.int_str i t y u _ _ _ _ h
    · rcases keyIs_shape hv with ⟨j, u, rfl, rfl⟩ | ⟨y, u, rfl, rfl⟩
      · rw [key_rl] at h; exact SeqAt.EqAt.str_int x t j u _ _ _ _ h
      · rw [key_rr] at h; exact wpAny_eqBool_str h
  «strs» := fun k x t v h => by
    rcases keyIs_shape h with ⟨i, u, rfl, e⟩ | ⟨y, u, rfl, e⟩
    · exact nomatch e
    · injection e with e1 _
      subst e1
      cases v <;> rfl
theorem mixKind_int (prog : Program) (w : World) (i : Int) (t : Tok) : (mixKind prog w).is (.inl i) (.int i t) = true := keyIs_int i t
theorem mixKind_str (prog : Program) (w : World) (x : Str) (t : Tok) : (mixKind prog w).is (.inr x) (.str x t) = true := keyIs_str x t
end L2
namespace L2
open PySem PySem.Spec PyProof.Rows
inductive V where
  | non | bl (b : Bool) | int (i : Int) | str (x : Str) | byt (b : Array UInt8) | flt (b : UInt64) | ref (a : Addr) | ty (n : String)
  deriving DecidableEq
def RelV : V → Value → Prop
  | .non, u => u = Value.none
  | .bl b, u => u = Value.bool b
  | .int i, u => ∃ t, u = Value.int i t
  | .str x, u => ∃ t, u = Value.str x t
  | .byt b, u => ∃ t, u = Value.bytes b t
  | .flt b, u => ∃ t, u = Value.float b t
  | .ref a, u => u = Value.ref a
  | .ty n, u => u = Value.type n
abbrev Vals : List V → List Value → Prop := Paired RelV
theorem Vals.length {xs : List V} {us : List Value} (r : Vals xs us) : xs.length = us.length := Paired.length r
theorem Vals.get : ∀ {xs : List V} {us : List Value} {i : Nat} {x : V}, Vals xs us → xs[i]? = some x → ∃ u, us[i]? = some u ∧ RelV x u
  | _, _, _, _, .nil, e => by simp at e
  | _, _, 0, _, .cons r _, e => by simp at e; subst e; exact ⟨_, rfl, r⟩
  | _, _, i + 1, x, .cons _ t, e => by
    obtain ⟨u, h1, h2⟩ := Vals.get (i := i) (x := x) t (by simpa using e)
    exact ⟨u, by simpa using h1, h2⟩
theorem Vals.set {x : V} {u : Value} (r : RelV x u) : ∀ {xs : List V} {us : List Value} (i : Nat), Vals xs us → Vals (xs.set i x) (us.set i u)
  | _, _, _, .nil => .nil
  | _, _, 0, .cons _ t => .cons r t
  | _, _, i + 1, .cons q t => .cons q (Vals.set r i t)
theorem Vals.append : ∀ {xs ys : List V} {us ws : List Value}, Vals xs us → Vals ys ws → Vals (xs ++ ys) (us ++ ws)
  | _, _, _, _, .nil, s => s
  | _, _, _, _, .cons r t, s => .cons r (Vals.append t s)
def RelO : Option V → Option Value → Prop
  | some v, some u => RelV v u
  | none, none => True
  | _, _ => False
def KV {κ : Type} : List (κ × V) → List (κ × Value) → Prop := Paired fun (p : κ × V) (q : κ × Value) => p.1 = q.1 ∧ RelV p.2 q.2
def kV : Key → V
  | .inl i => .int i
  | .inr x => .str x
inductive HO where
  | lst (xs : List V)
  | tup (xs : List V)
  | dK (kvs : List (Key × V)) | dT (kvs : List (List Key × V))
  | set (S : Int → Bool) (n : Nat)
  | ins (C dx : Addr) (fs : List (Str × V))
  | own (x : Addr)
  | xd (fs : List (Str × V))
  | met (f x : Addr)
  | rng (lo hi : Int)
  | frz (o : Obj) (u : HO)
  | tbl (ps : Array Value)
  | ext (φ : Heap → Prop)
abbrev Hp := Addr → Option HO
def upd (H : Hp) (a : Addr) (o : HO) : Hp := fun b => if b = a then some o else H b
theorem upd_same {H : Hp} {a : Addr} {o : HO} : upd H a o a = some o := by unfold upd; rw [if_pos rfl]
theorem upd_ne {H : Hp} {a b : Addr} {o : HO} (h : b ≠ a) : upd H a o b = H b := by unfold upd; rw [if_neg h]
theorem upd_upd {H : Hp} {a : Addr} {o u : HO} : upd (upd H a o) a u = upd H a u := by
  funext b; unfold upd; split <;> rfl
theorem ne_of {H : Hp} {a b : Addr} {o u : HO} (h : H a = some o) (h' : H b = some u) (d : o ≠ u) : a ≠ b := by
  intro e; subst e; rw [h] at h'; exact d (Option.some.inj h')
theorem ne_of_none {H : Hp} {a b : Addr} {o : HO} (h : H a = some o) (h' : H b = none) : a ≠ b := by
  intro e; subst e; rw [h] at h'; cases h'
section
variable (P : Program) (w : World)
def ObjOk (H : Hp) (h : Heap) (a : Addr) : HO → Prop
  | .lst xs => xs.length ≤ sizeLine ∧ ∃ (its : List Value) (n : Nat), Vals xs its ∧ h.get? a = some { cls := .type "list", data := .seq its.toArray n }
  | .tup xs => xs.length ≤ sizeLine ∧ ∃ its : List Value, Vals xs its ∧ IsTup h a its.toArray
  | .dK kvs => kvs.length ≤ sizeLine ∧ (a == sysModules) = false ∧ ∃ vs, KV kvs vs ∧ h.DictOf (mixKind P w) a vs
  | .dT kvs => kvs.length ≤ sizeLine ∧ (a == sysModules) = false ∧ ∃ xs : List (List Key × Addr × Value),
      Paired (fun (p : List Key × V) (q : List Key × Addr × Value) => p.1 = q.1 ∧ H q.2.1 = some (.tup (p.1.map kV)) ∧ RelV p.2 q.2.2) kvs xs ∧
      ∃ o es ep, h.get? a = some o ∧ o.ExactDict ∧ o.data = .dict es ep ∧ es.toList = xs.map (entryOfKey (tupleKind (mixKind P w))) ∧ (xs.map (·.1)).Nodup
  | .set S n => h.SetOf (intKind P w) a S n
  | .ins C dx fs => H dx = some (.own a) ∧ fs.length ≤ 1000 ∧ dx ≠ a ∧ h.get? a = some (PySem.W.instObj C dx) ∧
      ∃ mA, h.Ns1 dx mA ∧ (∀ f, RelO (fs.lookup f) (mA f)) ∧ PySem.Within mA (fs.map (·.1))
  | .own _ => ∃ o, h.get? a = some o
  | .xd fs => ∃ mA, h.Ns1 a mA ∧ ∀ f, RelO (fs.lookup f) (mA f)
  | .rng lo hi => ∃ t u v, h.get? a = some { cls := .type "range", data := .fields #[.int lo t, .int hi u, .int 1 v] }
  | .frz o u => h.get? a = some o ∧ ObjOk H h a u
  | .tbl ps => h.get? a = some { cls := .none, data := .fields ps }
  | .met f x => h.get? a = some (PySem.W.methodObj (.ref f) (.ref x))
  | .ext φ => φ h ∧ (∃ o, h.get? a = some o) ∧ ∀ h1 h2 : Heap, φ h1 → (∀ o, h1.get? a = some o → h2.get? a = some o) → φ h2
def HOk (H : Hp) (h : Heap) : Prop := ∀ a o, H a = some o → ObjOk P w H h a o
end
section
variable {P : Program} {w : World} {H H' : Hp} {h h' : Heap} {a : Addr} {o : HO}
theorem ObjOk.lt (x : ObjOk P w H h a o) : a < h.objs.size := by
  cases o with
  | lst xs => obtain ⟨_, _, _, _, e⟩ := x; exact Heap.lt_size e
  | tup xs => obtain ⟨_, _, _, p⟩ := x; exact p.lt
  | dK kvs => obtain ⟨_, _, _, _, o, _, _, e, _⟩ := x; exact Heap.lt_size e
  | dT kvs => obtain ⟨_, _, _, _, o, _, _, e, _⟩ := x; exact Heap.lt_size e
  | set S n => obtain ⟨o, _, _, _, e, _⟩ := x; exact Heap.lt_size e
  | ins C dx fs => obtain ⟨_, _, _, e, _⟩ := x; exact Heap.lt_size e
  | own y => obtain ⟨_, e⟩ := x; exact Heap.lt_size e
  | xd fs => obtain ⟨_, ⟨_, _, _, e, _⟩, _⟩ := x; exact Heap.lt_size e
  | rng lo hi => obtain ⟨_, _, _, e⟩ := x; exact Heap.lt_size e
  | frz ob u => obtain ⟨e, _⟩ := x; exact Heap.lt_size e
  | tbl ps => exact Heap.lt_size (show h.get? a = some _ from x)
  | met f y => exact Heap.lt_size (show h.get? a = some _ from x)
  | ext φ => obtain ⟨_, ⟨_, e⟩, _⟩ := x; exact Heap.lt_size e
theorem Paired.mapP {α β : Type} {F G : α → β → Prop} : ∀ {l₁ : List α} {l₂ : List β}, Paired F l₁ l₂ → (∀ a b, F a b → G a b) → Paired G l₁ l₂
  | _, _, .nil, _ => .nil
  | _, _, .cons r t, f => .cons (f _ _ r) (Paired.mapP t f)
theorem ObjOk.stay (x : ObjOk P w H h a o) (k : ∀ b u, (b = a ∨ H b = some (.own a)) → h.get? b = some u → h'.get? b = some u)
    (ho : ∀ b, H b = some (.own a) → H' b = some (.own a)) (ht : ∀ b xs, H b = some (.tup xs) → H' b = some (.tup xs)) : ObjOk P w H' h' a o := by
  induction o with
  | lst xs => obtain ⟨z, its, n, r, e⟩ := x; exact ⟨z, its, n, r, k _ _ (.inl rfl) e⟩
  | tup xs => obtain ⟨z, its, r, ob, e, c⟩ := x; exact ⟨z, its, r, ob, k _ _ (.inl rfl) e, c⟩
  | dK kvs => obtain ⟨z, y, vs, r, ob, es, ep, e, c⟩ := x; exact ⟨z, y, vs, r, ob, es, ep, k _ _ (.inl rfl) e, c⟩
  | dT kvs =>
    obtain ⟨z, y, xs, r, ob, es, ep, e, c⟩ := x
    exact ⟨z, y, xs, Paired.mapP r fun p q z => ⟨z.1, ht _ _ z.2.1, z.2.2⟩, ob, es, ep, k _ _ (.inl rfl) e, c⟩
  | set S n => obtain ⟨ob, es, ep, t, e, c⟩ := x; exact ⟨ob, es, ep, t, k _ _ (.inl rfl) e, c⟩
  | ins C dx fs =>
    obtain ⟨d, z, ne, e, mA, ⟨od, es, ep, e2, c⟩, r⟩ := x
    exact ⟨ho _ d, z, ne, k _ _ (.inl rfl) e, mA, ⟨od, es, ep, k _ _ (.inr d) e2, c⟩, r⟩
  | own y => obtain ⟨ob, e⟩ := x; exact ⟨ob, k _ _ (.inl rfl) e⟩
  | xd fs => obtain ⟨mA, ⟨od, es, ep, e, c⟩, r⟩ := x; exact ⟨mA, ⟨od, es, ep, k _ _ (.inl rfl) e, c⟩, r⟩
  | rng lo hi => obtain ⟨t, u, v, e⟩ := x; exact ⟨t, u, v, k _ _ (.inl rfl) e⟩
  | frz ob u ih => obtain ⟨e, q⟩ := x; exact ⟨k _ _ (.inl rfl) e, ih q⟩
  | tbl ps =>
    have e : h.get? a = some { cls := .none, data := .fields ps } := x
    show h'.get? a = some { cls := .none, data := .fields ps }
    exact k a _ (.inl rfl) e
  | met f y =>
    have e : h.get? a = some (PySem.W.methodObj (.ref f) (.ref y)) := x
    show h'.get? a = some (PySem.W.methodObj (.ref f) (.ref y))
    exact k a _ (.inl rfl) e
  | ext φ => obtain ⟨p, ⟨o, e⟩, st⟩ := x; exact ⟨st _ _ p fun o q => k _ _ (.inl rfl) q, ⟨o, k _ _ (.inl rfl) e⟩, st⟩
theorem HOk.lt (x : HOk P w H h) (e : H a = some o) : a < h.objs.size := (x a o e).lt
theorem HOk.fresh (x : HOk P w H h) (e : h.objs.size ≤ a) : H a = none := by
  cases q : H a with
  | none => rfl
  | some u => exact absurd (Nat.lt_of_lt_of_le (x.lt q) e) (Nat.lt_irrefl _)
theorem HOk.kept (x : HOk P w H h) (k : ∀ b u, h.get? b = some u → h'.get? b = some u) : HOk P w H h' := fun a o e =>
  (x a o e).stay (fun b u _ q => k b u q) (fun _ q => q) fun _ _ q => q
theorem HOk.laid (x : HOk P w H h) (k : ∀ b u, h.get? b = some u → h'.get? b = some u) (hp : h.objs.size ≤ a) (new : ObjOk P w (upd H a o) h' a o) : HOk P w (upd H a o) h' := fun b u e => by
  have hn := x.fresh hp
  by_cases hb : b = a
  · subst hb; rw [upd_same] at e; cases e; exact new
  · rw [upd_ne hb] at e
    exact (x b u e).stay (fun c v _ q => k c v q) (fun c q => by rw [upd_ne (ne_of_none q hn)]; exact q) fun c xs q => by rw [upd_ne (ne_of_none q hn)]; exact q
end
def Rd (H : Hp) (a : Addr) (u : HO) : Prop := H a = some u ∨ ∃ o, H a = some (.frz o u)
theorem Rd.ok {P : Program} {w : World} {H : Hp} {h : Heap} {a : Addr} {u : HO} (r : Rd H a u) (x : HOk P w H h) : ObjOk P w H h a u := by
  rcases r with r | ⟨o, r⟩
  · exact x a u r
  · obtain ⟨_, q⟩ := x a _ r
    exact q
def Mut : Option HO → Prop
  | some (.lst _) => True
  | some (.dK _) => True
  | some (.dT _) => True
  | some (.set _ _) => True
  | some (.ins _ _ _) => True
  | some (.ext _) => True
  | _ => False
section
variable {P : Program} {w : World} {H : Hp} {h h' : Heap} {x e : Addr} {o' : HO}
theorem HOk.write (ok : HOk P w H h) (mu : Mut (H x)) (he : e = x ∨ H e = some (.own x)) (k : ∀ b u, b ≠ e → h.get? b = some u → h'.get? b = some u) (heo : ∃ u, h'.get? e = some u)
    (new : ObjOk P w (upd H x o') h' x o') : HOk P w (upd H x o') h' := fun b u q => by
  have nown : ∀ c y, H c = some (.own y) → c ≠ x := fun c y r z => by subst z; rw [r] at mu; exact mu
  have ntup : ∀ c xs, H c = some (.tup xs) → c ≠ x := fun c xs r z => by subst z; rw [r] at mu; exact mu
  by_cases hb : b = x
  · subst hb; rw [upd_same] at q; cases q; exact new
  · rw [upd_ne hb] at q
    by_cases hbe : b = e
    · have q' : H b = some (.own x) := by
        rcases he with z | z
        · exact absurd (hbe.trans z) hb
        · rw [hbe]; exact z
      rw [q] at q'; cases q'
      obtain ⟨v, hv⟩ := heo
      exact ⟨v, by rw [hbe]; exact hv⟩
    · refine (ok b u q).stay (fun c v hc r => k c v ?_ r) (fun c r => by rw [upd_ne (nown c b r)]; exact r) fun c xs r => by rw [upd_ne (ntup c xs r)]; exact r
      rcases hc with rfl | hc
      · exact hbe
      · rintro rfl
        rcases he with z | z
        · exact nown c b hc z
        · rw [hc] at z; cases z; exact hb rfl
end
structure Un (fs ex : List Addr) (H H' : Hp) (h h' : Heap) : Prop where
  keep : ∀ b o, h.get? b = some o → H b = none → b ∉ fs → b ∉ ex → h'.get? b = some o
  slot : ∀ b o, h.get? b = some o → H b = none → b ∈ fs → b ∉ ex → ∃ sl, h'.get? b = some { o with slots := sl }
  free : ∀ b o, h.get? b = some o → H b = none → b ∉ ex → H' b = none
  there : ∀ b o, h.get? b = some o → b ∉ ex → ∃ o', h'.get? b = some o'
  tups : ∀ b xs, H b = some (.tup xs) → H' b = some (.tup xs)
  frzs : ∀ b o u, H b = some (.frz o u) → H' b = some (.frz o u)
  tbls : ∀ b ps, H b = some (.tbl ps) → ∃ more, H' b = some (.tbl (ps ++ more))
section
variable {fs fs' ex ex' : List Addr} {H H1 H2 : Hp} {h h1 h2 h' : Heap} {a x e : Addr} {o : HO}
theorem Un.any (u : Un fs ex H H1 h h1) {b : Addr} {ob : Obj} (q : h.get? b = some ob) (n : H b = none) (hx : b ∉ ex) : ∃ sl, h1.get? b = some { ob with slots := sl } := by
  by_cases hb : b ∈ fs
  · exact u.slot b ob q n hb hx
  · exact ⟨ob.slots, u.keep b ob q n hb hx⟩
theorem Un.kept (k : ∀ b u, h.get? b = some u → h'.get? b = some u) : Un fs ex H H h h' :=
  ⟨fun b ob q _ _ _ => k b ob q, fun b ob q _ _ _ => ⟨ob.slots, k b ob q⟩, fun _ _ _ n _ => n, fun b ob q _ => ⟨ob, k b ob q⟩, fun _ _ q => q, fun _ _ _ q => q, fun _ ps q => ⟨#[], by rw [q]; simp⟩⟩
theorem Un.refl : Un fs ex H H h h := Un.kept fun _ _ q => q
theorem Un.laid (k : ∀ b u, h.get? b = some u → h'.get? b = some u) (hp : h.objs.size ≤ a) (hn : H a = none) : Un fs ex H (upd H a o) h h' where
  keep := fun b u q _ _ _ => k b u q
  slot := fun b u q _ _ _ => ⟨u.slots, k b u q⟩
  free := fun b u q n _ => by rw [upd_ne (Nat.ne_of_lt (Nat.lt_of_lt_of_le (Heap.lt_size q) hp))]; exact n
  there := fun b u q _ => ⟨u, k b u q⟩
  tups := fun b xs q => by rw [upd_ne (ne_of_none q hn)]; exact q
  frzs := fun b u xs q => by rw [upd_ne (ne_of_none q hn)]; exact q
  tbls := fun b ps q => ⟨#[], by rw [upd_ne (ne_of_none q hn), q]; simp⟩
theorem Un.write (mu : Mut (H x)) (he : e = x ∨ H e = some (.own x)) (k : ∀ b u, b ≠ e → h.get? b = some u → h'.get? b = some u) (heo : ∃ u, h'.get? e = some u) : Un fs ex H (upd H x o) h h' := by
  have hx : ∀ b, H b = none → b ≠ x := fun b n z => by subst z; rw [n] at mu; exact mu
  have hb : ∀ b, H b = none → b ≠ e := fun b n z => by
    subst z
    rcases he with r | r
    · exact hx b n r
    · rw [n] at r; cases r
  have hm : ∀ b u, H b = some u → ¬ Mut (some u) → b ≠ x := fun b u q nm z => by subst z; rw [q] at mu; exact nm mu
  refine ⟨fun b u q n _ _ => k b u (hb b n) q, fun b u q n _ _ => ⟨u.slots, k b u (hb b n) q⟩, fun b u q n _ => by rw [upd_ne (hx b n)]; exact n, fun b u q _ => ?_,
    fun b xs q => by rw [upd_ne (hm b _ q fun z => z)]; exact q, fun b u xs q => by rw [upd_ne (hm b _ q fun z => z)]; exact q, fun b ps q => ⟨#[], by rw [upd_ne (hm b _ q fun z => z), q]; simp⟩⟩
  by_cases hbe : b = e
  · subst hbe; exact heo
  · exact ⟨u, k b u hbe q⟩
end
def trk (h : Heap) (H : Hp) : List Addr := (List.range h.objs.size).filter fun a => (H a).isSome
def hidT (h : Heap) (H : Hp) : Heap := PySem.W.hideAll h (trk h H)
theorem hidT_size (h : Heap) (H : Hp) : (hidT h H).objs.size = h.objs.size := PySem.W.hideAll_size _ _
theorem hidT_get {h : Heap} {H : Hp} {b : Addr} {o : Obj} (e : h.get? b = some o) (n : H b = none) : (hidT h H).get? b = some o :=
  PySem.W.hideAll_get _ e fun hm => by
    have q : (H b).isSome = true := (List.mem_filter.mp hm).2
    rw [n] at q; simp at q
theorem of_hidT {h : Heap} {H : Hp} {b : Addr} {o : Obj} (e : (hidT h H).get? b = some o) : h.get? b = some o ∧ H b = none := by
  have e' : h.get? b = some o := PySem.W.of_hideAll (trk h H) e
  refine ⟨e', ?_⟩
  cases q : H b with
  | none => rfl
  | some x =>
    have hm : b ∈ trk h H := List.mem_filter.mpr ⟨List.mem_range.mpr (Heap.lt_size e'), by simp [q]⟩
    have z : (hidT h H).get? b = none := PySem.W.hideAll_none (trk h H) hm
    rw [z] at e; cases e
def allNews (g h : Heap) (L : Addr) : List (Addr × Obj) := (List.range h.objs.size).filterMap fun a => if a = L ∨ (g.get? a).isSome = true then none else (h.get? a).map fun o => (a, o)
def rest (g h : Heap) (L d : Addr) : List (Addr × Obj) := (allNews g h L).filter fun p => decide (p.1 ≠ d)
end L2
namespace L2
open PySem PySem.Spec PyProof.Rows
structure Mod (K : PySem.W.Frag) (mg : Str → Option Value) (base : Heap) : Prop where
  kin : K.In base
  glob : base.Ns mainGlobals mg
  blt : ∃ mb, base.Ns builtinsNs mb ∧ ∀ x : Str, x ≠ "__name__" → mb x = bootBuiltins x
  nolimit : base.NoLimit
structure Cx where
  prog : Program
  w : World
  K : PySem.W.Frag
  mg : Str → Option Value
  base : Heap
  A : Around
  N : List Str
  s₀ : Shared
  H₀ : Hp
  env : Env
  outer : List Env
  stack : List Env
  ex : List Addr
  fn : Str → Bool
  calm : Bool
  pn : List (Addr × Obj)
  xe : Value → Shared → Prop
def frs (l : List Env) : List Addr := l.filterMap (·.frame)
abbrev Cx.fs (X : Cx) : List Addr := frs X.outer
def Vis (sc : Scope) (x : Str) : Prop := sc.names.lookup x = some .local ∨ sc.names.lookup x = some .cell ∨ sc.names.lookup x = some .free
def Loc (sc : Scope) (x : Str) : Prop := sc.names.lookup x = some .local ∨ sc.names.lookup x = some .cell
def Look (env : Env) (h : Heap) (m : Str → Option Value) (x : Str) (u : Value) : Prop :=
  (env.kindOf x = some .local ∧ m x = some u) ∨ ((env.kindOf x = some .cell ∨ env.kindOf x = some .free) ∧ ∃ c, env.cells.lookup x = some c ∧ h.IsCell c (some u))
structure Cx.Ok (X : Cx) : Prop where
  mod : Mod X.K X.mg X.base
  kind : X.env.scope.kind = .function
  glob : X.env.globals = mainGlobals
  blt : X.env.builtins = builtinsNs
  above : X.s₀.heap.objs.size ≤ X.env.locals
  inj : ∀ x y c, X.env.cells.lookup x = some c → X.env.cells.lookup y = some c → x = y
  has : ∀ x, (X.env.kindOf x = some .cell ∨ X.env.kindOf x = some .free) → ∃ c, X.env.cells.lookup x = some c
  cab : ∀ x c, X.fn x = true → X.env.cells.lookup x = some c → X.s₀.heap.objs.size ≤ c
  hd : X.calm = true → X.A.handled = none
  frames : X.A.frames = some X.stack
  stk : X.stack = X.outer ∨ (X.stack = X.env :: X.outer ∧ X.env.frame = some X.env.locals)
  exf : ∀ b ∈ X.ex, b ≠ X.env.locals ∧ ∀ x c, X.env.cells.lookup x = some c → c ≠ b
  bs : ∀ b o, X.base.get? b = some o → X.s₀.heap.get? b = some o ∧ X.H₀ b = none
  bsz : X.base.objs.size ≤ X.s₀.heap.objs.size
  noex : ∀ b o, X.base.get? b = some o → b ∉ X.ex
  exfs : ∀ b ∈ X.ex, b ∉ X.fs
  funs : X.s₀.heap.FunFrames X.base X.outer
  frf : ∀ b ∈ X.fs, X.H₀ b = none
structure Inv (X : Cx) (pins : List (Addr × Obj)) (σ : List (Option V)) (H : Hp) (s : Shared) : Prop where
  ok : X.Ok
  os : s.os = X.s₀.os
  bare : AllBare s.gens
  base : Un X.fs X.ex X.H₀ H X.s₀.heap s.heap
  loc : ∃ m, s.heap.Ns X.env.locals m ∧ ∀ (i : Nat) (x : Str) (v : V), X.N[i]? = some x → σ[i]? = some (some v) → Vis X.env.scope x → ∃ u, RelV v u ∧ Look X.env s.heap m x u
  cell : ∀ x c, X.env.cells.lookup x = some c → ∃ v, s.heap.IsCell c v
  free : H X.env.locals = none
  freeC : ∀ x c, X.env.cells.lookup x = some c → H c = none
  pin : ∀ p ∈ X.pn ++ pins, s.heap.get? p.1 = some p.2 ∧ H p.1 = none ∧ p.1 ≠ X.env.locals ∧ p.1 ∉ X.fs ∧ ∀ v, p.2.data ≠ .cell v
  hok : HOk X.prog X.w H s.heap
  len : σ.length = X.N.length
section
variable {X : Cx} {pins : List (Addr × Obj)} {σ : List (Option V)} {H H' : Hp} {s : Shared} {h' : Heap}
theorem Cx.Ok.nofr (ok : X.Ok) {b : Addr} {o : Obj} (e : X.base.get? b = some o) : b ∉ X.fs := fun hb => by
  have := (ok.funs.mem hb).1
  rw [e] at this; cases this
theorem Inv.bs (I : Inv X pins σ H s) : ∀ b o, X.base.get? b = some o → s.heap.get? b = some o ∧ H b = none := fun b o e =>
  ⟨I.base.keep b o (I.ok.bs b o e).1 (I.ok.bs b o e).2 (I.ok.nofr e) (I.ok.noex b o e), I.base.free b o (I.ok.bs b o e).1 (I.ok.bs b o e).2 (I.ok.noex b o e)⟩
theorem Inv.bk (I : Inv X pins σ H s) : ∀ b o, X.base.get? b = some o → s.heap.get? b = some o := fun b o e => (I.bs b o e).1
theorem Inv.mod (I : Inv X pins σ H s) : Mod X.K X.mg X.base := I.ok.mod
theorem Inv.kIn (I : Inv X pins σ H s) : X.K.In s.heap := I.ok.mod.kin.keeps I.bk
theorem Inv.lt (I : Inv X pins σ H s) : X.env.locals < s.heap.objs.size := let ⟨_, hn, _⟩ := I.loc; hn.lt
theorem Inv.sz (I : Inv X pins σ H s) : X.s₀.heap.objs.size ≤ s.heap.objs.size := Nat.le_trans I.ok.above (Nat.le_of_lt I.lt)
theorem Inv.nofs (I : Inv X pins σ H s) {a : Addr} (h : s.heap.objs.size ≤ a) : a ∉ X.fs := fun hb => by
  obtain ⟨_, o, ho, _⟩ := I.ok.funs.mem hb
  exact absurd (Nat.lt_of_lt_of_le (Heap.lt_size ho) (Nat.le_trans I.sz h)) (Nat.lt_irrefl _)
theorem Inv.cne (I : Inv X pins σ H s) : ∀ x c, X.env.cells.lookup x = some c → c ≠ X.env.locals := fun x c e z => by
  obtain ⟨v, o, ho, hd⟩ := I.cell x c e
  obtain ⟨m, ⟨o', es, ep, ho', hd', _⟩, _⟩ := I.loc
  rw [z, ho'] at ho; cases ho; rw [hd'] at hd; cases hd
theorem Inv.funs (I : Inv X pins σ H s) : s.heap.FunFrames X.base X.outer := by
  have all : ∀ (l : List Env), (∀ b ∈ frs l, b ∈ X.fs) → X.s₀.heap.FunFrames X.base l → s.heap.FunFrames X.base l := by
    intro l
    induction l with
    | nil => intro _ _; trivial
    | cons env r ih =>
      intro hs hl
      obtain ⟨hk, ⟨L, o, hf, hn, ho, hd⟩, hr⟩ := hl
      have hL : L ∈ X.fs := hs L (by unfold frs; rw [List.filterMap_cons, hf]; exact List.mem_cons_self)
      obtain ⟨sl, e⟩ := I.base.slot L o ho (I.ok.frf L hL) hL fun z => I.ok.exfs L z hL
      exact ⟨hk, ⟨L, _, hf, hn, e, hd⟩, ih (fun b hb => hs b (by unfold frs; rw [List.filterMap_cons, hf]; exact List.mem_cons_of_mem _ hb)) hr⟩
  exact all X.outer (fun _ hb => hb) I.ok.funs
theorem Inv.stack (I : Inv X pins σ H s) : s.heap.FunFrames X.base X.stack := by
  rcases I.ok.stk with e | ⟨e, hf⟩
  · rw [e]; exact I.funs
  · rw [e]
    obtain ⟨m, hn, _⟩ := I.loc
    refine .cons (by rw [I.ok.kind]; decide) hf hn ?_ I.funs
    exact Heap.get?_none_of_le (Nat.le_trans I.ok.bsz I.ok.above)
theorem Inv.stkSub (I : Inv X pins σ H s) : ∀ b ∈ frs X.stack, b ∈ X.env.locals :: X.fs := fun b hb => by
  rcases I.ok.stk with e | ⟨e, hf⟩
  · rw [e] at hb; exact List.mem_cons_of_mem _ hb
  · rw [e] at hb
    unfold frs at hb
    rw [List.filterMap_cons, hf] at hb
    exact hb
theorem Inv.stkFree (I : Inv X pins σ H s) : ∀ b ∈ frs X.stack, H b = none := fun b hb => by
  rcases List.mem_cons.mp (I.stkSub b hb) with e | hb
  · rw [e]; exact I.free
  · obtain ⟨_, o, ho, _⟩ := I.ok.funs.mem hb
    exact I.base.free b o ho (I.ok.frf b hb) fun z => I.ok.exfs b z hb
theorem Inv.step {g' : Array GenState} {t' : Nat} {d' : Drawn} {ch : List Addr} (I : Inv X pins σ H s)
    (hch : ∀ b ∈ ch, (b ∈ X.ex ∨ X.s₀.heap.objs.size ≤ b) ∧ b ≠ X.env.locals ∧ (∀ x c, X.env.cells.lookup x = some c → c ≠ b) ∧ ∀ p ∈ X.pn ++ pins, p.1 ≠ b)
    (keep : ∀ b o, b ≠ X.env.locals → b ∉ X.fs → b ∉ ch → s.heap.get? b = some o → H b = none → h'.get? b = some o)
    (slot : ∀ b o, b ≠ X.env.locals → b ∈ X.fs → b ∉ ch → s.heap.get? b = some o → H b = none → ∃ sl, h'.get? b = some { o with slots := sl }) (free : ∀ b o, b ∉ ch → s.heap.get? b = some o → H b = none → H' b = none)
    (there : ∀ b o, b ∉ ch → s.heap.get? b = some o → ∃ o', h'.get? b = some o')
    (tups : ∀ b xs, H b = some (.tup xs) → H' b = some (.tup xs)) (frzs : ∀ b o u, H b = some (.frz o u) → H' b = some (.frz o u)) (tbls : ∀ b ps, H b = some (.tbl ps) → ∃ more, H' b = some (.tbl (ps ++ more)))
    (ns : ∀ m, s.heap.Ns X.env.locals m → h'.Ns X.env.locals m) (hok : HOk X.prog X.w H' h') (hg : AllBare g') :
    Inv X pins σ H' { s with heap := h', gens := g', drawn := d', toks := t' } := by
  have neL : ∀ b o, X.s₀.heap.get? b = some o → b ≠ X.env.locals := fun b o e => Nat.ne_of_lt (Nat.lt_of_lt_of_le (Heap.lt_size e) I.ok.above)
  have neC : ∀ b o, X.s₀.heap.get? b = some o → b ∉ X.ex → b ∉ ch := fun b o e hx hb => by
    rcases (hch b hb).1 with z | z
    · exact hx z
    · exact absurd (Nat.lt_of_lt_of_le (Heap.lt_size e) z) (Nat.lt_irrefl _)
  have cellK : ∀ x c, X.env.cells.lookup x = some c → ∀ v, s.heap.IsCell c v → h'.IsCell c v := fun x c e v ⟨o, ho, hd⟩ => by
    have nch : c ∉ ch := fun z => (hch c z).2.2.1 x c e rfl
    by_cases hc : c ∈ X.fs
    · obtain ⟨sl, q⟩ := slot c o (I.cne x c e) hc nch ho (I.freeC x c e)
      exact ⟨_, q, hd⟩
    · exact ⟨o, keep c o (I.cne x c e) hc nch ho (I.freeC x c e), hd⟩
  refine ⟨I.ok, I.os, hg, ⟨fun b o e n hb hx => ?_, fun b o e n hb hx => ?_, fun b o e n hx => ?_, fun b o e hx => ?_, fun b xs e => tups b xs (I.base.tups b xs e), fun b o xs e => frzs b o xs (I.base.frzs b o xs e), fun b ps e => ?_⟩, ?_, fun x c e => ?_, ?_, fun x c e => ?_, fun p hp => ?_, hok, I.len⟩
  · exact keep b o (neL b o e) hb (neC b o e hx) (I.base.keep b o e n hb hx) (I.base.free b o e n hx)
  · obtain ⟨sl, e1⟩ := I.base.slot b o e n hb hx
    obtain ⟨sl', e2⟩ := slot b _ (neL b o e) hb (neC b o e hx) e1 (I.base.free b o e n hx)
    exact ⟨sl', e2⟩
  · obtain ⟨o', e1⟩ := I.base.there b o e hx
    exact free b o' (neC b o e hx) e1 (I.base.free b o e n hx)
  · obtain ⟨o', e1⟩ := I.base.there b o e hx
    exact there b o' (neC b o e hx) e1
  · obtain ⟨m1, e1⟩ := I.base.tbls b ps e
    obtain ⟨m2, e2⟩ := tbls b _ e1
    exact ⟨m1 ++ m2, by rw [e2, Array.append_assoc]⟩
  · obtain ⟨m, hn, hl⟩ := I.loc
    refine ⟨m, ns m hn, fun i x v e1 e2 e3 => ?_⟩
    obtain ⟨u, r, l⟩ := hl i x v e1 e2 e3
    refine ⟨u, r, ?_⟩
    rcases l with l | ⟨k, c, e, z⟩
    · exact .inl l
    · exact .inr ⟨k, c, e, cellK x c e _ z⟩
  · obtain ⟨v, z⟩ := I.cell x c e
    exact ⟨v, cellK x c e v z⟩
  · obtain ⟨m, ⟨o, _, _, ho, _⟩, _⟩ := I.loc
    exact free _ o (fun z => (hch _ z).2.1 rfl) ho I.free
  · obtain ⟨v, o, ho, hd⟩ := I.cell x c e
    exact free c o (fun z => (hch c z).2.2.1 x c e rfl) ho (I.freeC x c e)
  · obtain ⟨e, n, ne, nf, d⟩ := I.pin p hp
    have nch : p.1 ∉ ch := fun z => (hch p.1 z).2.2.2 p hp rfl
    exact ⟨keep p.1 p.2 ne nf nch e n, free p.1 p.2 nch e n, ne, nf, d⟩
theorem Inv.un {t' : Nat} (I : Inv X pins σ H s) (u : Un X.fs [] H H' s.heap h') (hok : HOk X.prog X.w H' h') : Inv X pins σ H' { s with heap := h', toks := t' } := by
  obtain ⟨m, ⟨o, es, ep, ho, r⟩, _⟩ := id I.loc
  obtain ⟨sl, hL⟩ := u.any ho I.free (by simp)
  exact I.step (g' := s.gens) (d' := s.drawn) (ch := []) (fun _ z => nomatch z) (fun b o _ hb _ e n => u.keep b o e n hb (by simp)) (fun b o _ hb _ e n => u.slot b o e n hb (by simp)) (fun b o _ e n => u.free b o e n (by simp)) (fun b o _ e => u.there b o e (by simp)) u.tups u.frzs u.tbls (fun m' hm => by
    obtain ⟨o', es', ep', ho', r'⟩ := hm
    rw [ho] at ho'; cases ho'
    exact ⟨_, es', ep', hL, r'⟩) hok I.bare
theorem Inv.call {g' : Array GenState} {t' : Nat} {d' : Drawn} {ch : List Addr} (I : Inv X pins σ H s) (u : Un (frs X.stack) ch H H' s.heap h') (hok : HOk X.prog X.w H' h') (hg : AllBare g')
    (hch : ∀ b ∈ ch, (b ∈ X.ex ∨ X.s₀.heap.objs.size ≤ b) ∧ b ≠ X.env.locals ∧ (∀ x c, X.env.cells.lookup x = some c → c ≠ b) ∧ ∀ p ∈ X.pn ++ pins, p.1 ≠ b) :
    Inv X pins σ H' { s with heap := h', gens := g', drawn := d', toks := t' } := by
  obtain ⟨m, ⟨o, es, ep, ho, r⟩, _⟩ := id I.loc
  obtain ⟨sl, hL⟩ := u.any ho I.free fun z => (hch _ z).2.1 rfl
  exact I.step (ch := ch) hch (fun b o hL hb hc e n => u.keep b o e n (fun z => (List.mem_cons.mp (I.stkSub b z)).elim hL hb) hc) (fun b o _ _ hc e n => u.any e n hc) (fun b o hc e n => u.free b o e n hc) (fun b o hc e => u.there b o e hc) u.tups u.frzs u.tbls (fun m' hm => by
    obtain ⟨o', es', ep', ho', r'⟩ := hm
    rw [ho] at ho'; cases ho'
    exact ⟨_, es', ep', hL, r'⟩) hok hg
theorem Inv.turned {t' : Nat} {it : Addr} (I : Inv X pins σ H s) (k : ∀ b o, b ≠ it → s.heap.get? b = some o → h'.get? b = some o) (hn : H it = none) (hL : it ≠ X.env.locals)
    (h1 : it ∈ X.ex ∨ X.s₀.heap.objs.size ≤ it) (h2 : ∀ x c, X.env.cells.lookup x = some c → c ≠ it) (h3 : ∀ p ∈ X.pn ++ pins, p.1 ≠ it) : Inv X pins σ H { s with heap := h', toks := t' } := by
  have nit : ∀ b u, H b = some u → b ≠ it := fun b u e z => by rw [z, hn] at e; cases e
  refine I.step (g' := s.gens) (d' := s.drawn) (ch := [it]) (fun b hb => ?_) (fun b o _ _ hc e _ => k b o (fun z => hc (by simp [z])) e) (fun b o _ _ hc e _ => ⟨o.slots, k b o (fun z => hc (by simp [z])) e⟩) (fun _ _ _ _ n => n)
    (fun b o hc e => ⟨o, k b o (fun z => hc (by simp [z])) e⟩) (fun _ _ e => e) (fun _ _ _ e => e) (fun b ps e => ⟨#[], by rw [e]; simp⟩) (fun m hm => ?_) (fun b u e => ?_) I.bare
  · have e : b = it := by simpa using hb
    subst e
    exact ⟨h1, hL, h2, h3⟩
  · obtain ⟨o, es, ep, ho, r⟩ := hm
    exact ⟨o, es, ep, k _ o (Ne.symm hL) ho, r⟩
  · refine (I.hok b u e).stay (fun c v hc q => k c v ?_ q) (fun _ q => q) fun _ _ q => q
    rcases hc with z | z
    · rw [z]; exact nit b u e
    · exact nit c _ z
theorem Inv.tok (I : Inv X pins σ H s) (t : Nat) : Inv X pins σ H { s with toks := t } := I.un (h' := s.heap) (t' := t) Un.refl I.hok
theorem Inv.kept {t' : Nat} (I : Inv X pins σ H s) (k : ∀ b u, s.heap.get? b = some u → h'.get? b = some u) : Inv X pins σ H { s with heap := h', toks := t' } := I.un (Un.kept k) (I.hok.kept k)
theorem Inv.laid {a : Addr} {o : HO} {t' : Nat} (I : Inv X pins σ H s) (k : ∀ b u, s.heap.get? b = some u → h'.get? b = some u) (hp : s.heap.objs.size ≤ a) (new : ObjOk X.prog X.w (upd H a o) h' a o) :
    Inv X pins σ (upd H a o) { s with heap := h', toks := t' } := I.un (Un.laid k hp (I.hok.fresh hp)) (I.hok.laid k hp new)
theorem Inv.write {x e : Addr} {o : HO} {t' : Nat} (I : Inv X pins σ H s) (mu : Mut (H x)) (he : e = x ∨ H e = some (.own x)) (k : ∀ b u, b ≠ e → s.heap.get? b = some u → h'.get? b = some u) (heo : ∃ u, h'.get? e = some u)
    (new : ObjOk X.prog X.w (upd H x o) h' x o) : Inv X pins σ (upd H x o) { s with heap := h', toks := t' } := I.un (Un.write mu he k heo) (I.hok.write mu he k heo new)
theorem Inv.weak {σ' : List (Option V)} (I : Inv X pins σ H s) (hl : σ'.length = σ.length) (w : ∀ (i : Nat) v, σ'[i]? = some (some v) → σ[i]? = some (some v)) : Inv X pins σ' H s :=
  ⟨I.ok, I.os, I.bare, I.base, let ⟨m, hn, hl'⟩ := I.loc; ⟨m, hn, fun i x v e1 e2 e3 => hl' i x v e1 (w i v e2) e3⟩, I.cell, I.free, I.freeC, I.pin, I.hok, hl.trans I.len⟩
theorem Inv.pins_of {pins' : List (Addr × Obj)} (I : Inv X pins σ H s) (h : ∀ p ∈ pins', s.heap.get? p.1 = some p.2 ∧ H p.1 = none ∧ p.1 ≠ X.env.locals ∧ p.1 ∉ X.fs ∧ ∀ v, p.2.data ≠ .cell v) : Inv X pins' σ H s :=
  ⟨I.ok, I.os, I.bare, I.base, I.loc, I.cell, I.free, I.freeC, fun p hp => (List.mem_append.mp hp).elim (fun z => I.pin p (List.mem_append_left _ z)) (h p), I.hok, I.len⟩
theorem nodup_ix {N : List Str} (hN : N.Nodup) {i j : Nat} {x : Str} (a : N[i]? = some x) (b : N[j]? = some x) : i = j := by
  obtain ⟨h1, e1⟩ := List.getElem?_eq_some_iff.mp a
  obtain ⟨h2, e2⟩ := List.getElem?_eq_some_iff.mp b
  exact (List.getElem_inj hN).mp (e1.trans e2.symm)
theorem store_ok2 {M : Model} {A : Around} {E : Value → Shared → Prop} {i : Nat} {x : Str} {v : V} {u : Value} {Q : Unit → Shared → Prop} (I : Inv X pins σ H s) (hN : X.N.Nodup) (hi : X.N[i]? = some x) (hx : Loc X.env.scope x) (r : RelV v u)
    (h : ∀ s', Inv X pins (σ.set i (some v)) H s' → (∃ a, Heap.SameBut a s.heap s'.heap ∧ (a = X.env.locals ∨ X.env.cells.lookup x = some a)) → Q () s') (hf : X.fn x = true ∨ X.env.scope.names.lookup x = some .local := by first | exact .inl rfl | exact .inr rfl | assumption) : wpAny M A (storeName X.env x u) Q E s := by
  obtain ⟨m, hn, hl⟩ := id I.loc
  have hcls : (X.env.scope.kind == .class || (X.env.scope.kind == .module && X.env.locals != X.env.globals)) = false := by rw [I.ok.kind]; rfl
  have hiσ : i < σ.length := by rw [I.len]; exact (List.getElem?_eq_some_iff.mp hi).1
  have cne := I.cne
  have tracked : ∀ {a : Addr} {h' : Heap}, (∃ o, s.heap.get? a = some o ∧ H a = none) → Heap.SameBut a s.heap h' → HOk X.prog X.w H h' := fun {a h'} ha hs b ob e => by
    obtain ⟨_, _, hfree⟩ := ha
    refine (I.hok b ob e).stay (fun c w' hc q => (hs.2 c ?_).trans q) (fun _ q => q) fun _ _ q => q
    rintro rfl
    rcases hc with rfl | hc
    · rw [hfree] at e; cases e
    · rw [hfree] at hc; cases hc
  rcases hx with hk | hk
  · refine wpAny_storeName_local hk hn (fun h' hn' hs => ?_) hcls
    obtain ⟨oL, _, _, hoL, _⟩ := id hn
    refine h _ ⟨I.ok, I.os, I.bare, ⟨fun b o e n hb hx => ?_, fun b o e n hb hx => ?_, I.base.free, fun b o e hx => ?_, I.base.tups, I.base.frzs, I.base.tbls⟩, ⟨_, hn', fun j y v' e1 e2 e3 => ?_⟩, fun y c e => ?_, I.free, I.freeC, fun p hp => ?_, tracked ⟨oL, hoL, I.free⟩ hs, by simpa using I.len⟩ ⟨_, hs, .inl rfl⟩
    · exact (hs.2 b (Nat.ne_of_lt (Nat.lt_of_lt_of_le (Heap.lt_size e) I.ok.above))).trans (I.base.keep b o e n hb hx)
    · obtain ⟨sl, e1⟩ := I.base.slot b o e n hb hx
      exact ⟨sl, (hs.2 b (Nat.ne_of_lt (Nat.lt_of_lt_of_le (Heap.lt_size e) I.ok.above))).trans e1⟩
    · obtain ⟨o', e1⟩ := I.base.there b o e hx
      exact ⟨o', (hs.2 b (Nat.ne_of_lt (Nat.lt_of_lt_of_le (Heap.lt_size e) I.ok.above))).trans e1⟩
    · by_cases hj : j = i
      · subst hj
        rw [hi] at e1; cases e1
        rw [List.getElem?_set_self hiσ] at e2
        cases e2
        exact ⟨u, r, .inl ⟨hk, by simp⟩⟩
      · rw [List.getElem?_set_ne (Ne.symm hj)] at e2
        obtain ⟨u', r', q⟩ := hl j y v' e1 e2 e3
        refine ⟨u', r', ?_⟩
        rcases q with ⟨k, e⟩ | ⟨k, c, e, z⟩
        · refine .inl ⟨k, ?_⟩
          have : y ≠ x := fun e => hj (nodup_ix hN e1 (e ▸ hi))
          simp [this, e]
        · exact .inr ⟨k, c, e, z.sameBut hs (cne y c e)⟩
    · obtain ⟨w', z⟩ := I.cell y c e
      exact ⟨w', z.sameBut hs (cne y c e)⟩
    · obtain ⟨e, n, ne, nf, d⟩ := I.pin p hp
      exact ⟨(hs.2 p.1 ne).trans e, n, ne, nf, d⟩
  · have hfn : X.fn x = true := by
      rcases hf with z | z
      · exact z
      · rw [z] at hk; cases hk
    obtain ⟨c, hc⟩ := I.ok.has x (.inl hk)
    obtain ⟨w', z⟩ := I.cell x c hc
    refine wpAny_storeName_cell I.ok.kind hk hc z (fun h' hc' hs => ?_)
    obtain ⟨oc, hoc, hocd⟩ := id z
    refine h { s with heap := h' } ⟨I.ok, I.os, I.bare, ⟨fun b o e n hb hx => ?_, fun b o e n hb hx => ?_, I.base.free, fun b o e hx => ?_, I.base.tups, I.base.frzs, I.base.tbls⟩, ⟨m, hn.sameBut hs (Ne.symm (cne x c hc)), fun j y v' e1 e2 e3 => ?_⟩, fun y c' e => ?_, I.free, I.freeC, fun p hp => ?_, tracked ⟨oc, hoc, I.freeC x c hc⟩ hs, by simpa using I.len⟩ ⟨c, hs, .inr hc⟩
    · exact (hs.2 b (Nat.ne_of_lt (Nat.lt_of_lt_of_le (Heap.lt_size e) (I.ok.cab x c hfn hc)))).trans (I.base.keep b o e n hb hx)
    · obtain ⟨sl, e1⟩ := I.base.slot b o e n hb hx
      exact ⟨sl, (hs.2 b (Nat.ne_of_lt (Nat.lt_of_lt_of_le (Heap.lt_size e) (I.ok.cab x c hfn hc)))).trans e1⟩
    · obtain ⟨o', e1⟩ := I.base.there b o e hx
      exact ⟨o', (hs.2 b (Nat.ne_of_lt (Nat.lt_of_lt_of_le (Heap.lt_size e) (I.ok.cab x c hfn hc)))).trans e1⟩
    · by_cases hj : j = i
      · subst hj
        rw [hi] at e1; cases e1
        rw [List.getElem?_set_self hiσ] at e2
        cases e2
        exact ⟨u, r, .inr ⟨.inl hk, c, hc, hc'⟩⟩
      · rw [List.getElem?_set_ne (Ne.symm hj)] at e2
        obtain ⟨u', r', q⟩ := hl j y v' e1 e2 e3
        refine ⟨u', r', ?_⟩
        rcases q with q | ⟨k, c', e, z'⟩
        · exact .inl q
        · refine .inr ⟨k, c', e, z'.sameBut hs ?_⟩
          rintro rfl
          exact hj (nodup_ix hN e1 (I.ok.inj _ _ _ e hc ▸ hi))
    · by_cases hcc : c' = c
      · subst hcc; exact ⟨_, hc'⟩
      · obtain ⟨w2, z2⟩ := I.cell y c' e
        exact ⟨w2, z2.sameBut hs hcc⟩
    · obtain ⟨e, n, ne, nf, d⟩ := I.pin p hp
      refine ⟨(hs.2 p.1 ?_).trans e, n, ne, nf, d⟩
      intro q
      rw [q, hoc] at e
      have q' : oc = p.2 := Option.some.inj e
      exact d w' (by rw [← q']; exact hocd)
theorem store_ok {M : Model} {A : Around} {E : Value → Shared → Prop} {i : Nat} {x : Str} {v : V} {u : Value} {Q : Unit → Shared → Prop} (I : Inv X pins σ H s) (hN : X.N.Nodup) (hi : X.N[i]? = some x) (hx : Loc X.env.scope x) (r : RelV v u)
    (h : ∀ s', Inv X pins (σ.set i (some v)) H s' → Q () s') (hf : X.fn x = true ∨ X.env.scope.names.lookup x = some .local := by first | exact .inl rfl | exact .inr rfl | assumption) : wpAny M A (storeName X.env x u) Q E s :=
  store_ok2 I hN hi hx r (fun s' I' _ => h s' I') hf
theorem Inv.call' {s' : Shared} {ch : List Addr} (I : Inv X pins σ H s) (ho : s'.os = s.os) (u : Un (frs X.stack) ch H H' s.heap s'.heap) (hok : HOk X.prog X.w H' s'.heap) (hg : AllBare s'.gens)
    (hch : ∀ b ∈ ch, (b ∈ X.ex ∨ X.s₀.heap.objs.size ≤ b) ∧ b ≠ X.env.locals ∧ (∀ x c, X.env.cells.lookup x = some c → c ≠ b) ∧ ∀ p ∈ X.pn ++ pins, p.1 ≠ b) : Inv X pins σ H' s' := by
  obtain ⟨h', g', d', t', o'⟩ := s'
  have e : o' = s.os := ho
  subst e
  exact I.call (g' := g') (t' := t') (d' := d') u hok hg hch
end
abbrev XK := Value → Option Addr → Hp → Prop
abbrev St := List (Option V)
abbrev VK := V → Hp → Prop
abbrev TE := St → Hp → VK → Prop
abbrev TT := St → Hp → (Bool → Hp → Prop) → Prop
abbrev TA := St → Hp → (List V → Hp → Prop) → Prop
structure Ends where
  nx : St → Hp → Prop
  rt : VK
  bk : St → Hp → Prop := fun _ _ => False
  ct : St → Hp → Prop := fun _ _ => False
abbrev TS := Ends → St → Hp → Prop
def EP (X : Cx) (pins : List (Addr × Obj)) (σ : St) (Q : VK) (u : Value) (s' : Shared) : Prop := ∃ v H', Inv X pins σ H' s' ∧ RelV v u ∧ Q v H'
def TP (X : Cx) (pins : List (Addr × Obj)) (σ : St) (Q : Bool → Hp → Prop) (b : Bool) (s' : Shared) : Prop := ∃ H', Inv X pins σ H' s' ∧ Q b H'
def AP (X : Cx) (pins : List (Addr × Obj)) (σ : St) (Q : List V → Hp → Prop) (us : List Value) (s' : Shared) : Prop := ∃ vs H', Inv X pins σ H' s' ∧ Vals vs us ∧ Q vs H'
def SP (X : Cx) (pins : List (Addr × Obj)) (D : Ends) (f : Flow) (s' : Shared) : Prop :=
  match f with
  | .next => ∃ σ' H', Inv X pins σ' H' s' ∧ D.nx σ' H'
  | .brk => ∃ σ' H', Inv X pins σ' H' s' ∧ D.bk σ' H'
  | .cont => ∃ σ' H', Inv X pins σ' H' s' ∧ D.ct σ' H'
  | .ret u => ∃ v σ' H', Inv X pins σ' H' s' ∧ RelV v u ∧ D.rt v H'
def PE (X : Cx) (e : Expr) (t : TE) : Prop :=
  ∀ (pins : List (Addr × Obj)) (s : Shared) (σ : St) (H : Hp) (Q : VK), Inv X pins σ H s → t σ H Q → wpAny (model X.prog X.w) X.A (eval e X.env) (EP X pins σ Q) X.xe s
def PT (X : Cx) (e : Expr) (t : TT) : Prop :=
  ∀ (pins : List (Addr × Obj)) (s : Shared) (σ : St) (H : Hp) (Q : Bool → Hp → Prop), Inv X pins σ H s → t σ H Q → wpAny (model X.prog X.w) X.A (isTrue e X.env (eval e X.env)) (TP X pins σ Q) X.xe s
def PW (X : Cx) (e : Expr) (t : TT) : Prop :=
  ∀ (whole : Sem Value) (pins : List (Addr × Obj)) (s : Shared) (σ : St) (H : Hp) (Q : Bool → Hp → Prop), Inv X pins σ H s → t σ H Q → wpAny (model X.prog X.w) X.A (isTrue e X.env whole) (TP X pins σ Q) X.xe s
theorem PW.pt {X : Cx} {e : Expr} {t : TT} (h : PW X e t) : PT X e t := h _
def PA (X : Cx) (es : List Expr) (t : TA) : Prop :=
  ∀ (pos : Pos) (pins : List (Addr × Obj)) (s : Shared) (σ : St) (H : Hp) (Q : List V → Hp → Prop), Inv X pins σ H s → t σ H Q → wpAny (model X.prog X.w) X.A (spliced (backTo pos (starEach es X.env))) (AP X pins σ Q) X.xe s
def PS (X : Cx) (st : Stmt) (t : TS) : Prop :=
  ∀ (pins : List (Addr × Obj)) (s : Shared) (σ : St) (H : Hp) (D : Ends), Inv X pins σ H s → t D σ H → wpAny (model X.prog X.w) X.A (exec st X.env) (SP X pins D) X.xe s
def PSs (X : Cx) (st : List Stmt) (t : TS) : Prop :=
  ∀ (pins : List (Addr × Obj)) (s : Shared) (σ : St) (H : Hp) (D : Ends), Inv X pins σ H s → t D σ H → wpAny (model X.prog X.w) X.A (execs st X.env) (SP X pins D) X.xe s
theorem thn {α : Type} {t : Sem α} {Q Q' : α → Shared → Prop} {M : Model} {A : Around} {E : Value → Shared → Prop} {s : Shared} (h : wpAny M A t Q E s) (hQ : ∀ a s, Q a s → Q' a s) : wpAny M A t Q' E s := wpAny_mono h hQ fun _ _ x => x
end L2
namespace L2
open PySem PySem.Spec PyProof.Rows
section
variable {X : Cx}
def tVar (i : Nat) : TE := fun σ H Q => ∃ v, σ[i]? = some (some v) ∧ Q v H
def tC (v : V) : TE := fun _ H Q => Q v H
theorem pe_var {i : Nat} {x : Str} {pos : Pos} (hN : X.N[i]? = some x) (hv : Vis X.env.scope x) (hd : (x == ("__debug__" : Str)) = false := by decide) (hcd : (x == ("__classdict__" : Str)) = false := by decide) : PE X (.Name x pos) (tVar i) := by
  intro pins s σ H Q I h
  obtain ⟨v, e, h⟩ := h
  obtain ⟨m, hn, hl⟩ := I.loc
  obtain ⟨u, r, l⟩ := hl i x v hN e hv
  have fin : EP X pins σ Q u s := ⟨v, H, I, r, h⟩
  rcases l with ⟨hk, hm⟩ | ⟨hk, c, hc, hcell⟩
  · exact wpAny_Name (wpAny_loadName_local I.ok.kind hk hn hm fin) hd
  · rcases hk with hk | hk
    · exact wpAny_Name (wpAny_loadName_cell I.ok.kind hk hc hcell fin) hd
    · exact wpAny_Name (wpAny_loadName_free I.ok.kind hk hc hcell fin hcd) hd
theorem pe_int {i j pos} : PE X (.Constant (.int i) j pos) (tC (.int i)) := fun _ _ _ H _ I h => wpAny_Constant_int ⟨.int i, H, I.tok _, ⟨_, rfl⟩, h⟩
theorem pe_bl {b j pos} : PE X (.Constant (.bool b) j pos) (tC (.bl b)) := fun _ _ _ H _ I h => Constant_bool ⟨.bl b, H, I, rfl, h⟩
theorem pe_non {j pos} : PE X (.Constant .none j pos) (tC .non) := fun _ _ _ H _ I h => Constant_none ⟨.non, H, I, rfl, h⟩
theorem pe_str {x j pos} : PE X (.Constant (.str x) j pos) (tC (.str x)) := fun _ _ _ H _ I h => Calls.Constant_str ⟨.str x, H, I.tok _, ⟨_, rfl⟩, h⟩
def Gl (X : Cx) (x : Str) : Prop := X.env.kindOf x = some .globalImplicit
theorem ld_glob {E : Value → Shared → Prop} {pins : List (Addr × Obj)} {s : Shared} {σ : St} {H : Hp} {x : Str} {u : Value} {pos : Pos} {Q : Value → Shared → Prop} (I : Inv X pins σ H s) (hg : Gl X x) (hm : X.mg x = some u) (h : Q u s)
    (hd : (x == ("__debug__" : Str)) = false := by decide) : wpAny (model X.prog X.w) X.A (eval (.Name x pos) X.env) Q E s :=
  Calls.Name_function_global I.ok.kind hg (Calls.loadGlobal_global (by rw [I.ok.glob]; exact I.mod.glob.keeps I.bk) hm h) hd
theorem ld_blt {E : Value → Shared → Prop} {pins : List (Addr × Obj)} {s : Shared} {σ : St} {H : Hp} {x : Str} {u : Value} {pos : Pos} {Q : Value → Shared → Prop} (I : Inv X pins σ H s) (hg : Gl X x) (hm : X.mg x = none) (hv : bootBuiltins x = some u) (h : Q u s)
    (hn : x ≠ "__name__" := by decide) (hd : (x == ("__debug__" : Str)) = false := by decide) : wpAny (model X.prog X.w) X.A (eval (.Name x pos) X.env) Q E s := by
  obtain ⟨mb, h1, h2⟩ := I.mod.blt
  exact Calls.Name_function_global I.ok.kind hg (Calls.loadGlobal_builtin (by rw [I.ok.glob]; exact I.mod.glob.keeps I.bk) hm (by rw [I.ok.blt]; exact h1.keeps I.bk) ((h2 x hn).trans hv) h) hd
theorem pe_glob {x : Str} {v : V} {u : Value} {pos : Pos} (hg : Gl X x) (hm : X.mg x = some u) (r : RelV v u) (hd : (x == ("__debug__" : Str)) = false := by decide) : PE X (.Name x pos) (tC v) :=
  fun _ _ _ H _ I h => ld_glob I hg hm ⟨v, H, I, r, h⟩ hd
theorem pe_bltn {x : Str} {v : V} {u : Value} {pos : Pos} (hg : Gl X x) (hm : X.mg x = none) (hv : bootBuiltins x = some u) (r : RelV v u) (hn : x ≠ "__name__" := by decide) (hd : (x == ("__debug__" : Str)) = false := by decide) : PE X (.Name x pos) (tC v) :=
  fun _ _ _ H _ I h => ld_blt I hg hm hv ⟨v, H, I, r, h⟩ hn hd
variable {a b : Expr} {ta tb : TE} {pos : Pos}
def PC (X : Cx) (op : CmpOp) (a b : Expr) (t : TE) : Prop :=
  ∀ (pins : List (Addr × Obj)) (s : Shared) (σ : St) (H : Hp) (Q : VK), Inv X pins σ H s → t σ H Q →
    wpAny (model X.prog X.w) X.A (eval a X.env) (fun v s₁ => wpAny (model X.prog X.w) X.A (eval b X.env) (fun u s₂ => wpAny (model X.prog X.w) X.A (compareOp op v u) (EP X pins σ Q) X.xe s₂) X.xe s₁) X.xe s
theorem nobehind (b : Expr) {op : CmpOp} (h : op ≠ .In) (h2 : op ≠ .NotIn) : behindInMarks op b = false := by
  have e1 : (op == CmpOp.In) = false := by cases op <;> first | rfl | exact absurd rfl h
  have e2 : (op == CmpOp.NotIn) = false := by cases op <;> first | rfl | exact absurd rfl h2
  cases b <;> simp [behindInMarks, e1, e2]
def tB (t : TE) : TT := fun σ H Q => t σ H fun x H1 => ∃ c, x = .bl c ∧ Q c H1
theorem pt_cmp {op : CmpOp} {t : TE} (h : PC X op a b t) (h1 : behindInMarks op b = false := by first | exact nobehind _ (by decide) (by decide) | rfl) : PT X (.Compare a [op] [b] pos) (tB t) := by
  intro pins s σ H Q I hw
  refine wpAny_isTrue_Compare1 (thn (h pins s σ H _ I hw) fun v s1 h1 => thn h1 fun u s2 h2 => thn h2 fun c s3 ⟨x, H1, I1, r1, q1⟩ => ?_) h1
  obtain ⟨d, rfl, q⟩ := q1
  cases r1
  exact wpAny_truthy_bool ⟨H1, I1, q⟩
theorem pt_val {e : Expr} {t : TE} (h : PE X e t) (he : ∀ whole, isTrue e X.env whole = (do let v ← whole; standAt e.pos; holding [v] (truthy v)) := by intro _; rfl) : PT X e (tB t) := by
  intro pins s σ H Q I hw
  refine isTrue_plain (thn (h pins s σ H _ I hw) fun v s1 ⟨x, H1, I1, r1, q1⟩ => ?_) (he _)
  obtain ⟨d, rfl, q⟩ := q1
  cases r1
  exact wpAny_truthy_bool ⟨H1, I1, q⟩
variable {tA tB' : TT} {rest : List Expr}
def tAnd (t u : TT) : TT := fun σ H Q => t σ H fun c H1 => if c = true then u σ H1 Q else Q false H1
def tOr (t u : TT) : TT := fun σ H Q => t σ H fun c H1 => if c = true then Q true H1 else u σ H1 Q
def tNot (t : TT) : TT := fun σ H Q => t σ H fun c H1 => Q (!c) H1
theorem pw_and1 (ha : PT X a tA) : PW X (.BoolOp .And [a] pos) tA := by
  intro wh pins s σ H Q I h
  refine isTrue_and (thn (ha pins s σ H Q I h) fun c s1 e => ?_)
  cases c with
  | true => exact isTrue_and_nil e
  | false => exact e
theorem pw_or1 (ha : PT X a tA) : PW X (.BoolOp .Or [a] pos) tA := by
  intro wh pins s σ H Q I h
  refine isTrue_or (thn (ha pins s σ H Q I h) fun c s1 e => ?_)
  cases c with
  | false => exact isTrue_or_nil e
  | true => exact e
theorem pw_and (ha : PT X a tA) (hb : PW X (.BoolOp .And (b :: rest) pos) tB') : PW X (.BoolOp .And (a :: b :: rest) pos) (tAnd tA tB') := by
  intro wh pins s σ H Q I h
  refine isTrue_and (thn (ha pins s σ H _ I h) fun c s1 ⟨H1, I1, q1⟩ => ?_)
  cases c with
  | true => exact hb wh pins s1 σ H1 Q I1 q1
  | false => exact ⟨H1, I1, q1⟩
theorem pw_or (ha : PT X a tA) (hb : PW X (.BoolOp .Or (b :: rest) pos) tB') : PW X (.BoolOp .Or (a :: b :: rest) pos) (tOr tA tB') := by
  intro wh pins s σ H Q I h
  refine isTrue_or (thn (ha pins s σ H _ I h) fun c s1 ⟨H1, I1, q1⟩ => ?_)
  cases c with
  | true => exact ⟨H1, I1, q1⟩
  | false => exact hb wh pins s1 σ H1 Q I1 q1
theorem pt_not (ha : PT X a tA) : PT X (.UnaryOp .Not a pos) (tNot tA) := by
  intro pins s σ H Q I h
  exact isTrue_not (ha pins s σ H (fun c H1 => Q (!c) H1) I h)
def tAndV (ta tb : TE) : TE := fun σ H Q => ta σ H fun x H1 => ∃ c, x = .bl c ∧ if c = true then tb σ H1 Q else Q (.bl false) H1
def tNotV (ta : TE) : TE := fun σ H Q => ta σ H fun x H1 => ∃ c, x = .bl c ∧ Q (.bl (!c)) H1
theorem pe_one {op} {t : TE} (h : PE X a t) : PE X (.BoolOp op [a] pos) t := fun pins s σ H Q I hw => BoolOp_one (h pins s σ H Q I hw)
theorem pe_and (ha : PE X a ta) (hb : PE X (.BoolOp .And (b :: rest) pos) tb) : PE X (.BoolOp .And (a :: b :: rest) pos) (tAndV ta tb) := by
  intro pins s σ H Q I h
  refine BoolOp_and (thn (ha pins s σ H _ I h) fun v s1 ⟨x, H1, I1, r1, q1⟩ => ?_)
  obtain ⟨c, rfl, q1⟩ := q1
  cases r1
  refine wpAny_truthy_bool ?_
  cases c with
  | true => exact hb pins s1 σ H1 Q I1 q1
  | false => exact ⟨.bl false, H1, I1, rfl, q1⟩
theorem pe_not (ha : PE X a ta) : PE X (.UnaryOp .Not a pos) (tNotV ta) := by
  intro pins s σ H Q I h
  refine UnaryOp_ (thn (ha pins s σ H _ I h) fun v s1 ⟨x, H1, I1, r1, q1⟩ => ?_)
  obtain ⟨c, rfl, q1⟩ := q1
  cases r1
  exact not_of (wpAny_truthy_bool ⟨.bl (!c), H1, I1, rfl, q1⟩)
end
end L2
namespace L2
open PySem PySem.Spec PyProof.Rows
def SqL (K : PySem.W.Frag) (H : Hp) (a : Addr) (xs : List V) : Prop :=
  Rd H a (.lst xs) ∨
    ∃ (o : Obj) (its : Array Value) (n : Nat), K.lookup a = some o ∧ o.cls = .type "list" ∧ o.dict = none ∧ o.data = .seq its n ∧ its.size ≤ sizeLine ∧ Vals xs its.toList
def SqT (K : PySem.W.Frag) (H : Hp) (a : Addr) (xs : List V) : Prop :=
  Rd H a (.tup xs) ∨
    ∃ (o : Obj) (its : Array Value) (n : Nat), K.lookup a = some o ∧ o.cls = .type "tuple" ∧ o.data = .seq its n ∧ its.size ≤ sizeLine ∧ Vals xs its.toList
def absV : Value → Option V
  | .none => some .non
  | .bool b => some (.bl b)
  | .int i _ => some (.int i)
  | .str x _ => some (.str x)
  | .bytes b _ => some (.byt b)
  | .float b _ => some (.flt b)
  | .ref a => some (.ref a)
  | .type n => some (.ty n)
  | _ => none
theorem RelV.abs {x : V} {u : Value} (r : RelV x u) : absV u = some x := by
  cases x with
  | non => cases r; rfl
  | bl _ => cases r; rfl
  | int _ => obtain ⟨t, rfl⟩ := r; rfl
  | str _ => obtain ⟨t, rfl⟩ := r; rfl
  | byt _ => obtain ⟨t, rfl⟩ := r; rfl
  | flt _ => obtain ⟨t, rfl⟩ := r; rfl
  | ref _ => cases r; rfl
  | ty _ => cases r; rfl
theorem RelV.inj {x y : V} {u : Value} (r : RelV x u) (q : RelV y u) : x = y := Option.some.inj (r.abs.symm.trans q.abs)
theorem Vals.inj : ∀ {xs ys : List V} {us : List Value}, Vals xs us → Vals ys us → xs = ys
  | _, _, _, .nil, .nil => rfl
  | _, _, _, .cons r t, .cons r' t' => by rw [r.inj r', Vals.inj t t']
section
variable {X : Cx} {pins : List (Addr × Obj)} {σ : St} {H : Hp} {s : Shared} {a : Addr} {xs ys : List V}
theorem SqL.of {K : PySem.W.Frag} (h : H a = some (.lst xs)) : SqL K H a xs := .inl (.inl h)
theorem SqT.of {K : PySem.W.Frag} (h : H a = some (.tup xs)) : SqT K H a xs := .inl (.inl h)
theorem Inv.list (I : Inv X pins σ H s) (h : SqL X.K H a xs) : ∃ its : List Value, Vals xs its ∧ PlainL s.heap a its.toArray ∧ xs.length ≤ sizeLine := by
  rcases h with h | ⟨o, its, n, hk, hc, hd, hs, hz, r⟩
  · obtain ⟨z, its, n, r, e⟩ := h.ok I.hok
    exact ⟨its, r, ⟨_, n, e, rfl, rfl, rfl⟩, z⟩
  · refine ⟨its.toList, r, ⟨o, n, I.kIn a o hk, hc, hd, by simpa using hs⟩, ?_⟩
    have e := r.length
    simp only [Array.length_toList] at e
    omega
theorem Inv.tuple (I : Inv X pins σ H s) (h : SqT X.K H a xs) : ∃ its : List Value, Vals xs its ∧ IsTup s.heap a its.toArray ∧ xs.length ≤ sizeLine := by
  rcases h with h | ⟨o, its, n, hk, hc, hs, hz, r⟩
  · obtain ⟨z, its, r, p⟩ := h.ok I.hok
    exact ⟨its, r, p, z⟩
  · refine ⟨its.toList, r, ⟨o, I.kIn a o hk, hc, n, by simpa using hs⟩, ?_⟩
    have e := r.length
    simp only [Array.length_toList] at e
    omega
theorem Inv.list_inj (I : Inv X pins σ H s) (h : SqL X.K H a xs) (h' : SqL X.K H a ys) : xs = ys := by
  obtain ⟨its, r, ⟨o, n, e, _, _, d⟩, _⟩ := I.list h
  obtain ⟨its', r', ⟨o', n', e', _, _, d'⟩, _⟩ := I.list h'
  rw [e] at e'; cases e'
  rw [d] at d'
  injection d' with d1 _
  have : its = its' := by simpa using congrArg Array.toList d1
  subst this
  exact r.inj r'
theorem Inv.tuple_inj (I : Inv X pins σ H s) (h : SqT X.K H a xs) (h' : SqT X.K H a ys) : xs = ys := by
  obtain ⟨its, r, ⟨o, e, _, n, d⟩, _⟩ := I.tuple h
  obtain ⟨its', r', ⟨o', e', _, n', d'⟩, _⟩ := I.tuple h'
  rw [e] at e'; cases e'
  rw [d] at d'
  injection d' with d1 _
  have : its = its' := by simpa using congrArg Array.toList d1
  subst this
  exact r.inj r'
end
abbrev Cx.wish (X : Cx) (E : Value → Shared → Prop) : Cx := { X with xe := E }
abbrev Cx.nox (X : Cx) : Cx := X.wish fun _ _ => False
theorem Cx.Ok.wish {X : Cx} (ok : X.Ok) (E : Value → Shared → Prop) : (X.wish E).Ok :=
  ⟨ok.mod, ok.kind, ok.glob, ok.blt, ok.above, ok.inj, ok.has, ok.cab, ok.hd, ok.frames, ok.stk, ok.exf, ok.bs, ok.bsz, ok.noex, ok.exfs, ok.funs, ok.frf⟩
theorem Cx.Ok.unwish {X : Cx} {E : Value → Shared → Prop} (ok : (X.wish E).Ok) : X.Ok :=
  ⟨ok.mod, ok.kind, ok.glob, ok.blt, ok.above, ok.inj, ok.has, ok.cab, ok.hd, ok.frames, ok.stk, ok.exf, ok.bs, ok.bsz, ok.noex, ok.exfs, ok.funs, ok.frf⟩
section
variable {X : Cx} {pins : List (Addr × Obj)} {σ : St} {H : Hp} {s : Shared} {E : Value → Shared → Prop}
theorem Inv.wish (I : Inv X pins σ H s) (E : Value → Shared → Prop) : Inv (X.wish E) pins σ H s := ⟨I.ok.wish E, I.os, I.bare, I.base, I.loc, I.cell, I.free, I.freeC, I.pin, I.hok, I.len⟩
theorem Inv.unwish (I : Inv (X.wish E) pins σ H s) : Inv X pins σ H s := ⟨I.ok.unwish, I.os, I.bare, I.base, I.loc, I.cell, I.free, I.freeC, I.pin, I.hok, I.len⟩
theorem SP.unwish {D : Ends} {f : Flow} {s' : Shared} (h : SP (X.wish E) pins D f s') : SP X pins D f s' := by
  cases f with
  | next => obtain ⟨σ', H', I, q⟩ := h; exact ⟨σ', H', I.unwish, q⟩
  | brk => obtain ⟨σ', H', I, q⟩ := h; exact ⟨σ', H', I.unwish, q⟩
  | cont => obtain ⟨σ', H', I, q⟩ := h; exact ⟨σ', H', I.unwish, q⟩
  | ret u => obtain ⟨v, σ', H', I, r, q⟩ := h; exact ⟨v, σ', H', I.unwish, r, q⟩
theorem PSs.nox {st : List Stmt} {t : TS} (h : PSs X.nox st t) : PSs X st t := fun pins s σ H D I hw =>
  wpAny_mono (h pins s σ H D (I.wish _) hw) (fun _ _ q => q.unwish) fun _ _ z => False.elim z
end
section
variable {X : Cx} {st : Stmt} {rest : List Stmt} {t u : TS} {e : Expr} {te : TE} {pos : Pos}
def tNext : TS := fun D σ H => D.nx σ H
def tSeq (t u : TS) : TS := fun D σ H => t { D with nx := u D } σ H
theorem pss_nil : PSs X [] tNext := fun _ _ σ H _ I h => wpAny_execs_nil ⟨σ, H, I, h⟩
theorem pss_cons (h1 : PS X st t) (h2 : PSs X rest u) : PSs X (st :: rest) (tSeq t u) := by
  intro pins s σ H D I h
  refine wpAny_execs_cons (thn (h1 pins s σ H { D with nx := u D } I h) fun f s1 q => ?_)
  cases f with
  | next =>
    obtain ⟨σ', H', I', q⟩ := q
    exact h2 pins s1 σ' H' D I' q
  | ret v => exact q
  | brk => exact q
  | cont => exact q
theorem pss_one (h1 : PS X st t) : PSs X [st] t := by
  intro pins s σ H D I h
  refine wpAny_execs_cons (thn (h1 pins s σ H D I h) fun f s1 q => ?_)
  cases f with
  | next => exact wpAny_execs_nil q
  | ret v => exact q
  | brk => exact q
  | cont => exact q
theorem Inv.quiet {pins : List (Addr × Obj)} {σ : St} {H : Hp} {s : Shared} (I : Inv X pins σ H s) : interactive X.env = false := by simp [interactive, I.ok.kind]
def tDrop (te : TE) : TS := fun D σ H => te σ H fun _ H1 => D.nx σ H1
theorem ps_expr (he : PE X e te) (hs : swapsWith e none pos.line X.env = pure false := by rfl) : PS X (.Expr e pos) (tDrop te) := by
  intro pins s σ H D I h
  exact wpAny_Expr_any (thn (he pins s σ H _ I h) fun v s1 ⟨x, H1, I1, r1, q1⟩ => ⟨σ, H1, I1, q1⟩) I.quiet hs
def tRet (te : TE) : TS := fun D σ H => te σ H D.rt
theorem ps_ret (he : PE X e te) : PS X (.Return (some e) pos) (tRet te) := by
  intro pins s σ H D I h
  exact wpAny_Return_some (thn (he pins s σ H _ I h) fun v s1 ⟨x, H1, I1, r1, q1⟩ => ⟨x, σ, H1, I1, r1, q1⟩)
def tIfS (c : TT) (t u : TS) : TS := fun D σ H => c σ H fun b H1 => if b = true then t D σ H1 else u D σ H1
theorem ps_if {c : Expr} {a b : List Stmt} {tc : TT} (hc : PT X c tc) (ha : PSs X a t) (hb : PSs X b u) : PS X (.If c a b pos) (tIfS tc t u) := by
  intro pins s σ H D I h
  refine wpAny_If (thn (hc pins s σ H _ I h) fun d s1 ⟨H1, I1, q1⟩ => ?_)
  cases d with
  | true => exact ha pins s1 σ H1 D I1 q1
  | false => exact hb pins s1 σ H1 D I1 q1
end
abbrev TG := V → St → Hp → (St → Hp → Prop) → Prop
abbrev TGs := List V → St → Hp → (St → Hp → Prop) → Prop
def PG (X : Cx) (target : Expr) (t : TG) : Prop :=
  ∀ (pins : List (Addr × Obj)) (s : Shared) (σ : St) (H : Hp) (v : V) (u : Value) (Q : St → Hp → Prop), Inv X pins σ H s → RelV v u → t v σ H Q →
    wpAny (model X.prog X.w) X.A (assign target X.env u) (fun _ s' => ∃ σ' H', Inv X pins σ' H' s' ∧ Q σ' H') X.xe s
def PGs (X : Cx) (ts : List Expr) (t : TGs) : Prop :=
  ∀ (pins : List (Addr × Obj)) (s : Shared) (σ : St) (H : Hp) (vs : List V) (us : List Value) (Q : St → Hp → Prop), Inv X pins σ H s → Vals vs us → t vs σ H Q →
    wpAny (model X.prog X.w) X.A (assignInOrder ((assignEach ts X.env).map (·.2)) us) (fun _ s' => ∃ σ' H', Inv X pins σ' H' s' ∧ Q σ' H') X.xe s
abbrev TSet := V → V → V → Hp → (Hp → Prop) → Prop
def PSet (X : Cx) (t : TSet) : Prop :=
  ∀ (pins : List (Addr × Obj)) (s : Shared) (σ : St) (H : Hp) (o i v : V) (ov iv u : Value) (Q : Hp → Prop), Inv X pins σ H s → RelV o ov → RelV i iv → RelV v u → t o i v H Q →
    wpAny (model X.prog X.w) X.A (setItem ov iv u) (fun _ s' => ∃ H', Inv X pins σ H' s' ∧ Q H') X.xe s
abbrev TIp := V → V → Hp → VK → Prop
def PIp (X : Cx) (op : Operator) (t : TIp) : Prop :=
  ∀ (pins : List (Addr × Obj)) (s : Shared) (σ : St) (H : Hp) (x y : V) (v u : Value) (Q : VK), Inv X pins σ H s → RelV x v → RelV y u → t x y H Q →
    wpAny (model X.prog X.w) X.A (inplaceOp op v u) (EP X pins σ Q) X.xe s
section
variable {X : Cx} {pos : Pos}
def gName (i : Nat) : TG := fun v σ H Q => Q (σ.set i (some v)) H
theorem pg_name {i : Nat} {x : Str} (hN : X.N.Nodup) (hi : X.N[i]? = some x) (hx : Loc X.env.scope x) (hf : X.fn x = true ∨ X.env.scope.names.lookup x = some .local := by first | exact .inl rfl | exact .inr rfl | assumption) : PG X (.Name x pos) (gName i) := by
  intro pins s σ H v u Q I r h
  exact wpAny_assign_Name (store_ok I hN hi hx r (fun s' I' => ⟨_, H, I', h⟩) hf)
def gNil : TGs := fun vs σ H Q => vs = [] ∧ Q σ H
def gCons (t : TG) (u : TGs) : TGs := fun vs σ H Q => ∃ v r, vs = v :: r ∧ t v σ H fun σ' H' => u r σ' H' Q
theorem pgs_nil : PGs X [] gNil := by
  intro pins s σ H vs us Q I r h
  obtain ⟨e, h⟩ := h
  subst e
  cases r
  exact assignInOrder_nil ⟨σ, H, I, h⟩
theorem pgs_cons {e : Expr} {es : List Expr} {t : TG} {u : TGs} (h1 : PG X e t) (h2 : PGs X es u)
    (hs : (assignEach (e :: es) X.env).map (·.2) = assign e X.env :: (assignEach es X.env).map (·.2) := by rfl) : PGs X (e :: es) (gCons t u) := by
  intro pins s σ H vs us Q I r h
  obtain ⟨v, vr, e1, h⟩ := h
  subst e1
  cases r with
  | cons r rr =>
    rw [hs]
    refine assignInOrder_cons (thn (h1 pins s σ H _ _ _ I r h) fun _ s1 ⟨σ1, H1, I1, q1⟩ => ?_)
    exact h2 pins s1 σ1 H1 _ _ Q I1 rr q1
def gTup (K : PySem.W.Frag) (n : Nat) (t : TGs) : TG := fun v σ H Q => ∃ a xs, v = .ref a ∧ SqT K H a xs ∧ xs.length = n ∧ t xs σ H Q
theorem pg_tup {es : List Expr} {k : Nat} {t : TGs} {n : Nat} (hc : X.calm = true) (h : PGs X es t)
    (hn : (assignEach es X.env).length = n := by rfl) (hst : (assignEach es X.env).findIdx? (·.1) = none := by rfl) : PG X (.Tuple es k pos) (gTup X.K n t) := by
  intro pins s σ H v u Q I r hw
  obtain ⟨a, xs, e1, hq, hl, hw⟩ := hw
  subst e1
  cases r
  obtain ⟨its, rv, ht, hz⟩ := I.tuple hq
  refine assign_Tuple_tuple (I.ok.hd hc) ht (by simp [hn, ← hl, rv.length]) hst fun h' hx => ?_
  have I1 : Inv X pins σ H { s with heap := h' } := I.kept (t' := s.toks) fun b o e => hx b o (Nat.ne_of_lt (Heap.lt_size e)) e
  exact h pins _ σ H xs _ Q I1 (by simpa using rv) hw
def gSub (to ti : TE) (t : TSet) : TG := fun v σ H Q => to σ H fun o H1 => ti σ H1 fun i H2 => t o i v H2 fun H3 => Q σ H3
theorem pg_sub {o i : Expr} {to ti : TE} {t : TSet} (ho : PE X o to) (hi : PE X i ti) (hs : PSet X t)
    (ha : ∀ v, assign (.Subscript o i pos) X.env v = (do
      let ov ← holding [v] (eval o X.env)
      let iv ← holding [v, ov] (eval i X.env)
      standAt pos
      holding [v, ov, iv] (setItem ov iv v)
      release [v, ov, iv] []) := by intro _; rfl) : PG X (.Subscript o i pos) (gSub to ti t) := by
  intro pins s σ H v u Q I r h
  rw [ha]
  refine wpAny_bind (wpAny_holding (thn (ho pins s σ H _ I h) fun ov s1 ⟨x, H1, I1, r1, q1⟩ => ?_))
  refine wpAny_bind (wpAny_holding (thn (hi pins s1 σ H1 _ I1 q1) fun iv s2 ⟨y, H2, I2, r2, q2⟩ => ?_))
  refine wpAny_bind (wpAny_standAt (wpAny_bind (wpAny_holding (thn (hs pins s2 σ H2 x y v ov iv u _ I2 r1 r2 r q2) fun _ s3 ⟨H3, I3, q3⟩ => ?_))))
  exact wpAny_release ⟨σ, H3, I3, q3⟩
def tAsg (te : TE) (g : TG) : TS := fun D σ H => te σ H fun x H1 => g x σ H1 D.nx
theorem ps_asg {tg e : Expr} {te : TE} {g : TG} (he : PE X e te) (hg : PG X tg g) (hs : swapsWithSole [tg] e pos.line X.env = pure false := by rfl) (hw : swappedStores [tg] e X.env = pure none := by rfl)
    (h1 : (assignEach [tg] X.env).map (·.2) = [assign tg X.env] := by rfl) : PS X (.Assign [tg] e pos) (tAsg te g) := by
  intro pins s σ H D I h
  refine wpAny_Assign_stores (thn (he pins s σ H _ I h) fun v s1 ⟨x, H1, I1, r1, q1⟩ => ?_) hs hw
  rw [h1]
  exact thn (hg pins s1 σ H1 x v _ I1 r1 q1) fun _ s2 q => q
theorem ps_set {i : Nat} {x : Str} {e : Expr} {te : TE} {pos' : Pos} (hN : X.N.Nodup) (hi : X.N[i]? = some x) (hx : Loc X.env.scope x) (he : PE X e te) (hs : swapsWith e (some (.Name x pos')) pos.line X.env = pure false := by rfl) (hf : X.fn x = true ∨ X.env.scope.names.lookup x = some .local := by first | exact .inl rfl | exact .inr rfl | assumption) :
    PS X (.Assign [.Name x pos'] e pos) (tAsg te (gName i)) := by
  intro pins s σ H D I h
  refine wpAny_Assign_Name (thn (he pins s σ H _ I h) fun v s1 ⟨y, H1, I1, r1, q1⟩ => ?_) hs
  exact store_ok I1 hN hi hx r1 (fun s2 I2 => ⟨_, H1, I2, q1⟩) hf
def tAug (i : Nat) (te : TE) (ti : TIp) : TS := fun D σ H => ∃ x, σ[i]? = some (some x) ∧ te σ H fun y H1 => ti x y H1 fun z H2 => D.nx (σ.set i (some z)) H2
theorem ps_aug {i : Nat} {x : Str} {e : Expr} {te : TE} {op : Operator} {ti : TIp} {pos' : Pos} (hN : X.N.Nodup) (hi : X.N[i]? = some x) (hx : Loc X.env.scope x) (he : PE X e te) (ho : PIp X op ti) (hf : X.fn x = true ∨ X.env.scope.names.lookup x = some .local := by first | exact .inl rfl | exact .inr rfl | assumption) :
    PS X (.AugAssign (.Name x pos') op e pos) (tAug i te ti) := by
  intro pins s σ H D I h
  obtain ⟨v, e1, h⟩ := h
  obtain ⟨m, hn, hl⟩ := I.loc
  have vis : Vis X.env.scope x := by rcases hx with k | k; exact .inl k; exact .inr (.inl k)
  obtain ⟨u, r, l⟩ := hl i x v hi e1 vis
  refine wpAny_AugAssign_Name ?_
  have go : wpAny (model X.prog X.w) X.A (eval e X.env) (fun w s₂ => wpAny (model X.prog X.w) X.A (inplaceOp op u w) (fun r s₃ => wpAny (model X.prog X.w) X.A (storeName X.env x r) (fun _ => SP X pins D .next) X.xe s₃) X.xe s₂) X.xe s := by
    refine thn (he pins s σ H _ I h) fun w s1 ⟨y, H1, I1, r1, q1⟩ => ?_
    refine thn (ho pins s1 σ H1 v y u w _ I1 r r1 q1) fun z s2 ⟨zv, H2, I2, r2, q2⟩ => ?_
    exact store_ok I2 hN hi hx r2 (fun s3 I3 => ⟨_, H2, I3, q2⟩) hf
  rcases l with ⟨hk, hm⟩ | ⟨hk, c, hc, hcell⟩
  · exact wpAny_loadName_local I.ok.kind hk hn hm go
  · rcases hk with hk | hk
    · exact wpAny_loadName_cell I.ok.kind hk hc hcell go
    · rcases hx with k | k
      · have : X.env.scope.names.lookup x = some .free := hk
        rw [k] at this; cases this
      · have : X.env.scope.names.lookup x = some .free := hk
        rw [k] at this; cases this
def tAugS (to ti te : TE) (tget : V → V → Hp → VK → Prop) (tip : TIp) (tset : TSet) : TS := fun D σ H => to σ H fun o H1 => ti σ H1 fun i H2 => tget o i H2 fun x H3 => te σ H3 fun y H4 => tip x y H4 fun z H5 => tset o i z H5 fun H6 => D.nx σ H6
def PGet (X : Cx) (t : V → V → Hp → VK → Prop) : Prop :=
  ∀ (pins : List (Addr × Obj)) (s : Shared) (σ : St) (H : Hp) (o i : V) (ov iv : Value) (Q : VK), Inv X pins σ H s → RelV o ov → RelV i iv → t o i H Q →
    wpAny (model X.prog X.w) X.A (getItem ov iv) (EP X pins σ Q) X.xe s
theorem ps_augS {o i e : Expr} {to ti te : TE} {tget : V → V → Hp → VK → Prop} {tip : TIp} {tset : TSet} {op : Operator} {tpos : Pos} (ho : PE X o to) (hi : PE X i ti) (hg : PGet X tget) (he : PE X e te) (hp : PIp X op tip) (hs : PSet X tset)
    (ha : ∀ ov iv new, augStore i ov iv new = (do holding [new, ov, iv] (setItem ov iv new); release [new, ov, iv] []; pure .next) := by intros; rfl) : PS X (.AugAssign (.Subscript o i tpos) op e pos) (tAugS to ti te tget tip tset) := by
  intro pins s σ H D I h
  refine wpAny_AugAssign_SubscriptAny (thn (ho pins s σ H _ I h) fun ov s1 ⟨x1, H1, I1, r1, q1⟩ => ?_) ha
  refine thn (hi pins s1 σ H1 _ I1 q1) fun iv s2 ⟨x2, H2, I2, r2, q2⟩ => ?_
  refine thn (hg pins s2 σ H2 x1 x2 ov iv _ I2 r1 r2 q2) fun old s3 ⟨x3, H3, I3, r3, q3⟩ => ?_
  refine thn (he pins s3 σ H3 _ I3 q3) fun v s4 ⟨x4, H4, I4, r4, q4⟩ => ?_
  refine thn (hp pins s4 σ H4 x3 x4 old v _ I4 r3 r4 q4) fun new s5 ⟨x5, H5, I5, r5, q5⟩ => ?_
  exact thn (hs pins s5 σ H5 x1 x2 x5 ov iv new _ I5 r1 r2 r5 q5) fun _ s6 ⟨H6, I6, q6⟩ => ⟨σ, H6, I6, q6⟩
def ipI (f : Int → Int → Int) : TIp := fun x y H Q => ∃ i j, x = .int i ∧ y = .int j ∧ Q (.int (f i j)) H
theorem ip_add : PIp X .Add (ipI fun i j => i + j) := by
  intro pins s σ H x y v u Q I r1 r2 h
  obtain ⟨i, j, e1, e2, q⟩ := h
  subst e1; subst e2
  obtain ⟨t, rfl⟩ := r1
  obtain ⟨t', rfl⟩ := r2
  exact iadd_int ⟨.int _, H, I.tok _, ⟨_, rfl⟩, q⟩
end
section
variable {X : Cx} {pos : Pos}
def tWhile (c : TT) (tb : TS) : TS := fun D σ H => ∃ W : Nat → St → Hp → Prop, (∃ m, W m σ H) ∧ ∀ m σ H, W m σ H →
  c σ H fun b H1 => if b = true then ∃ N : St → Hp → Prop, (∀ σ' H', N σ' H' → ∃ m', m' < m ∧ W m' σ' H') ∧ tb { D with nx := N, ct := N, bk := D.nx } σ H1 else D.nx σ H1
theorem ps_while {c : Expr} {body : List Stmt} {tc : TT} {tb : TS} (hp : PassesOwn (model X.prog X.w) X.A X.env X.xe) (hc : PT X c tc) (hb : PSs X body tb) : PS X (.While c body [] pos) (tWhile tc tb) := by
  intro pins s σ H D I h
  obtain ⟨W, ⟨m0, w0⟩, turn⟩ := h
  refine wpAny_While (codeAny_whileLoop (fun n s' => ∃ σ' H', Inv X pins σ' H' s' ∧ W n σ' H') ?_ m0 ⟨σ, H, I, w0⟩)
  rintro n s1 ⟨σ1, H1, I1, w1⟩
  refine wpAny_passesOwn hp (thn (hc pins s1 σ1 H1 _ I1 (turn n σ1 H1 w1)) fun b s2 ⟨H2, I2, q2⟩ => ?_)
  cases b with
  | true =>
    obtain ⟨N, hN, q2⟩ := q2
    rw [if_pos rfl]
    refine wpAny_passesOwn hp (thn (hb pins s2 σ1 H2 _ I2 q2) fun f s3 q3 => ?_)
    cases f with
    | next =>
      obtain ⟨σ3, H3, I3, n3⟩ := q3
      obtain ⟨m', hm, w3⟩ := hN σ3 H3 n3
      exact ⟨m', hm, σ3, H3, I3, w3⟩
    | cont =>
      obtain ⟨σ3, H3, I3, n3⟩ := q3
      obtain ⟨m', hm, w3⟩ := hN σ3 H3 n3
      exact ⟨m', hm, σ3, H3, I3, w3⟩
    | brk => exact q3
    | ret v => exact q3
  | false =>
    rw [if_neg Bool.false_ne_true]
    exact wpAny_execs_nil ⟨σ1, H2, I2, q2⟩
end
structure It where
  go : Nat → Hp → Prop
  yld : Nat → Hp → V → Hp → Prop
  stop : Nat → Hp → Prop
def FpOk (X : Cx) (pins : List (Addr × Obj)) (H : Hp) (b : Addr) : Prop :=
  H b = none ∧ b ≠ X.env.locals ∧ b ∉ X.fs ∧ (b ∈ X.ex ∨ X.s₀.heap.objs.size ≤ b) ∧ (∀ x c, X.env.cells.lookup x = some c → c ≠ b) ∧ ∀ p ∈ X.pn ++ pins, p.1 ≠ b
theorem Inv.fpOk {X : Cx} {pins : List (Addr × Obj)} {σ : St} {H H' : Hp} {s : Shared} {b : Addr} (I : Inv X pins σ H s) (hb : s.heap.objs.size ≤ b) (hn : H' b = none) : FpOk X pins H' b := by
  refine ⟨hn, Nat.ne_of_gt (Nat.lt_of_lt_of_le I.lt hb), I.nofs hb, .inr (Nat.le_trans I.sz hb), fun x c e z => ?_, fun p hp z => ?_⟩
  · obtain ⟨v, q⟩ := I.cell x c e
    exact absurd (Nat.lt_of_lt_of_le q.lt (by rw [z]; exact hb)) (Nat.lt_irrefl _)
  · exact absurd (Nat.lt_of_lt_of_le (Heap.lt_size (I.pin p hp).1) (by rw [z]; exact hb)) (Nat.lt_irrefl _)
structure Turn (P : Program) (w : World) (K : PySem.W.Frag) (tg : Expr) (J : It) (fp : List Addr) (it : Addr) (tn : Nat → Heap → Prop) : Prop where
  mem : it ∈ fp
  obj : ∀ i h, tn i h → ∀ b ∈ fp, ∃ o, h.get? b = some o ∧ ∀ v, o.data ≠ .cell v
  keep : ∀ i h h', tn i h → (∀ b ∈ fp, ∀ o, h.get? b = some o → h'.get? b = some o) → tn i h'
  item : ∀ (X : Cx), X.prog = P → X.w = w → X.K = K → X.calm = true → ∀ (i : Nat) (pins : List (Addr × Obj)) (s : Shared) (σ : St) (H : Hp) (E : Value → Shared → Prop), Inv X pins σ H s → (∀ b ∈ fp, FpOk X pins H b) → tn i s.heap → J.go i H →
    wpAny (model P w) X.A (pyNext (.ref it)) (fun r s1 => ∃ u, r = some u ∧
      wpAny (model P w) X.A (letOwnedTupleGo tg (.ref it) u) (fun _ s2 => ∃ x H', Inv X pins σ H' s2 ∧ RelV x u ∧ J.yld i H x H' ∧ tn (i + 1) s2.heap ∧ ∀ b ∈ fp, H' b = none) E s1) E s
  done : ∀ (X : Cx), X.prog = P → X.w = w → X.K = K → X.calm = true → ∀ (i : Nat) (pins : List (Addr × Obj)) (s : Shared) (σ : St) (H : Hp) (E : Value → Shared → Prop), Inv X pins σ H s → (∀ b ∈ fp, FpOk X pins H b) → tn i s.heap → J.stop i H →
    wpAny (model P w) X.A (pyNext (.ref it)) (fun r s1 => r = none ∧ Inv X pins σ H s1) E s
  self : ∀ (A : Around) (i : Nat) (s : Shared) (Q : Value → Shared → Prop) (E : Value → Shared → Prop), tn i s.heap → Q (.ref it) s → wpAny (model P w) A (pyIter (.ref it)) Q E s
abbrev TI := St → Hp → (It → Hp → Prop) → Prop
def PIE (X : Cx) (pins : List (Addr × Obj)) (σ : St) (tg : Expr) (R : It → Hp → Prop) (itv : Value) (s2 : Shared) : Prop :=
  ∃ (it : Addr) (fp : List Addr) (tn : Nat → Heap → Prop) (J : It) (H' : Hp), itv = .ref it ∧ Inv X pins σ H' s2 ∧ Turn X.prog X.w X.K tg J fp it tn ∧ tn 0 s2.heap ∧ (∀ b ∈ fp, FpOk X pins H' b) ∧ R J H'
def PI (X : Cx) (tg iter : Expr) (wi : TI) : Prop :=
  ∀ (pins : List (Addr × Obj)) (s : Shared) (σ : St) (H : Hp) (R : It → Hp → Prop), Inv X pins σ H s → wi σ H R →
    wpAny (model X.prog X.w) X.A (eval iter X.env) (fun v s1 => wpAny (model X.prog X.w) X.A (pyIter v) (PIE X pins σ tg R) X.xe s1) X.xe s
theorem go_of {M : Model} {A : Around} {E : Value → Shared → Prop} {s : Shared} {tg : Expr} {it : Addr} {u : Value} {o : Obj} {n : String} {vs : Array Value} {Q : Unit → Shared → Prop} (ho : s.heap.get? it = some o) (hc : o.cls = .type n) (hd : o.data = .fields vs)
    (hn : ["enumerate", "zip", "dict_itemiterator", "dict_reverseitemiterator", "odict_iterator", "itertools.zip_longest", "itertools.pairwise"].contains n = false) (hQ : Q () s) : wpAny M A (letOwnedTupleGo tg (.ref it) u) Q E s := by
  unfold letOwnedTupleGo
  cases tg <;> first
    | exact wpAny_pure hQ
    | (cases u <;> first
        | exact wpAny_pure hQ
        | (refine wpAny_bind (wpAny_load ho ?_)
           rw [hc, hd]
           show wpAny M A (if (["enumerate", "zip", "dict_itemiterator", "dict_reverseitemiterator", "odict_iterator", "itertools.zip_longest", "itertools.pairwise"].contains n && vs[0]? == some (rawInt _)) = true then _ else _) Q E s
           rw [if_neg (by intro h; rw [hn, Bool.false_and] at h; cases h)]
           exact wpAny_pure hQ))
def Itl (K : PySem.W.Frag) (a : Addr) : It :=
  ⟨fun i H => ∃ xs x, SqL K H a xs ∧ xs[i]? = some x, fun i H x H' => H' = H ∧ ∀ xs, SqL K H a xs → xs[i]? = some x, fun i H => ∃ xs, SqL K H a xs ∧ xs.length ≤ i⟩
def Itt (K : PySem.W.Frag) (a : Addr) : It :=
  ⟨fun i H => ∃ xs x, SqT K H a xs ∧ xs[i]? = some x, fun i H x H' => H' = H ∧ ∀ xs, SqT K H a xs → xs[i]? = some x, fun i H => ∃ xs, SqT K H a xs ∧ xs.length ≤ i⟩
def Itr (lo : Int) (n : Nat) : It := ⟨fun i _ => i < n, fun i H x H' => H' = H ∧ x = .int (lo + i), fun i _ => n ≤ i⟩
theorem turn_list {P : Program} {w : World} {K : PySem.W.Frag} {tg : Expr} (a it : Addr) : Turn P w K tg (Itl K a) [it] it (fun i h => h.IsListIter it a i) where
  mem := by simp
  obj := fun i h st b hb => by
    have e : b = it := by simpa using hb
    subst e
    obtain ⟨o, e, c, d⟩ := st
    exact ⟨o, e, fun v z => by rw [d] at z; cases z⟩
  keep := fun i h h' st k => st.at fun o e => k it (by simp) o e
  item := by
    intro X hP hw hK hc i pins s σ H E I hf st hg
    subst hP hw hK
    obtain ⟨xs, x, hq, hx⟩ := hg
    obtain ⟨its, rv, p, hz⟩ := I.list hq
    obtain ⟨u, hu, ru⟩ := rv.get hx
    obtain ⟨f0, f1, f2, f3, f4, f5⟩ := hf it (by simp)
    refine wpAny_pyNext_list_item st p.isList (x := u) (by simpa using hu) fun h' st' sb => ?_
    have I1 : Inv X pins σ H { s with heap := h' } := I.turned (t' := s.toks) (fun b o hb e => (sb.2 b hb).trans e) f0 f1 f3 f4 f5
    obtain ⟨o, e, c, d⟩ := id st'
    exact ⟨u, rfl, go_of (s := { s with heap := h' }) e c d (by decide) ⟨x, H, I1, ru, ⟨rfl, fun ys hy => by rw [I.list_inj hy hq]; exact hx⟩, st', fun b hb => (hf b hb).1⟩⟩
  done := by
    intro X hP hw hK hc i pins s σ H E I hf st hg
    subst hP hw hK
    obtain ⟨xs, hq, hx⟩ := hg
    obtain ⟨its, rv, p, hz⟩ := I.list hq
    obtain ⟨f0, f1, f2, f3, f4, f5⟩ := hf it (by simp)
    have hl := rv.length
    exact wpAny_pyNext_list_end (I.ok.hd hc) st p.isList (by simp; omega) fun h' eb => ⟨rfl, I.turned (t' := s.toks) (fun b o hb e => eb b o hb e) f0 f1 f3 f4 f5⟩
  self := fun _ _ _ _ _ st h => wpAny_pyIter_listiter st h
theorem turn_tuple {P : Program} {w : World} {K : PySem.W.Frag} {tg : Expr} (a it : Addr) : Turn P w K tg (Itt K a) [it] it (fun i h => h.IsTupleIter it a i) where
  mem := by simp
  obj := fun i h st b hb => by
    have e : b = it := by simpa using hb
    subst e
    obtain ⟨o, e, c, d⟩ := st
    exact ⟨o, e, fun v z => by rw [d] at z; cases z⟩
  keep := fun i h h' st k => st.at fun o e => k it (by simp) o e
  item := by
    intro X hP hw hK hc i pins s σ H E I hf st hg
    subst hP hw hK
    obtain ⟨xs, x, hq, hx⟩ := hg
    obtain ⟨its, rv, p, hz⟩ := I.tuple hq
    obtain ⟨u, hu, ru⟩ := rv.get hx
    obtain ⟨f0, f1, f2, f3, f4, f5⟩ := hf it (by simp)
    refine wpAny_pyNext_tuple_item st (show s.heap.IsTuple a its.toArray from p) (x := u) (by simpa using hu) fun h' st' sb => ?_
    have I1 : Inv X pins σ H { s with heap := h' } := I.turned (t' := s.toks) (fun b o hb e => (sb.2 b hb).trans e) f0 f1 f3 f4 f5
    obtain ⟨o, e, c, d⟩ := id st'
    exact ⟨u, rfl, go_of (s := { s with heap := h' }) e c d (by decide) ⟨x, H, I1, ru, ⟨rfl, fun ys hy => by rw [I.tuple_inj hy hq]; exact hx⟩, st', fun b hb => (hf b hb).1⟩⟩
  done := by
    intro X hP hw hK hc i pins s σ H E I hf st hg
    subst hP hw hK
    obtain ⟨xs, hq, hx⟩ := hg
    obtain ⟨its, rv, p, hz⟩ := I.tuple hq
    obtain ⟨f0, f1, f2, f3, f4, f5⟩ := hf it (by simp)
    have hl := rv.length
    exact wpAny_pyNext_tuple_end (I.ok.hd hc) st (show s.heap.IsTuple a its.toArray from p) (by simp; omega) fun h' eb => ⟨rfl, I.turned (t' := s.toks) (fun b o hb e => eb b o hb e) f0 f1 f3 f4 f5⟩
  self := fun _ _ _ _ _ st h => wpAny_pyIter_tupleiter st h
theorem turn_range {P : Program} {w : World} {K : PySem.W.Frag} {tg : Expr} (it : Addr) (lo : Int) (n : Nat) : Turn P w K tg (Itr lo n) [it] it (fun i h => IsRangeIter h it (lo + (i : Nat) * 1) ((n : Int) - (i : Nat)) 1) where
  mem := by simp
  obj := fun i h st b hb => by
    have e : b = it := by simpa using hb
    subst e
    exact ⟨_, st, fun v z => by
      have z' : Data.fields _ = Data.cell v := z
      cases z'⟩
  keep := fun i h h' st k => k it (by simp) _ st
  item := by
    intro X hP hw hK hc i pins s σ H E I hf st hg
    subst hP hw hK
    obtain ⟨f0, f1, f2, f3, f4, f5⟩ := hf it (by simp)
    have W := Walks.range (prog := X.prog) (w := X.w) (I.ok.hd hc) it lo 1 n
    refine W.item i s _ _ hg st fun v h' tk hv st' kk => ?_
    obtain ⟨t, rfl⟩ := hv
    have I1 : Inv X pins σ H { s with heap := h', toks := tk } := I.turned (fun b o hb e => kk b o (by simpa using hb) e) f0 f1 f3 f4 f5
    refine ⟨_, rfl, go_of (s := { s with heap := h', toks := tk }) (n := "range_iterator") st' rfl rfl (by decide) ⟨.int (lo + i), H, I1, ⟨t, ?_⟩, ⟨rfl, rfl⟩, st', fun b hb => (hf b hb).1⟩⟩
    rw [Int.mul_one]
  done := by
    intro X hP hw hK hc i pins s σ H E I hf st hg
    subst hP hw hK
    obtain ⟨f0, f1, f2, f3, f4, f5⟩ := hf it (by simp)
    exact wpAny_pyNext_range_end (I.ok.hd hc) st (by have : n ≤ i := hg; omega) fun h' eb => ⟨rfl, I.turned (t' := s.toks) (fun b o hb e => eb b o hb e) f0 f1 f3 f4 f5⟩
  self := fun _ _ _ _ _ st h => wpAny_pyIter_rangeiter st h
end L2
namespace L2
open PySem PySem.Spec PyProof.Rows
section
variable {X : Cx} {tg : Expr}
def iList (K : PySem.W.Frag) (tl : TE) : TI := fun σ H R => tl σ H fun x H1 => ∃ a, x = .ref a ∧ (∃ xs, SqL K H1 a xs) ∧ R (Itl K a) H1
def iTup (K : PySem.W.Frag) (tl : TE) : TI := fun σ H R => tl σ H fun x H1 => ∃ a, x = .ref a ∧ (∃ xs, SqT K H1 a xs) ∧ R (Itt K a) H1
theorem pi_list {l : Expr} {tl : TE} (hl : PE X l tl) : PI X tg l (iList X.K tl) := by
  intro pins s σ H R I h
  refine thn (hl pins s σ H _ I h) fun v s1 ⟨x, H1, I1, r1, q1⟩ => ?_
  obtain ⟨a, e, ⟨xs, hq⟩, q⟩ := q1
  subst e
  cases r1
  obtain ⟨its, rv, p, hz⟩ := I1.list hq
  refine wpAny_pyIter_list p.isList ?_
  refine ⟨s1.heap.objs.size, [s1.heap.objs.size], _, _, H1, rfl, I1.kept (t' := s1.toks) fun b o e => Heap.get?_push_of_some _ e, turn_list a _, ⟨_, Heap.get?_push_size _ rfl, rfl, rfl⟩, fun b hb => ?_, q⟩
  have e : b = s1.heap.objs.size := by simpa using hb
  subst e
  exact I1.fpOk (Nat.le_refl _) (I1.hok.fresh (Nat.le_refl _))
theorem pi_tup {l : Expr} {tl : TE} (hl : PE X l tl) : PI X tg l (iTup X.K tl) := by
  intro pins s σ H R I h
  refine thn (hl pins s σ H _ I h) fun v s1 ⟨x, H1, I1, r1, q1⟩ => ?_
  obtain ⟨a, e, ⟨xs, hq⟩, q⟩ := q1
  subst e
  cases r1
  obtain ⟨its, rv, p, hz⟩ := I1.tuple hq
  refine wpAny_pyIter_tuple (show s1.heap.IsTuple a its.toArray from p) ?_
  refine ⟨s1.heap.objs.size, [s1.heap.objs.size], _, _, H1, rfl, I1.kept (t' := s1.toks) fun b o e => Heap.get?_push_of_some _ e, turn_tuple a _, ⟨_, Heap.get?_push_size _ rfl, rfl, rfl⟩, fun b hb => ?_, q⟩
  have e : b = s1.heap.objs.size := by simpa using hb
  subst e
  exact I1.fpOk (Nat.le_refl _) (I1.hok.fresh (Nat.le_refl _))
theorem range_it {pins : List (Addr × Obj)} {σ : St} {H : Hp} {s : Shared} {R : It → Hp → Prop} {E : Value → Shared → Prop} {lo hi : Int} {t u v : Tok} {tk : Nat} (I : Inv X pins σ H s) (h1 : -(2 ^ 62) ≤ lo) (h2 : lo < 2 ^ 62) (h3 : -(2 ^ 62) ≤ hi) (h4 : hi < 2 ^ 62)
    (q : R (Itr lo (hi - lo).toNat) H) : wpAny (model X.prog X.w) X.A (pyIter (.ref s.heap.objs.size)) (PIE X pins σ tg R) E { s with heap := s.heap.push { cls := .type "range", data := .fields #[.int lo t, .int hi u, .int 1 v] }, toks := tk } := by
  refine wpAny_pyIter_range (IsRange.new ..) (small_one h1 h2 h3 h4) ?_
  have I1 : Inv X pins σ H { s with heap := s.heap.push { cls := .type "range", data := .fields #[.int lo t, .int hi u, .int 1 v] }, toks := tk } := I.kept fun b o e => Heap.get?_push_of_some _ e
  refine ⟨(s.heap.push { cls := .type "range", data := .fields #[.int lo t, .int hi u, .int 1 v] }).objs.size, [(s.heap.push { cls := .type "range", data := .fields #[.int lo t, .int hi u, .int 1 v] }).objs.size], _, _, H, rfl,
    I1.kept (t' := tk) fun b o e => Heap.get?_push_of_some _ e, turn_range _ lo (hi - lo).toNat, ?_, fun b hb => ?_, q⟩
  · have e1 : lo + ((0 : Nat) : Int) * 1 = lo := by simp
    have e2 : (((hi - lo).toNat : Nat) : Int) - ((0 : Nat) : Int) = Builtin.Range.rangeSize lo hi 1 := by rw [rangeSize_one]; split <;> omega
    show IsRangeIter _ _ (lo + ((0 : Nat) : Int) * 1) ((((hi - lo).toNat : Nat) : Int) - ((0 : Nat) : Int)) 1
    rw [e1, e2]
    exact Heap.get?_push_size _ rfl
  · have e : b = (s.heap.push { cls := .type "range", data := .fields #[.int lo t, .int hi u, .int 1 v] }).objs.size := by simpa using hb
    subst e
    exact I1.fpOk (Nat.le_refl _) (I1.hok.fresh (Nat.le_refl _))
def iRng1 (ta : TA) : TI := fun σ H R => ta σ H fun vs H1 => ∃ j : Int, vs = [.int j] ∧ -(2 ^ 62) ≤ j ∧ j < 2 ^ 62 ∧ R (Itr 0 j.toNat) H1
def iRng2 (ta : TA) : TI := fun σ H R => ta σ H fun vs H1 => ∃ i j : Int, vs = [.int i, .int j] ∧ (-(2 ^ 62) ≤ i ∧ i < 2 ^ 62 ∧ -(2 ^ 62) ≤ j ∧ j < 2 ^ 62) ∧ R (Itr i (j - i).toNat) H1
theorem pi_range1 {a : Expr} {ta : TA} {p pos : Pos} (hg : Gl X "range") (hm : X.mg "range" = none) (ha : PA X [a] ta) (hs : starEach [a] X.env = [(false, eval a X.env)] := by rfl) : PI X tg (.Call (.Name "range" p) [a] [] pos) (iRng1 ta) := by
  intro pins s σ H R I h
  refine Call_ (ld_blt I hg hm boot_range (PyProof.Rows.callWith_type1 (thn (ha pos pins s σ H _ I h) fun us s1 ⟨vs, H1, I1, r1, q1⟩ => ?_) hs rfl))
  obtain ⟨j, e, q1, q2, q⟩ := q1
  subst e
  cases r1 with
  | cons r rr =>
    cases rr
    obtain ⟨t, rfl⟩ := r
    exact call_range_1 (range_it I1 (by omega) (by omega) q1 q2 (by simpa using q))
theorem pi_range2 {a b : Expr} {ta : TA} {p pos : Pos} (hg : Gl X "range") (hm : X.mg "range" = none) (ha : PA X [a, b] ta) (hs : starEach [a, b] X.env = [(false, eval a X.env), (false, eval b X.env)] := by rfl) (hs2 : starEach [b] X.env = [(false, eval b X.env)] := by rfl) :
    PI X tg (.Call (.Name "range" p) [a, b] [] pos) (iRng2 ta) := by
  intro pins s σ H R I h
  refine Call_ (ld_blt I hg hm boot_range (PyProof.Rows.callWith_type1 (thn (ha pos pins s σ H _ I h) fun us s1 ⟨vs, H1, I1, r1, q1⟩ => ?_) (by rw [hs, hs2]) (by rw [hs2]; rfl)))
  obtain ⟨i, j, e, ⟨q1, q2, q3, q4⟩, q⟩ := q1
  subst e
  cases r1 with
  | cons r rr =>
    cases rr with
    | cons r' rr =>
      cases rr
      obtain ⟨t, rfl⟩ := r
      obtain ⟨t', rfl⟩ := r'
      exact call_range_2 (range_it I1 q1 q2 q3 q4 q)
def tFor (wi : TI) (g : TG) (tb : TS) : TS := fun D σ H => wi σ H fun J H1 => ∃ W : Nat → Nat → St → Hp → Prop, (∃ m, W 0 m σ H1) ∧ ∀ i m σ H, W i m σ H →
  (J.stop i H ∧ D.nx σ H) ∨ (J.go i H ∧ ∃ N : St → Hp → Prop, (∀ σ' H', N σ' H' → ∃ m', m' < m ∧ W (i + 1) m' σ' H') ∧ ∀ x H', J.yld i H x H' → g x σ H' fun σ2 H2 => tb { D with nx := N, ct := N, bk := D.nx } σ2 H2)
def pinsAt (fp : List Addr) (h : Heap) : List (Addr × Obj) := fp.filterMap fun b => (h.get? b).map fun o => (b, o)
theorem mem_pinsAt {fp : List Addr} {h : Heap} {b : Addr} {o : Obj} (hb : b ∈ fp) (e : h.get? b = some o) : (b, o) ∈ pinsAt fp h := List.mem_filterMap.mpr ⟨b, hb, by rw [e]; rfl⟩
theorem of_pinsAt {fp : List Addr} {h : Heap} {p : Addr × Obj} (hp : p ∈ pinsAt fp h) : p.1 ∈ fp ∧ h.get? p.1 = some p.2 := by
  obtain ⟨b, hb, e⟩ := List.mem_filterMap.mp hp
  cases q : h.get? b with
  | none => rw [q] at e; cases e
  | some o =>
    rw [q] at e
    have e' : (b, o) = p := Option.some.inj e
    subst e'
    exact ⟨hb, q⟩
theorem Inv.pinned {pins : List (Addr × Obj)} {σ : St} {H : Hp} {s : Shared} {fp : List Addr} (I : Inv X pins σ H s) (hf : ∀ b ∈ fp, FpOk X pins H b) (ho : ∀ b ∈ fp, ∃ o, s.heap.get? b = some o ∧ ∀ v, o.data ≠ .cell v) : Inv X (pins ++ pinsAt fp s.heap) σ H s :=
  I.pins_of fun p hp => (List.mem_append.mp hp).elim (fun z => I.pin p (List.mem_append_right _ z)) fun z => by
    obtain ⟨hb, e⟩ := of_pinsAt z
    obtain ⟨f0, f1, f2, _⟩ := hf p.1 hb
    obtain ⟨o, e', d⟩ := ho p.1 hb
    rw [e] at e'; cases e'
    exact ⟨e, f0, f1, f2, d⟩
theorem Inv.unpinned {pins pl : List (Addr × Obj)} {σ : St} {H : Hp} {s : Shared} (I : Inv X (pins ++ pl) σ H s) : Inv X pins σ H s := I.pins_of fun p hp => I.pin p (List.mem_append_right _ (List.mem_append_left _ hp))
theorem ps_for {iter : Expr} {body : List Stmt} {wi : TI} {g : TG} {tb : TS} {pos : Pos} (hp : PassesOwn (model X.prog X.w) X.A X.env X.xe) (hc : X.calm = true) (hi : PI X tg iter wi) (hg : PG X tg g) (hb : PSs X body tb)
    (hs : ∀ x, foldedSetIterable iter X.env x = pure x := by intro _; rfl) : PS X (.For tg iter body [] pos) (tFor wi g tb) := by
  intro pins s σ H D I h
  refine wpAny_For (thn (hi pins s σ H _ I h) fun v s1 h1 => thn h1 fun itv s2 h2 => ?_) hs
  obtain ⟨it, fp, tn, J, H2, e, I2, T, st2, f2, W, ⟨m0, w0⟩, turn⟩ := h2
  subst e
  have stat : ∀ {H' : Hp}, (∀ b ∈ fp, H' b = none) → ∀ b ∈ fp, FpOk X pins H' b := fun hn b hb => ⟨hn b hb, (f2 b hb).2⟩
  refine codeAny_forLoop_any (fun n s' => ∃ i σ' H', Inv X pins σ' H' s' ∧ tn i s'.heap ∧ (∀ b ∈ fp, H' b = none) ∧ W i n σ' H') ?_ m0 ⟨0, σ, H2, I2, st2, fun b hb => (f2 b hb).1, w0⟩
  rintro n s3 ⟨i, σ3, H3, I3, st3, fr3, w3⟩
  rcases turn i n σ3 H3 w3 with ⟨stop, qn⟩ | ⟨go, N, hN, step⟩
  · refine wpAny_passesOwn hp (thn (T.done X rfl rfl rfl hc i pins s3 σ3 H3 X.xe I3 (stat fr3) st3 stop) fun r s4 ⟨hr, I4⟩ => ?_)
    subst hr
    exact wpAny_execs_nil ⟨σ3, H3, I4, qn⟩
  · refine wpAny_passesOwn hp (thn (T.item X rfl rfl rfl hc i pins s3 σ3 H3 X.xe I3 (stat fr3) st3 go) fun r s4 ⟨u, hr, h4⟩ => ?_)
    subst hr
    refine wpAny_passesOwn hp (thn h4 fun _ s5 ⟨x, H5, I5, r5, y5, st5, fr5⟩ => ?_)
    have I5' := I5.pinned (stat fr5) (T.obj _ _ st5)
    refine wpAny_passesOwn hp (thn (hg _ s5 σ3 H5 x u _ I5' r5 (step x H5 y5)) fun _ s6 ⟨σ6, H6, I6, q6⟩ => ?_)
    refine wpAny_passesOwn hp (thn (hb _ s6 σ6 H6 _ I6 q6) fun f s7 q7 => ?_)
    have again : ∀ {σ7 : St} {H7 : Hp}, Inv X (pins ++ pinsAt fp s5.heap) σ7 H7 s7 → N σ7 H7 → ∃ m, m < n ∧ ∃ i σ' H', Inv X pins σ' H' s7 ∧ tn i s7.heap ∧ (∀ b ∈ fp, H' b = none) ∧ W i m σ' H' := fun {σ7 H7} I7 n7 => by
      obtain ⟨m', hm, w7⟩ := hN σ7 H7 n7
      refine ⟨m', hm, i + 1, σ7, H7, I7.unpinned, T.keep _ _ _ st5 fun b hb o e => (I7.pin (b, o) (List.mem_append_right _ (List.mem_append_right _ (mem_pinsAt hb e)))).1, fun b hb => ?_, w7⟩
      obtain ⟨o, e, d⟩ := T.obj _ _ st5 b hb
      exact (I7.pin (b, o) (List.mem_append_right _ (List.mem_append_right _ (mem_pinsAt hb e)))).2.1
    cases f with
    | next => obtain ⟨σ7, H7, I7, n7⟩ := q7; exact again I7 n7
    | cont => obtain ⟨σ7, H7, I7, n7⟩ := q7; exact again I7 n7
    | brk => obtain ⟨σ7, H7, I7, q7⟩ := q7; exact ⟨σ7, H7, I7.unpinned, q7⟩
    | ret v => obtain ⟨x7, σ7, H7, I7, r7, q7⟩ := q7; exact ⟨x7, σ7, H7, I7.unpinned, r7, q7⟩
end
theorem for_list {K : PySem.W.Frag} {a : Addr} {xs : List V} {g : TG} {tb : TS} {D : Ends} {σ : St} {H : Hp} (Pv : Nat → St → Hp → Prop) (h0 : Pv 0 σ H) (hl : ∀ i σ H, i ≤ xs.length → Pv i σ H → SqL K H a xs)
    (hs : ∀ i x σ H, xs[i]? = some x → Pv i σ H → g x σ H fun σ2 H2 => tb { D with nx := Pv (i + 1), ct := Pv (i + 1), bk := D.nx } σ2 H2) (hd : ∀ σ H, Pv xs.length σ H → D.nx σ H) :
    ∃ W : Nat → Nat → St → Hp → Prop, (∃ m, W 0 m σ H) ∧ ∀ i m σ H, W i m σ H →
      ((Itl K a).stop i H ∧ D.nx σ H) ∨ ((Itl K a).go i H ∧ ∃ N : St → Hp → Prop, (∀ σ' H', N σ' H' → ∃ m', m' < m ∧ W (i + 1) m' σ' H') ∧ ∀ x H', (Itl K a).yld i H x H' → g x σ H' fun σ2 H2 => tb { D with nx := N, ct := N, bk := D.nx } σ2 H2) := by
  refine ⟨fun i m σ H => m = xs.length - i ∧ i ≤ xs.length ∧ Pv i σ H, ⟨xs.length, by simp, Nat.zero_le _, h0⟩, ?_⟩
  rintro i m σ H ⟨rfl, hi, p⟩
  have q := hl i σ H hi p
  by_cases hlt : i < xs.length
  · refine .inr ⟨⟨xs, xs[i], q, by simp [hlt]⟩, Pv (i + 1), fun σ' H' p' => ⟨xs.length - (i + 1), by omega, rfl, hlt, p'⟩, fun x H' y => ?_⟩
    obtain ⟨e, y⟩ := y
    subst e
    exact hs i x σ _ (y xs q) p
  · have e : i = xs.length := by omega
    subst e
    exact .inl ⟨⟨xs, q, Nat.le_refl _⟩, hd σ H p⟩
theorem for_tup {K : PySem.W.Frag} {a : Addr} {xs : List V} {g : TG} {tb : TS} {D : Ends} {σ : St} {H : Hp} (Pv : Nat → St → Hp → Prop) (h0 : Pv 0 σ H) (hl : ∀ i σ H, i ≤ xs.length → Pv i σ H → SqT K H a xs)
    (hs : ∀ i x σ H, xs[i]? = some x → Pv i σ H → g x σ H fun σ2 H2 => tb { D with nx := Pv (i + 1), ct := Pv (i + 1), bk := D.nx } σ2 H2) (hd : ∀ σ H, Pv xs.length σ H → D.nx σ H) :
    ∃ W : Nat → Nat → St → Hp → Prop, (∃ m, W 0 m σ H) ∧ ∀ i m σ H, W i m σ H →
      ((Itt K a).stop i H ∧ D.nx σ H) ∨ ((Itt K a).go i H ∧ ∃ N : St → Hp → Prop, (∀ σ' H', N σ' H' → ∃ m', m' < m ∧ W (i + 1) m' σ' H') ∧ ∀ x H', (Itt K a).yld i H x H' → g x σ H' fun σ2 H2 => tb { D with nx := N, ct := N, bk := D.nx } σ2 H2) := by
  refine ⟨fun i m σ H => m = xs.length - i ∧ i ≤ xs.length ∧ Pv i σ H, ⟨xs.length, by simp, Nat.zero_le _, h0⟩, ?_⟩
  rintro i m σ H ⟨rfl, hi, p⟩
  have q := hl i σ H hi p
  by_cases hlt : i < xs.length
  · refine .inr ⟨⟨xs, xs[i], q, by simp [hlt]⟩, Pv (i + 1), fun σ' H' p' => ⟨xs.length - (i + 1), by omega, rfl, hlt, p'⟩, fun x H' y => ?_⟩
    obtain ⟨e, y⟩ := y
    subst e
    exact hs i x σ _ (y xs q) p
  · have e : i = xs.length := by omega
    subst e
    exact .inl ⟨⟨xs, q, Nat.le_refl _⟩, hd σ H p⟩
theorem for_range {lo : Int} {n : Nat} {g : TG} {tb : TS} {D : Ends} {σ : St} {H : Hp} (Pv : Nat → St → Hp → Prop) (h0 : Pv 0 σ H)
    (hs : ∀ i σ H, i < n → Pv i σ H → g (.int (lo + i)) σ H fun σ2 H2 => tb { D with nx := Pv (i + 1), ct := Pv (i + 1), bk := D.nx } σ2 H2) (hd : ∀ σ H, Pv n σ H → D.nx σ H) :
    ∃ W : Nat → Nat → St → Hp → Prop, (∃ m, W 0 m σ H) ∧ ∀ i m σ H, W i m σ H →
      ((Itr lo n).stop i H ∧ D.nx σ H) ∨ ((Itr lo n).go i H ∧ ∃ N : St → Hp → Prop, (∀ σ' H', N σ' H' → ∃ m', m' < m ∧ W (i + 1) m' σ' H') ∧ ∀ x H', (Itr lo n).yld i H x H' → g x σ H' fun σ2 H2 => tb { D with nx := N, ct := N, bk := D.nx } σ2 H2) := by
  refine ⟨fun i m σ H => m = n - i ∧ i ≤ n ∧ Pv i σ H, ⟨n, by simp, Nat.zero_le _, h0⟩, ?_⟩
  rintro i m σ H ⟨rfl, hi, p⟩
  by_cases hlt : i < n
  · refine .inr ⟨hlt, Pv (i + 1), fun σ' H' p' => ⟨n - (i + 1), by omega, rfl, hlt, p'⟩, fun x H' y => ?_⟩
    obtain ⟨e, y⟩ := y
    subst e y
    exact hs i σ _ hlt p
  · have e : i = n := by omega
    subst e
    exact .inl ⟨Nat.le_refl _, hd σ H p⟩
theorem while_by {c : TT} {tb : TS} {D : Ends} {σ : St} {H : Hp} (Pv : St → Hp → Prop) (μ : St → Hp → Nat) (h0 : Pv σ H)
    (hs : ∀ σ H, Pv σ H → c σ H fun b H1 => if b = true then tb { D with nx := fun σ' H' => Pv σ' H' ∧ μ σ' H' < μ σ H, ct := fun σ' H' => Pv σ' H' ∧ μ σ' H' < μ σ H, bk := D.nx } σ H1 else D.nx σ H1)
    (mono : ∀ σ H Q Q', (∀ b H1, Q b H1 → Q' b H1) → c σ H Q → c σ H Q') : tWhile c tb D σ H := by
  refine ⟨fun m σ H => m = μ σ H ∧ Pv σ H, ⟨_, rfl, h0⟩, ?_⟩
  rintro m σ H ⟨rfl, p⟩
  refine mono σ H _ _ (fun b H1 q => ?_) (hs σ H p)
  cases b with
  | true => exact ⟨_, fun σ' H' ⟨p', l⟩ => ⟨_, l, rfl, p'⟩, q⟩
  | false => exact q
end L2
namespace L2
open PySem PySem.Spec PyProof.Rows
abbrev R2 := V → V → Hp → VK → Prop
def OpR (X : Cx) (f : Value → Value → Sem Value) (r : R2) : Prop :=
  ∀ (pins : List (Addr × Obj)) (s : Shared) (σ : St) (H : Hp) (x y : V) (v u : Value) (Q : VK), Inv X pins σ H s → RelV x v → RelV y u → r x y H Q →
    wpAny (model X.prog X.w) X.A (f v u) (EP X pins σ Q) X.xe s
def UnR (X : Cx) (f : Value → Sem Value) (r : V → Hp → VK → Prop) : Prop :=
  ∀ (pins : List (Addr × Obj)) (s : Shared) (σ : St) (H : Hp) (x : V) (v : Value) (Q : VK), Inv X pins σ H s → RelV x v → r x H Q →
    wpAny (model X.prog X.w) X.A (f v) (EP X pins σ Q) X.xe s
def CallR (X : Cx) (f : Value) (r : List V → Hp → VK → Prop) : Prop :=
  ∀ (pins : List (Addr × Obj)) (s : Shared) (σ : St) (H : Hp) (xs : List V) (us : List Value) (Q : VK), Inv X pins σ H s → Vals xs us → r xs H Q →
    wpAny (model X.prog X.w) X.A (call f us) (EP X pins σ Q) X.xe s
def tOp (r : R2) (ta tb : TE) : TE := fun σ H Q => ta σ H fun x H1 => tb σ H1 fun y H2 => r x y H2 Q
def tUn (r : V → Hp → VK → Prop) (ta : TE) : TE := fun σ H Q => ta σ H fun x H1 => r x H1 Q
def rI (C : Int → Int → Prop) (g : Int → Int → V) : R2 := fun x y H Q => ∃ i j, x = .int i ∧ y = .int j ∧ C i j ∧ Q (g i j) H
def rI0 (g : Int → Int → V) : R2 := fun x y H Q => ∃ i j, x = .int i ∧ y = .int j ∧ Q (g i j) H
def rU (g : Int → V) : V → Hp → VK → Prop := fun x H Q => ∃ i, x = .int i ∧ Q (g i) H
section
variable {X : Cx} {a b c : Expr} {ta tb tc : TE} {pos : Pos}
theorem binT (ha : PE X a ta) (hb : PE X b tb) {pins : List (Addr × Obj)} {s : Shared} {σ : St} {H : Hp} {R : V → V → Hp → Prop} (I : Inv X pins σ H s)
    (h : ta σ H fun x H1 => tb σ H1 fun y H2 => R x y H2) {Q : Value → Shared → Prop} {f : Value → Value → Sem Value}
    (hf : ∀ v u s2 x y H2, Inv X pins σ H2 s2 → RelV x v → RelV y u → R x y H2 → wpAny (model X.prog X.w) X.A (f v u) Q X.xe s2) :
    wpAny (model X.prog X.w) X.A (eval a X.env) (fun v s₁ => wpAny (model X.prog X.w) X.A (eval b X.env) (fun u s₂ => wpAny (model X.prog X.w) X.A (f v u) Q X.xe s₂) X.xe s₁) X.xe s := by
  refine thn (ha pins s σ H _ I h) fun v s1 ⟨x, H1, I1, r1, q1⟩ => ?_
  refine thn (hb pins s1 σ H1 _ I1 q1) fun u s2 ⟨y, H2, I2, r2, q2⟩ => ?_
  exact hf v u s2 x y H2 I2 r1 r2 q2
theorem pe_op {op : Operator} {r : R2} (ho : OpR X (binaryOp op) r) (ha : PE X a ta) (hb : PE X b tb) : PE X (.BinOp a op b pos) (tOp r ta tb) := by
  intro pins s σ H Q I h
  exact wpAny_BinOp (binT ha hb I h fun v u s2 x y H2 I2 rx ry q => ho pins s2 σ H2 x y v u Q I2 rx ry q)
theorem pe_un {op : UnaryOp} {r : V → Hp → VK → Prop} (ho : UnR X (unaryOp op) r) (ha : PE X a ta) : PE X (.UnaryOp op a pos) (tUn r ta) := by
  intro pins s σ H Q I h
  exact UnaryOp_ (thn (ha pins s σ H _ I h) fun v s1 ⟨x, H1, I1, r1, q1⟩ => ho pins s1 σ H1 x v Q I1 r1 q1)
theorem opI {f : Value → Value → Sem Value} {C : Int → Int → Prop} {g : Int → Int → Int}
    (rule : ∀ (i j : Int) (t u : Tok) (s : Shared) (Q : Value → Shared → Prop) (E : Value → Shared → Prop), C i j → Q (.int (g i j) s.toks) { s with toks := s.toks + 1 } → wpAny (model X.prog X.w) X.A (f (.int i t) (.int j u)) Q E s) :
    OpR X f (rI C fun i j => .int (g i j)) := by
  intro pins s σ H x y v u Q I rx ry h
  obtain ⟨i, j, rfl, rfl, hc, q⟩ := h
  obtain ⟨t, rfl⟩ := rx
  obtain ⟨t', rfl⟩ := ry
  exact rule i j t t' s _ _ hc ⟨.int (g i j), H, I.tok _, ⟨_, rfl⟩, q⟩
theorem opI0 {f : Value → Value → Sem Value} {g : Int → Int → Int}
    (rule : ∀ (i j : Int) (t u : Tok) (s : Shared) (Q : Value → Shared → Prop) (E : Value → Shared → Prop), Q (.int (g i j) s.toks) { s with toks := s.toks + 1 } → wpAny (model X.prog X.w) X.A (f (.int i t) (.int j u)) Q E s) :
    OpR X f (rI0 fun i j => .int (g i j)) := by
  intro pins s σ H x y v u Q I rx ry h
  obtain ⟨i, j, rfl, rfl, q⟩ := h
  obtain ⟨t, rfl⟩ := rx
  obtain ⟨t', rfl⟩ := ry
  exact rule i j t t' s _ _ ⟨.int (g i j), H, I.tok _, ⟨_, rfl⟩, q⟩
theorem opB0 {f : Value → Value → Sem Value} {g : Int → Int → Bool}
    (rule : ∀ (i j : Int) (t u : Tok) (s : Shared) (Q : Value → Shared → Prop) (E : Value → Shared → Prop), Q (.bool (g i j)) s → wpAny (model X.prog X.w) X.A (f (.int i t) (.int j u)) Q E s) :
    OpR X f (rI0 fun i j => .bl (g i j)) := by
  intro pins s σ H x y v u Q I rx ry h
  obtain ⟨i, j, rfl, rfl, q⟩ := h
  obtain ⟨t, rfl⟩ := rx
  obtain ⟨t', rfl⟩ := ry
  exact rule i j t t' s _ _ ⟨.bl (g i j), H, I, rfl, q⟩
def CDiv (i j : Int) : Prop := 0 < j ∧ j < 1073741824
def CMul (i j : Int) : Prop := (-(2 ^ 64) < i ∧ i < 2 ^ 64) ∨ (-(2 ^ 64) < j ∧ j < 2 ^ 64)
theorem CMul.ok {i j : Int} (h : CMul i j) : IntMulOk i j := by
  rcases h with ⟨h1, h2⟩ | ⟨h1, h2⟩
  · exact .of_left (intBits_le_64 h1 h2)
  · exact .of_right (intBits_le_64 h1 h2)
theorem op_add : OpR X (binaryOp .Add) (rI0 fun i j => .int (i + j)) := opI0 fun _ _ _ _ _ _ _ q => add_int q
theorem op_sub : OpR X (binaryOp .Sub) (rI0 fun i j => .int (i - j)) := opI0 fun _ _ _ _ _ _ _ q => sub_int q
theorem op_mul : OpR X (binaryOp .Mult) (rI CMul fun i j => .int (i * j)) := opI fun _ _ _ _ _ _ _ hc q => mul_int q hc.ok
theorem op_fdiv : OpR X (binaryOp .FloorDiv) (rI CDiv fun i j => .int (i / j)) := opI fun i j _ _ _ _ _ hc q => by
  have h1 : (0 : Int) < j := hc.1
  have h2 : j < 1073741824 := hc.2
  exact floordiv_int (by omega) (by rw [Int.fdiv_eq_ediv_of_nonneg i (by omega)]; exact q) (.inl (PyProof.noPylong_small (by omega)))
theorem op_mod : OpR X (binaryOp .Mod) (rI (fun _ j => 0 < j) fun i j => .int (i % j)) := opI fun i j _ _ _ _ _ hc q => by
  have h1 : (0 : Int) < j := hc
  exact mod_int' (by omega) (by rw [Int.fmod_eq_emod_of_nonneg i (by omega)]; exact q)
theorem unI {f : Value → Sem Value} {g : Int → Int}
    (rule : ∀ (i : Int) (t : Tok) (s : Shared) (Q : Value → Shared → Prop) (E : Value → Shared → Prop), Q (.int (g i) s.toks) { s with toks := s.toks + 1 } → wpAny (model X.prog X.w) X.A (f (.int i t)) Q E s) :
    UnR X f (rU fun i => .int (g i)) := by
  intro pins s σ H x v Q I rx h
  obtain ⟨i, rfl, q⟩ := h
  obtain ⟨t, rfl⟩ := rx
  exact rule i t s _ _ ⟨.int (g i), H, I.tok _, ⟨_, rfl⟩, q⟩
theorem un_neg : UnR X (unaryOp .USub) (rU fun i => .int (-i)) := unI fun _ _ _ _ _ q => neg_int q
end
def scal : V → V → Bool
  | .non, .non => true | .non, .int _ => true | .int _, .non => true | .non, .bl _ => true | .bl _, .non => true | .non, .str _ => true | .str _, .non => true
  | .int _, .int _ => true | .bl _, .bl _ => true | .str _, .str _ => true | .byt _, .byt _ => true
  | .int _, .str _ => true | .str _, .int _ => true | .bl _, .str _ => true | .str _, .bl _ => true
  | _, _ => false
def rEq : R2 := fun x y H Q => scal x y = true ∧ Q (.bl (decide (x = y))) H
def rNe : R2 := fun x y H Q => scal x y = true ∧ Q (.bl (!decide (x = y))) H
theorem dec_int {i j : Int} : decide (V.int i = V.int j) = (i == j) := by
  rw [Bool.eq_iff_iff]
  simp
theorem dec_bl {i j : Bool} : decide (V.bl i = V.bl j) = (i == j) := by
  rw [Bool.eq_iff_iff]
  simp
theorem dec_str {i j : Str} : decide (V.str i = V.str j) = (i == j) := by
  rw [Bool.eq_iff_iff]
  simp
theorem dec_byt {i j : Array UInt8} : decide (V.byt i = V.byt j) = (i.toList == j.toList) := by
  rw [Bool.eq_iff_iff]
  cases i
  cases j
  simp
section
variable {X : Cx} {a b c : Expr} {ta tb tc : TE} {pos : Pos}
theorem fin_bl {pins : List (Addr × Obj)} {σ : St} {H : Hp} {s : Shared} {Q : VK} {k k' : Bool} (I : Inv X pins σ H s) (q : Q (.bl k) H) (e : k = k') : EP X pins σ Q (.bool k') s := by
  subst e
  exact ⟨.bl k, H, I, rfl, q⟩
theorem op_eq : OpR X (compareOp .Eq) rEq := by
  intro pins s σ H x y v u Q I rx ry h
  obtain ⟨hs, q⟩ := h
  cases x with
  | non =>
    cases rx
    cases y with
    | non => cases ry; exact PySem.EqNone.eq_none_none (fin_bl I q (by simp))
    | bl j => cases ry; exact PySem.EqNone.eq_none_bool (fin_bl I q (by simp))
    | int j => obtain ⟨t', rfl⟩ := ry; exact PySem.EqNone.eq_none_int (fin_bl I q (by simp))
    | str j => obtain ⟨t', rfl⟩ := ry; exact PySem.EqNone.eq_none_str (fin_bl I q (by simp))
    | _ => exact absurd (show false = true from hs) Bool.false_ne_true
  | bl i =>
    cases rx
    cases y with
    | non => cases ry; exact PySem.EqNone.eq_bool_none (fin_bl I q (by simp))
    | bl j => cases ry; exact eq_bool (fin_bl I q dec_bl)
    | str j => obtain ⟨t', rfl⟩ := ry; exact PySem.EqMixed.eq_bool_str (fin_bl I q (by simp))
    | _ => exact absurd (show false = true from hs) Bool.false_ne_true
  | int i =>
    obtain ⟨t, rfl⟩ := rx
    cases y with
    | non => cases ry; exact PySem.EqNone.eq_int_none (fin_bl I q (by simp))
    | int j => obtain ⟨t', rfl⟩ := ry; exact eq_int (fin_bl I q dec_int)
    | str j => obtain ⟨t', rfl⟩ := ry; exact PySem.EqMixed.eq_int_str (fin_bl I q (by simp))
    | _ => exact absurd (show false = true from hs) Bool.false_ne_true
  | str i =>
    obtain ⟨t, rfl⟩ := rx
    cases y with
    | non => cases ry; exact PySem.EqNone.eq_str_none (fin_bl I q (by simp))
    | bl j => cases ry; exact PySem.EqMixed.eq_str_bool (fin_bl I q (by simp))
    | int j => obtain ⟨t', rfl⟩ := ry; exact PySem.EqMixed.eq_str_int (fin_bl I q (by simp))
    | str j => obtain ⟨t', rfl⟩ := ry; exact eq_str (fin_bl I q dec_str)
    | _ => exact absurd (show false = true from hs) Bool.false_ne_true
  | byt i =>
    obtain ⟨t, rfl⟩ := rx
    cases y with
    | byt j => obtain ⟨t', rfl⟩ := ry; exact PySem.W.eq_bytes (fin_bl I q dec_byt)
    | _ => exact absurd (show false = true from hs) Bool.false_ne_true
  | _ => cases y <;> exact absurd (show false = true from hs) Bool.false_ne_true
theorem op_ne : OpR X (compareOp .NotEq) rNe := by
  intro pins s σ H x y v u Q I rx ry h
  obtain ⟨hs, q⟩ := h
  cases x with
  | non =>
    cases rx
    cases y with
    | non => cases ry; exact PySem.EqNone.ne_none_none (fin_bl I q (by simp))
    | bl j => cases ry; exact PySem.EqNone.ne_none_bool (fin_bl I q (by simp))
    | int j => obtain ⟨t', rfl⟩ := ry; exact PySem.EqNone.ne_none_int (fin_bl I q (by simp))
    | str j => obtain ⟨t', rfl⟩ := ry; exact PySem.EqNone.ne_none_str (fin_bl I q (by simp))
    | _ => exact absurd (show false = true from hs) Bool.false_ne_true
  | bl i =>
    cases rx
    cases y with
    | non => cases ry; exact PySem.EqNone.ne_bool_none (fin_bl I q (by simp))
    | bl j => cases ry; exact ne_bool (fin_bl I q (congrArg not dec_bl))
    | str j => obtain ⟨t', rfl⟩ := ry; exact PySem.EqMixed.ne_bool_str (fin_bl I q (by simp))
    | _ => exact absurd (show false = true from hs) Bool.false_ne_true
  | int i =>
    obtain ⟨t, rfl⟩ := rx
    cases y with
    | non => cases ry; exact PySem.EqNone.ne_int_none (fin_bl I q (by simp))
    | int j => obtain ⟨t', rfl⟩ := ry; exact ne_int (fin_bl I q (congrArg not dec_int))
    | str j => obtain ⟨t', rfl⟩ := ry; exact PySem.EqMixed.ne_int_str (fin_bl I q (by simp))
    | _ => exact absurd (show false = true from hs) Bool.false_ne_true
  | str i =>
    obtain ⟨t, rfl⟩ := rx
    cases y with
    | non => cases ry; exact PySem.EqNone.ne_str_none (fin_bl I q (by simp))
    | bl j => cases ry; exact PySem.EqMixed.ne_str_bool (fin_bl I q (by simp))
    | int j => obtain ⟨t', rfl⟩ := ry; exact PySem.EqMixed.ne_str_int (fin_bl I q (by simp))
    | str j => obtain ⟨t', rfl⟩ := ry; exact ne_str (fin_bl I q (congrArg not dec_str))
    | _ => exact absurd (show false = true from hs) Bool.false_ne_true
  | byt i =>
    obtain ⟨t, rfl⟩ := rx
    cases y with
    | byt j => obtain ⟨t', rfl⟩ := ry; exact PySem.W.ne_bytes (fin_bl I q (congrArg not dec_byt))
    | _ => exact absurd (show false = true from hs) Bool.false_ne_true
  | _ => cases y <;> exact absurd (show false = true from hs) Bool.false_ne_true
theorem op_lt : OpR X (compareOp .Lt) (rI0 fun i j => .bl (decide (i < j))) := opB0 fun _ _ _ _ _ _ _ q => lt_int q
theorem op_le : OpR X (compareOp .LtE) (rI0 fun i j => .bl (decide (i ≤ j))) := opB0 fun _ _ _ _ _ _ _ q => le_int q
theorem op_gt : OpR X (compareOp .Gt) (rI0 fun i j => .bl (decide (j < i))) := opB0 fun _ _ _ _ _ _ _ q => gt_int q
theorem op_ge : OpR X (compareOp .GtE) (rI0 fun i j => .bl (decide (j ≤ i))) := opB0 fun _ _ _ _ _ _ _ q => ge_int q
theorem op_isN : OpR X (compareOp .Is) (fun x y H Q => y = .non ∧ Q (.bl (decide (x = .non))) H) := by
  intro pins s σ H x y v u Q I rx ry h
  obtain ⟨rfl, q⟩ := h
  cases ry
  refine is_none_gen (fin_bl I q ?_)
  cases x <;> first
    | (cases rx; rfl)
    | (obtain ⟨t, rfl⟩ := rx; rfl)
theorem op_notN : OpR X (compareOp .IsNot) (fun x y H Q => y = .non ∧ Q (.bl (!decide (x = .non))) H) := by
  intro pins s σ H x y v u Q I rx ry h
  obtain ⟨rfl, q⟩ := h
  cases ry
  refine isnot_none_gen (fin_bl I q ?_)
  cases x <;> first
    | (cases rx; rfl)
    | (obtain ⟨t, rfl⟩ := rx; rfl)
theorem nomark (b : Expr) {op : CmpOp} (h : op ≠ .In := by decide) (h2 : op ≠ .NotIn := by decide) : behindInMarks op b = false := by
  have e1 : (op == CmpOp.In) = false := by cases op <;> first | rfl | exact absurd rfl h
  have e2 : (op == CmpOp.NotIn) = false := by cases op <;> first | rfl | exact absurd rfl h2
  cases b <;> simp [behindInMarks, e1, e2]
theorem pe_cmpR {op : CmpOp} {r : R2} (ho : OpR X (compareOp op) r) (ha : PE X a ta) (hb : PE X b tb) (hm : behindInMarks op b = false) : PE X (.Compare a [op] [b] pos) (tOp r ta tb) := by
  intro pins s σ H Q I h
  exact wpAny_Compare1 (binT ha hb I h fun v u s2 x y H2 I2 rx ry q => ho pins s2 σ H2 x y v u Q I2 rx ry q) hm
def tTest (t : TE) : TT := fun σ H Q => t σ H fun x H' => ∃ k, x = .bl k ∧ Q k H'
theorem pt_cmpR {op : CmpOp} {r : R2} (ho : OpR X (compareOp op) r) (ha : PE X a ta) (hb : PE X b tb) (hm : behindInMarks op b = false) : PT X (.Compare a [op] [b] pos) (tTest (tOp r ta tb)) := by
  intro pins s σ H Q I h
  refine wpAny_isTrue_Compare1 (thn (ha pins s σ H _ I h) fun v s1 ⟨x, H1, I1, r1, q1⟩ => thn (hb pins s1 σ H1 _ I1 q1) fun u s2 ⟨y, H2, I2, r2, q2⟩ =>
    thn (ho pins s2 σ H2 x y v u _ I2 r1 r2 q2) fun c s3 ⟨z, H3, I3, r3, k, e, q3⟩ => ?_) hm
  subst e
  cases r3
  exact wpAny_truthy_bool ⟨H3, I3, q3⟩
def tChain (r r' : R2) (ta tb tc : TE) : TE := fun σ H Q => ta σ H fun x H1 => tb σ H1 fun y H2 => r x y H2 fun z H3 => ∃ k, z = .bl k ∧
  (if k = true then tc σ H3 fun w' H4 => r' y w' H4 Q else Q (.bl false) H3)
theorem pe_chain {op op' : CmpOp} {r r' : R2} (ho : OpR X (compareOp op) r) (ho' : OpR X (compareOp op') r') (ha : PE X a ta) (hb : PE X b tb) (hc : PE X c tc)
    (hm : lastMarks [op, op'] [b, c] = false := by with_unfolding_all rfl) : PE X (.Compare a [op, op'] [b, c] pos) (tChain r r' ta tb tc) := by
  intro pins s σ H Q I h
  refine Compare_chain (thn (ha pins s σ H _ I h) fun v s1 ⟨x, H1, I1, r1, q1⟩ => chain_link (thn (hb pins s1 σ H1 _ I1 q1) fun u s2 ⟨y, H2, I2, r2, q2⟩ =>
    thn (ho pins s2 σ H2 x y v u _ I2 r1 r2 q2) fun d s3 ⟨z, H3, I3, r3, k, e, q3⟩ => ?_)) hm
  subst e
  cases r3
  refine wpAny_truthy_bool ?_
  cases k with
  | false => exact ite_ff ⟨.bl false, H3, I3, rfl, q3⟩
  | true => exact ite_tt (chain_last (thn (hc pins s3 σ H3 _ I3 q3) fun w' s4 ⟨z', H4, I4, r4, q4⟩ => ho' pins s4 σ H4 y z' u w' Q I4 r2 r4 q4))
theorem line63 : (sizeLine : Nat) < 2 ^ 63 := by rw [sizeLine_eq]; decide
theorem op_add_str : OpR X (binaryOp .Add) (fun x y H Q => ∃ i j, x = .str i ∧ y = .str j ∧ i.length + j.length ≤ sizeLine ∧ Q (.str (i ++ j)) H) := by
  intro pins s σ H x y v u Q I rx ry h
  obtain ⟨i, j, rfl, rfl, hz, q⟩ := h
  obtain ⟨t, rfl⟩ := rx
  obtain ⟨t', rfl⟩ := ry
  exact add_str (fun t' tk => ⟨.str (i ++ j), H, I.tok _, ⟨_, rfl⟩, q⟩) hz
theorem vals1 {x : V} {us : List Value} (r : Vals [x] us) : ∃ u, us = [u] ∧ RelV x u := by
  cases r with
  | cons r1 r2 => cases r2; exact ⟨_, rfl, r1⟩
theorem vals2 {x y : V} {us : List Value} (r : Vals [x, y] us) : ∃ u w', us = [u, w'] ∧ RelV x u ∧ RelV y w' := by
  cases r with
  | cons r1 r2 =>
    cases r2 with
    | cons r3 r4 => cases r4; exact ⟨_, _, rfl, r1, r3⟩
theorem call_int1 : CallR X (.type "int") (fun xs H Q => (∃ i, xs = [.int i] ∧ Q (.int i) H) ∨ ∃ k, xs = [.bl k] ∧ Q (.int (if k then 1 else 0)) H) := by
  intro pins s σ H xs us Q I r h
  rcases h with ⟨i, rfl, q⟩ | ⟨k, rfl, q⟩
  · obtain ⟨u, rfl, t, rfl⟩ := vals1 r
    exact call_int_int ⟨.int i, H, I, ⟨_, rfl⟩, q⟩
  · obtain ⟨u, rfl, r1⟩ := vals1 r
    cases r1
    exact call_int_bool ⟨.int (if k then 1 else 0), H, I.tok _, ⟨_, rfl⟩, q⟩
theorem call_str_int : CallR X (.type "str") (fun xs H Q => ∃ i, xs = [.int i] ∧ i.natAbs.log2 < 1920 ∧ Q (.str (toString i)) H) := by
  intro pins s σ H xs us Q I r h
  obtain ⟨i, rfl, hz, q⟩ := h
  obtain ⟨u, rfl, t, rfl⟩ := vals1 r
  exact PySem.P.str_of_int hz ⟨.str _, H, I.tok _, ⟨_, rfl⟩, q⟩
end
end L2
namespace L2
open PySem PySem.Spec PyProof.Rows
structure ObjM (h : Heap) (x dx C : Addr) (mA : Str → Option Value) : Prop where
  obj : h.get? x = some (PySem.W.instObj C dx)
  ns : h.Ns1 dx mA
  ne : dx ≠ x
theorem lookIn_ns {h : Heap} {dx : Addr} {mA : Str → Option Value} (n : h.Ns1 dx mA) : ∃ od, h.get? dx = some od ∧ ∀ name, PySem.W.lookIn name od = some (mA name) := by
  obtain ⟨o, es, ep, ho, hd, hk, _, hm⟩ := n
  refine ⟨o, ho, fun name => ?_⟩
  have e := hm name
  unfold nsFind findBy at e
  rw [← Array.find?_toList] at e
  unfold PySem.W.lookIn
  rw [hd]
  dsimp only
  split
  · rename_i y q
    rw [q] at e
    exact congrArg some e
  · rename_i q
    rw [q] at e
    have a : es.toList.any (·.refKey) = false := by
      rw [List.any_eq_false]
      intro y hy
      obtain ⟨z, t, hkey⟩ := hk y (Array.mem_toList_iff.mp hy)
      simp [DictEntry.refKey, hkey]
    have a' : ¬ es.toList.any (·.refKey) = true := by rw [a]; exact Bool.false_ne_true
    rw [if_neg a']
    exact congrArg some e
theorem ObjM.look {h : Heap} {x dx C : Addr} {mA : Str → Option Value} (I : ObjM h x dx C mA) : ∃ od, PySem.W.InstAt h x (PySem.W.instObj C dx) C (some od) ∧ ∀ name, PySem.W.lookIn name od = some (mA name) :=
  let ⟨od, ho, hl⟩ := lookIn_ns I.ns
  ⟨od, ⟨I.obj, rfl, rfl, ho⟩, hl⟩
section
variable {prog : Program} {w : World} {A : Around} {E : Value → Shared → Prop} {s : Shared} {K : PySem.W.Frag} {x dx C f : Addr} {mA : Str → Option Value} {name : Str} {v : Value}
theorem get_map {expr : Bool} {Q : Value → Shared → Prop} (X : K.In s.heap) (I : ObjM s.heap x dx C mA) (hg : PySem.W.plainGet K C name = true) (hh : PySem.W.hasDictIn K C = true)
    (ha : PySem.W.findIn K (.ref C) name = some none) (hv : mA name = some v) (hv' : PySem.W.handedIn v = true) (h : Q v { s with toks := s.toks + 1 }) :
    wpAny (model prog w) A (getAttr (.ref x) name expr) Q E s := by
  obtain ⟨od, J, hl⟩ := I.look
  exact PySem.W.get_value X J (PySem.W.plainGet_of hg).1 (PySem.W.findObj_own hh ha rfl (by rw [hl, hv])) hv' h
theorem get_meth {pl : Sem Bool} {Q : Value × List Value → Shared → Prop} (X : K.In s.heap) (I : ObjM s.heap x dx C mA) (hg : PySem.W.plainGet K C name = true)
    (hf : PySem.W.findIn K (.ref C) name = some (some (.ref f))) (ht : PySem.W.isFn K (.ref f) = true) (hv : mA name = none) (h : Q (.ref f, [.ref x]) s) :
    wpAny (model prog w) A (getMethod (.ref x) name pl) Q E s := by
  obtain ⟨od, J, hl⟩ := I.look
  exact PySem.W.method_fn X J (PySem.W.plainGet_of hg).1 (PySem.W.plainGet_of hg).2 hf (beq_iff_eq.mp ht) (by show (PySem.W.lookIn name od).map (·.isSome) = some false; rw [hl, hv]; rfl) h
theorem set_map {ns : List Str} {Q : Unit → Shared → Prop} (X : K.In s.heap) (I : ObjM s.heap x dx C mA)
    (hs : PySem.W.findIn K (.ref C) "__setattr__" = some (some (.builtin "object.__setattr__"))) (hp : PySem.W.plainOver K C = true) (ht : PySem.W.takerIn K C name = some none) (hh : PySem.W.hasDictIn K C = true)
    (hw : PySem.Within mA ns) (hsz : ns.length ≤ sizeLine)
    (h : ∀ h', ObjM h' x dx C (fun y => if y = name then some v else mA y) → Heap.SameBut dx s.heap h' → Q () { s with heap := h', toks := s.toks + 2 }) :
    wpAny (model prog w) A (setAttr (.ref x) name v) Q E s := by
  obtain ⟨od, J, hl⟩ := I.look
  refine PySem.W.set_plain X J hs (PySem.W.osa_open (s := { s with toks := s.toks + 1 }) (r := none) X J hp ht fun b => ?_)
  obtain ⟨cd, hc, hd'⟩ := PySem.W.any_some hh
  have hx : s.heap.get? x = some ⟨.ref C, some dx, .plain, #[]⟩ := I.obj
  refine wpAny_bind (wpAny_pure (wpAny_bind (wpAny_bind (wpAny_loadPart hx (wpAny_bind (PySem.W.Looks.here (s := { s with toks := s.toks + 1 }) (PySem.W.looks_clsIn X hc) ?_))))))
  rw [hd']
  refine wpAny_pure (a := some dx) (wpAny_bind (wpAny_pure (wpAny_bind ?_)))
  refine wpAny_nsSet1 (s := { s with toks := s.toks + 1 }) I.ns fun h' hn2 hs2 => ?_
  obtain ⟨oD, esD, epD, hoD, hdD, hcD⟩ := hn2.count (PySem.Within.cons name v hw)
  refine wpAny_bind (wpAny_lookBehind hoD (by rw [hdD]; exact pastItsLine_dict (Nat.le_trans hcD (by rw [List.length_cons]; omega))) ?_)
  exact wpAny_pure (h _ ⟨(hs2.2 _ (Ne.symm I.ne)).trans I.obj, hn2, I.ne⟩ hs2)
theorem make_map {R : Result → Shared → Prop} {vs : List Value} {kw : List (Str × Value)} (X : K.In s.heap) (hm : PySem.W.makesIn K C = true)
    (hi : PySem.W.findIn K (.ref C) "__init__" = some (some (.ref f))) (hf : PySem.W.typeIn K (.ref f) = some (.type "function"))
    (h : codeAny (model prog w) (A.under (.builtin "type.__call__" ⟨.ref C :: vs, kw⟩)) (.call (.ref f) ⟨.ref (s.heap.objs.size + 1) :: vs, kw⟩) (PySem.W.InitBack (s.heap.objs.size + 1) R)
      { s with heap := (s.heap.push PySem.W.emptyDict).push (PySem.W.instObj C s.heap.objs.size) }) :
    codeAny (model prog w) A (.call (.ref C) ⟨vs, kw⟩) R s := by
  obtain ⟨hh, g, d, t, os⟩ := s
  exact PySem.W.make_core (PySem.W.makes_of X hm) (PySem.W.looks_findIn X hi) (fun self => PySem.W.bind_fn X self hf) (.inl rfl) h
end
def putF (f : Str) (v : V) : List (Str × V) → List (Str × V)
  | [] => [(f, v)]
  | (g, x) :: r => if g = f then (g, v) :: r else (g, x) :: putF f v r
theorem lookup_putF (f g : Str) (v : V) : ∀ fs : List (Str × V), (putF f v fs).lookup g = if g = f then some v else fs.lookup g
  | [] => by
    show List.lookup g [(f, v)] = _
    by_cases h : g = f
    · have hb : (g == f) = true := beq_iff_eq.mpr h
      simp only [List.lookup, hb, if_pos h]
    · have hb : (g == f) = false := beq_eq_false_iff_ne.mpr h
      simp only [List.lookup, hb, if_neg h]
  | (k, x) :: r => by
    have ih := lookup_putF f g v r
    rw [show putF f v ((k, x) :: r) = (if k = f then (k, v) :: r else (k, x) :: putF f v r) from rfl]
    by_cases hk : k = f
    · rw [if_pos hk]
      by_cases h : g = k
      · have hb : (g == k) = true := beq_iff_eq.mpr h
        simp only [List.lookup, hb, if_pos (h.trans hk)]
      · have hb : (g == k) = false := beq_eq_false_iff_ne.mpr h
        simp only [List.lookup, hb, if_neg (fun e : g = f => h (e.trans hk.symm))]
    · rw [if_neg hk]
      by_cases h : g = k
      · have hb : (g == k) = true := beq_iff_eq.mpr h
        simp only [List.lookup, hb, if_neg (fun e : g = f => hk (h.symm.trans e))]
      · have hb : (g == k) = false := beq_eq_false_iff_ne.mpr h
        simp only [List.lookup, hb]
        exact ih
theorem keys_putF (f : Str) (v : V) : ∀ fs : List (Str × V), f ∈ (putF f v fs).map (·.1) ∧ ∀ g, g ∈ fs.map (·.1) → g ∈ (putF f v fs).map (·.1)
  | [] => ⟨by simp [putF], fun g h => by simp at h⟩
  | (k, x) :: r => by
    obtain ⟨i1, i2⟩ := keys_putF f v r
    rw [show putF f v ((k, x) :: r) = (if k = f then (k, v) :: r else (k, x) :: putF f v r) from rfl]
    by_cases hk : k = f
    · rw [if_pos hk]
      subst hk
      exact ⟨by simp, fun g h => by simpa using h⟩
    · rw [if_neg hk]
      refine ⟨?_, fun g h => ?_⟩
      · rw [List.map_cons]
        exact List.mem_cons_of_mem _ i1
      · rw [List.map_cons] at h ⊢
        rcases List.mem_cons.mp h with e | e
        · exact List.mem_cons.mpr (.inl e)
        · exact List.mem_cons_of_mem _ (i2 g e)
theorem length_putF (f : Str) (v : V) : ∀ fs : List (Str × V), (putF f v fs).length ≤ fs.length + 1
  | [] => by simp [putF]
  | (k, x) :: r => by
    have ih := length_putF f v r
    rw [show putF f v ((k, x) :: r) = (if k = f then (k, v) :: r else (k, x) :: putF f v r) from rfl]
    by_cases hk : k = f
    · rw [if_pos hk, List.length_cons, List.length_cons]; omega
    · rw [if_neg hk, List.length_cons, List.length_cons]; omega
theorem RelO.some_of {v : V} {o : Option Value} (r : RelO (some v) o) : ∃ u, o = some u ∧ RelV v u := by
  cases o with
  | none => exact (show False from r).elim
  | some u => exact ⟨u, rfl, r⟩
theorem RelO.none_of {o : Option Value} (r : RelO none o) : o = none := by
  cases o with
  | none => rfl
  | some u => exact (show False from r).elim
theorem handed_of {v : V} {u : Value} (r : RelV v u) : PySem.W.handedIn u = true := by
  cases v with
  | non => cases (show u = Value.none from r); rfl
  | bl b => cases (show u = Value.bool b from r); rfl
  | int i => obtain ⟨t, e⟩ := (show ∃ t, u = Value.int i t from r); cases e; rfl
  | str x => obtain ⟨t, e⟩ := (show ∃ t, u = Value.str x t from r); cases e; rfl
  | byt b => obtain ⟨t, e⟩ := (show ∃ t, u = Value.bytes b t from r); cases e; rfl
  | flt b => obtain ⟨t, e⟩ := (show ∃ t, u = Value.float b t from r); cases e; rfl
  | ref a => cases (show u = Value.ref a from r); rfl
  | ty n => cases (show u = Value.type n from r); rfl
section
variable {P : Program} {w : World} {H H' : Hp} {h h' : Heap} {a C dx : Addr} {fs fs' : List (Str × V)}
theorem ins_get (hok : HOk P w H h) (e : H a = some (.ins C dx fs)) : ∃ mA, ObjM h a dx C mA ∧ (∀ f, RelO (fs.lookup f) (mA f)) ∧ PySem.Within mA (fs.map (·.1)) ∧ fs.length ≤ 1000 ∧ H dx = some (.own a) := by
  obtain ⟨d, z, ne, ob, mA, n, r, q⟩ := (show ObjOk P w H h a (.ins C dx fs) from hok a _ e)
  exact ⟨mA, ⟨ob, n, ne⟩, r, q, z, d⟩
end
structure Cls (K : PySem.W.Frag) (C : Addr) : Prop where
  pg : PySem.W.plainGet K C Str.empty = true
  hd : PySem.W.hasDictIn K C = true
  po : PySem.W.plainOver K C = true
  sa : PySem.W.findIn K (.ref C) "__setattr__" = some (some (.builtin "object.__setattr__"))
theorem Cls.get {K : PySem.W.Frag} {C : Addr} (c : Cls K C) (f : Str) : PySem.W.plainGet K C f = true := c.pg
def NoAttr (K : PySem.W.Frag) (C : Addr) (f : Str) : Prop := PySem.W.findIn K (.ref C) f = some none
theorem NoAttr.taker {K : PySem.W.Frag} {C : Addr} {f : Str} (n : NoAttr K C f) : PySem.W.takerIn K C f = some none := by
  unfold PySem.W.takerIn
  rw [show PySem.W.findIn K (.ref C) f = some none from n]
  rfl
structure Meth (K : PySem.W.Frag) (C : Addr) (m : Str) (f : Addr) : Prop where
  at_ : PySem.W.findIn K (.ref C) m = some (some (.ref f))
  fn : PySem.W.isFn K (.ref f) = true
  kp : PySem.W.keepIn K (.ref f) = true
section
variable {X : Cx} {pins : List (Addr × Obj)} {σ : St} {H : Hp} {s : Shared} {a C dx : Addr} {fs : List (Str × V)} {f : Str} {v : V} {A : Around} {E : Value → Shared → Prop}
theorem getattr_ok {b : Bool} {Q : Value → Shared → Prop} (I : Inv X pins σ H s) (e : H a = some (.ins C dx fs)) (c : Cls X.K C) (n : NoAttr X.K C f) (l : fs.lookup f = some v)
    (h : ∀ u s', Inv X pins σ H s' → RelV v u → Q u s') : wpAny (model X.prog X.w) A (getAttr (.ref a) f b) Q E s := by
  obtain ⟨mA, O, r, _, _, _⟩ := ins_get I.hok e
  obtain ⟨u, hu, ru⟩ := RelO.some_of (v := v) (o := mA f) (by rw [← l]; exact r f)
  exact get_map I.kIn O (c.get f) c.hd n hu (handed_of ru) (h u _ (I.tok _) ru)
theorem getmeth_ok {m : Str} {g : Addr} {pl : Sem Bool} {Q : Value × List Value → Shared → Prop} (I : Inv X pins σ H s) (e : H a = some (.ins C dx fs)) (c : Cls X.K C) (k : Meth X.K C m g) (l : fs.lookup m = none)
    (h : Q (.ref g, [.ref a]) s) : wpAny (model X.prog X.w) A (getMethod (.ref a) m pl) Q E s := by
  obtain ⟨mA, O, r, _, _, _⟩ := ins_get I.hok e
  have hn : mA m = none := RelO.none_of (by rw [← l]; exact r m)
  exact get_meth I.kIn O (c.get m) k.at_ k.fn hn h
theorem setattr_ok {y : V} {u : Value} {Q : Unit → Shared → Prop} (I : Inv X pins σ H s) (e : H a = some (.ins C dx fs)) (c : Cls X.K C) (n : NoAttr X.K C f) (hl : fs.length < 1000) (ry : RelV y u)
    (h : ∀ s', Inv X pins σ (upd H a (.ins C dx (putF f y fs))) s' → Q () s') : wpAny (model X.prog X.w) A (setAttr (.ref a) f u) Q E s := by
  obtain ⟨mA, O, r, wi, _, ho⟩ := ins_get I.hok e
  have hz : (fs.map (·.1)).length ≤ sizeLine := by rw [List.length_map, sizeLine_eq]; omega
  refine set_map I.kIn O c.sa c.po n.taker c.hd wi hz fun h' O' sb => h _ ?_
  have hd : ∃ o, h'.get? dx = some o := let ⟨o, _, _, e', _⟩ := O'.ns; ⟨o, e'⟩
  refine I.write (x := a) (e := dx) (by rw [e]; exact True.intro) (.inr ho) (fun b q hb z => (sb.2 b hb).trans z) hd ?_
  refine ⟨by rw [upd_ne O.ne]; exact ho, ?_, O.ne, O'.obj, _, O'.ns, fun g => ?_, fun g hg => ?_⟩
  · have := length_putF f y fs; omega
  · show RelO ((putF f y fs).lookup g) (if g = f then some u else mA g)
    rw [lookup_putF]
    by_cases q : g = f
    · rw [if_pos q, if_pos q]; exact ry
    · rw [if_neg q, if_neg q]; exact r g
  · by_cases q : g = f
    · rw [q]; exact (keys_putF f y fs).1
    · refine (keys_putF f y fs).2 g (wi g fun z => hg ?_)
      show (if g = f then some u else mA g) = none
      rw [if_neg q]; exact z
theorem Inv.made (I : Inv X pins σ H s) : Inv X pins σ (upd (upd H s.heap.objs.size (.own (s.heap.objs.size + 1))) (s.heap.objs.size + 1) (.ins C s.heap.objs.size []))
    { s with heap := (s.heap.push PySem.W.emptyDict).push (PySem.W.instObj C s.heap.objs.size) } := by
  have e1 : (s.heap.push PySem.W.emptyDict).get? s.heap.objs.size = some PySem.W.emptyDict := Heap.get?_push_size s.heap rfl
  have e2 : ((s.heap.push PySem.W.emptyDict).push (PySem.W.instObj C s.heap.objs.size)).get? (s.heap.objs.size + 1) = some (PySem.W.instObj C s.heap.objs.size) := by
    have := Heap.get?_push_size (s.heap.push PySem.W.emptyDict) (o := PySem.W.instObj C s.heap.objs.size) rfl
    rwa [Heap.size_push] at this
  have e3 : (s.heap.push PySem.W.emptyDict).Ns s.heap.objs.size (fun _ => none) := ⟨PySem.W.emptyDict, #[], _, e1, rfl, (fun e he => absurd he (by simp)), fun _ => rfl⟩
  have I1 := I.laid (a := s.heap.objs.size) (o := .own (s.heap.objs.size + 1)) (h' := s.heap.push PySem.W.emptyDict) (t' := s.toks) (fun b u q => Heap.get?_push_of_some _ q) (Nat.le_refl _) ⟨_, e1⟩
  refine I1.laid (a := s.heap.objs.size + 1) (o := .ins C s.heap.objs.size []) (t' := s.toks) (fun b u q => Heap.get?_push_of_some _ q) (Nat.le_of_eq (Heap.size_push _ _)) ?_
  have ne : s.heap.objs.size ≠ s.heap.objs.size + 1 := Nat.ne_of_lt (Nat.lt_succ_self _)
  refine ⟨by rw [upd_ne ne, upd_same], Nat.zero_le _, ne, e2, fun _ => none, (Heap.Ns1.of_empty e3).at fun o q => Heap.get?_push_of_some _ q, fun _ => True.intro, fun y hy => absurd rfl hy⟩
theorem attr_of {prog : Program} {w : World} {env : Env} {e : Expr} {f : Str} {pos : Pos} {s : Shared} {Q : Value → Shared → Prop} (hb : attributeBase e f env (eval e env) = eval e env)
    (h : wpAny (model prog w) A (eval e env) (fun o s₁ => wpAny (model prog w) A (getAttr o f true) Q E s₁) E s) : wpAny (model prog w) A (eval (.Attribute e f pos) env) Q E s :=
  Attribute_any_ h (by rw [arm_eval_Attribute, hb])
end
def tFld (K : PySem.W.Frag) (ta : TE) (f : Str) : TE := fun σ H Q => ta σ H fun x H1 => ∃ a C dx fs v, x = .ref a ∧ H1 a = some (.ins C dx fs) ∧ Cls K C ∧ NoAttr K C f ∧ fs.lookup f = some v ∧ Q v H1
def sFld (K : PySem.W.Frag) (ta tv : TE) (f : Str) : TS := fun D σ H => tv σ H fun y H1 => ta σ H1 fun x H2 => ∃ a C dx fs, x = .ref a ∧ H2 a = some (.ins C dx fs) ∧ Cls K C ∧ NoAttr K C f ∧ fs.length < 1000 ∧
  D.nx σ (upd H2 a (.ins C dx (putF f y fs)))
section
variable {X : Cx} {o e value : Expr} {f : Str} {pos pos' tpos : Pos} {ta tv : TE}
theorem pe_fld (he : PE X e ta) (hb : attributeBase e f X.env (eval e X.env) = eval e X.env) : PE X (.Attribute e f pos) (tFld X.K ta f) := by
  intro pins s σ H Q I h
  refine attr_of hb (thn (he pins s σ H _ I h) fun u s1 ⟨x, H1, I1, rx, a, C, dx, fs, v, ex, ea, c, n, l, q⟩ => ?_)
  subst ex
  obtain rfl : u = Value.ref a := rx
  exact getattr_ok I1 ea c n l fun u' s2 I2 ru => ⟨v, H1, I2, ru, q⟩
theorem ps_fld (ha : PE X o ta) (hv : PE X value tv) (hs : swapsWith value (some (.Attribute o f pos')) pos.line X.env = pure false) : PS X (.Assign [.Attribute o f pos'] value pos) (sFld X.K ta tv f) := by
  intro pins s σ H D I h
  refine plainObj_wpAny_Assign_Attribute (thn (hv pins s σ H _ I h) fun u s1 ⟨y, H1, I1, ry, q⟩ => thn (ha pins s1 σ H1 _ I1 q) fun ov s2 ⟨x, H2, I2, rx, a, C, dx, fs, ex, ea, c, n, l, q2⟩ => ?_) hs
  subst ex
  obtain rfl : ov = Value.ref a := rx
  exact setattr_ok I2 ea c n l ry fun s3 I3 => ⟨σ, _, I3, q2⟩
end
section
variable {X : Cx} {pins : List (Addr × Obj)} {σ : St} {H : Hp} {s : Shared} {A : Around} {E : Value → Shared → Prop} {Q : Value → Shared → Prop} {c : Value} {b : Bool}
inductive TyOf (K : PySem.W.Frag) (H : Hp) : V → Value → Prop where
  | non : TyOf K H .non (.type "NoneType")
  | bl (x : Bool) : TyOf K H (.bl x) (.type "bool")
  | int (i : Int) : TyOf K H (.int i) (.type "int")
  | str (x : Str) : TyOf K H (.str x) (.type "str")
  | flt (x : UInt64) : TyOf K H (.flt x) (.type "float")
  | lst {a : Addr} {xs : List V} (e : H a = some (.lst xs)) : TyOf K H (.ref a) (.type "list")
  | frz {a : Addr} {o : Obj} {xs : List V} (e : H a = some (.frz o (.lst xs))) : TyOf K H (.ref a) (.type "list")
  | tup {a : Addr} {xs : List V} (e : H a = some (.tup xs)) : TyOf K H (.ref a) (.type "tuple")
  | dK {a : Addr} {kvs : List (Key × V)} (e : H a = some (.dK kvs)) : TyOf K H (.ref a) (.type "dict")
  | dT {a : Addr} {kvs : List (List Key × V)} (e : H a = some (.dT kvs)) : TyOf K H (.ref a) (.type "dict")
  | ins {a C dx : Addr} {fs : List (Str × V)} (e : H a = some (.ins C dx fs)) (cl : Cls K C) (ha : PySem.W.findIn K (.ref C) "__class__" = some (some (.builtin "object.__class__")))
      (hn : PySem.W.specialIn K (.builtin "object.__class__") "__get__" = some (some (.builtin "getset_descriptor.__get__"))) (htk : PySem.W.takesIn K (.builtin "object.__class__") = some true)
      (hm : PySem.W.mroIn K C (.type "object") = some true) : TyOf K H (.ref a) (.ref C)
theorem isinst_ok {x : V} {u t : Value} (I : Inv X pins σ H s) (rx : RelV x u) (ty : TyOf X.K H x t) (e : PySem.W.kitOne X.K t c = some b) (h : ∀ tk, Q (.bool b) { s with toks := tk }) :
    wpAny (model X.prog X.w) A (call (.builtin "isinstance") [u, c]) Q E s := by
  cases ty with
  | non => cases (show u = Value.none from rx); exact PySem.W.kia_one PySem.W.kitx_none I.kIn True.intro e (fun z => nomatch z) h
  | bl y => cases (show u = Value.bool y from rx); exact PySem.W.kia_one PySem.W.kitx_bool I.kIn True.intro e (fun z => nomatch z) h
  | int i => obtain ⟨t, q⟩ := (show ∃ t, u = Value.int i t from rx); cases q; exact PySem.W.kia_one PySem.W.kitx_int I.kIn True.intro e (fun z => nomatch z) h
  | str y => obtain ⟨t, q⟩ := (show ∃ t, u = Value.str y t from rx); cases q; exact PySem.W.kia_one PySem.W.kitx_str I.kIn True.intro e (fun z => nomatch z) h
  | flt y => obtain ⟨t, q⟩ := (show ∃ t, u = Value.float y t from rx); cases q; exact PySem.W.kia_one PySem.W.kitx_float I.kIn True.intro e (fun z => nomatch z) h
  | @lst a xs ea =>
    cases (show u = Value.ref a from rx)
    obtain ⟨_, _, n, _, h1⟩ := (show ObjOk X.prog X.w H s.heap a (.lst xs) from I.hok a _ ea)
    exact PySem.W.kia_one PySem.W.kitx_list I.kIn ⟨_, h1, rfl⟩ e (fun z => nomatch z) h
  | @frz a ob xs ea =>
    cases (show u = Value.ref a from rx)
    obtain ⟨_, _, _, n, _, h1⟩ := (show ObjOk X.prog X.w H s.heap a (.frz ob (.lst xs)) from I.hok a _ ea)
    exact PySem.W.kia_one PySem.W.kitx_list I.kIn ⟨_, h1, rfl⟩ e (fun z => nomatch z) h
  | @tup a xs ea =>
    cases (show u = Value.ref a from rx)
    obtain ⟨_, _, _, p⟩ := (show ObjOk X.prog X.w H s.heap a (.tup xs) from I.hok a _ ea)
    obtain ⟨o, h1, h2, _⟩ := p
    exact PySem.W.kia_one PySem.W.kitx_tuple I.kIn ⟨o, h1, h2⟩ e (fun z => nomatch z) h
  | @dK a kvs ea =>
    cases (show u = Value.ref a from rx)
    obtain ⟨_, _, vs, _, p⟩ := (show ObjOk X.prog X.w H s.heap a (.dK kvs) from I.hok a _ ea)
    obtain ⟨o, es, ep, h1, h2, _⟩ := p
    exact PySem.W.kia_one PySem.W.kitx_dict I.kIn ⟨o, h1, h2.1⟩ e (fun z => nomatch z) h
  | @dT a kvs ea =>
    cases (show u = Value.ref a from rx)
    obtain ⟨_, _, xs, _, o, es, ep, h1, h2, _⟩ := (show ObjOk X.prog X.w H s.heap a (.dT kvs) from I.hok a _ ea)
    exact PySem.W.kia_one PySem.W.kitx_dict I.kIn ⟨o, h1, h2.1⟩ e (fun z => nomatch z) h
  | @ins a C dx fs ea cl ha hn htk hm =>
    cases (show u = Value.ref a from rx)
    obtain ⟨mA, O, _⟩ := ins_get I.hok ea
    obtain ⟨od, J, _⟩ := O.look
    exact PySem.W.kia_one (PySem.W.kitx_own (cl.get _) cl.hd ha hn htk hm) I.kIn J e (fun z => nomatch z) h
end
end L2
namespace L2
open PySem PySem.Spec PyProof.Rows
structure Room (k : Nat) (A : Around) : Prop where
  hd : A.handled = none
  dp : A.depth + 3 * k + 5 < recursionLimit
  un : A.units + 16 * k + 200 < cLine
theorem Room.mono {j k : Nat} {A : Around} (r : Room k A) (h : j ≤ k) : Room j A := ⟨r.hd, by have := r.dp; omega, by have := r.un; omega⟩
theorem Room.deeper {k : Nat} {A : Around} (r : Room (k + 1) A) (env : Env) : Room k (A.deeper env) :=
  ⟨r.hd, by have := r.dp; show A.depth + 1 + 3 * k + 5 < _; omega, by have := r.un; show A.units + 3 + 16 * k + 200 < _; omega⟩
theorem make_depth {A : Around} {C : Addr} {us : List Value} {kw : List (Str × Value)} : (A.under (.builtin "type.__call__" ⟨.ref C :: us, kw⟩)).depth = A.depth + 1 := by
  first | rfl | simp [Around.under, Code.weight, Code.isCreation, Code.isGuard, Code.isCaller, Code.frames, Code.isFrame, guardIds]
theorem make_units {A : Around} {C : Addr} {us : List Value} {kw : List (Str × Value)} : (A.under (.builtin "type.__call__" ⟨.ref C :: us, kw⟩)).units = A.units + 1 := by
  first | rfl | simp [Around.under, Code.cUnits, Code.frames, Code.isFrame]
theorem Room.make {k : Nat} {A : Around} (r : Room (k + 1) A) (C : Addr) (us : List Value) (kw : List (Str × Value)) : Room k (A.under (.builtin "type.__call__" ⟨.ref C :: us, kw⟩)) :=
  ⟨r.hd, by have := r.dp; rw [make_depth]; omega, by have := r.un; rw [make_units]; omega⟩
theorem Room.depth {k : Nat} {A : Around} (r : Room k A) : A.depth < recursionLimit := by have := r.dp; omega
theorem Room.units {k : Nat} {A : Around} (r : Room k A) : A.units + 64 < cLine := by have := r.un; omega
def tNil : TA := fun _ H Q => Q [] H
def tCons (ta : TE) (tr : TA) : TA := fun σ H Q => ta σ H fun x H1 => tr σ H1 fun xs H2 => Q (x :: xs) H2
section
variable {X : Cx} {e : Expr} {es : List Expr} {te : TE} {t : TA} {pos : Pos}
theorem pa_nil : PA X [] tNil := fun _ _ _ _ H Q I h => Calls.spliced_nil ⟨[], H, I, .nil, h⟩
theorem pa_cons (ha : PE X e te) (hr : PA X es t) (hs : starEach (e :: es) X.env = (false, eval e X.env) :: starEach es X.env := by rfl) : PA X (e :: es) (tCons te t) := by
  intro pos pins s σ H Q I h
  rw [hs]
  show wpAny _ _ (spliced ((false, eval e X.env) :: backTo pos (starEach es X.env))) _ _ s
  refine Calls.spliced_cons (thn (ha pins s σ H _ I h) fun u s1 ⟨x, H1, I1, r1, q1⟩ => ?_)
  exact thn (hr pos pins s1 σ H1 _ I1 q1) fun us s2 ⟨xs, H2, I2, r2, q2⟩ => ⟨x :: xs, H2, I2, .cons r1 r2, q2⟩
def tTup (t : TA) : TE := fun σ H Q => t σ H fun xs H1 => xs.length ≤ sizeLine ∧ ∀ p, H1 p = none → Q (.ref p) (upd H1 p (.tup xs))
def tLst (t : TA) : TE := fun σ H Q => t σ H fun xs H1 => xs.length ≤ sizeLine ∧ ∀ p, H1 p = none → Q (.ref p) (upd H1 p (.lst xs))
theorem pe_tup {x1} (h : PA X es t) : PE X (.Tuple es x1 pos) (tTup t) := by
  intro pins s σ H Q I hq
  refine wpAny_Tuple_spliced (thn (h pos pins s σ H _ I hq) fun us s1 ⟨xs, H1, I1, r, z, q⟩ => ⟨by rw [← r.length]; exact z, ?_⟩)
  have hf : H1 s1.heap.objs.size = none := I1.hok.fresh (Nat.le_refl _)
  refine ⟨.ref s1.heap.objs.size, upd H1 s1.heap.objs.size (.tup xs), I1.laid (t' := s1.toks) (fun b u e => Heap.get?_push_of_some _ e) (Nat.le_refl _) ?_, rfl, q _ hf⟩
  exact ⟨z, us, r, ⟨_, Heap.get?_push_size _ rfl, rfl, _, rfl⟩⟩
theorem pe_lst (h : PA X es t) : PE X (.List es pos) (tLst t) := by
  intro pins s σ H Q I hq
  refine wpAny_List_spliced (thn (h pos pins s σ H _ I hq) fun us s1 ⟨xs, H1, I1, r, z, q⟩ => ⟨by rw [← r.length]; exact z, ?_⟩)
  have hf : H1 s1.heap.objs.size = none := I1.hok.fresh (Nat.le_refl _)
  refine ⟨.ref s1.heap.objs.size, upd H1 s1.heap.objs.size (.lst xs), I1.laid (t' := s1.toks) (fun b u e => Heap.get?_push_of_some _ e) (Nat.le_refl _) ?_, rfl, q _ hf⟩
  exact ⟨z, us, 0, r, Heap.get?_push_size _ rfl⟩
end
abbrev Sp := List V → Hp → VK → XK → Prop
abbrev CXT := List Env → Hp → Shared → XK → Value → Shared → Prop
structure Env0 (P : Program) (w : World) (K : PySem.W.Frag) (mg : Str → Option Value) (base : Heap) (A : Around) (outer : List Env) (s : Shared) (H : Hp) : Prop where
  frames : A.frames = some outer
  mod : Mod K mg base
  bs : ∀ b o, base.get? b = some o → s.heap.get? b = some o ∧ H b = none
  bsz : base.objs.size ≤ s.heap.objs.size
  funs : s.heap.FunFrames base outer
  frf : ∀ b ∈ frs outer, H b = none
  hok : HOk P w H s.heap
  bare : AllBare s.gens
def CE (outer : List Env) (P : Program) (w : World) (H : Hp) (s : Shared) (Q : VK) (u : Value) (s' : Shared) : Prop :=
  ∃ v H', s'.os = s.os ∧ AllBare s'.gens ∧ Un (frs outer) [] H H' s.heap s'.heap ∧ HOk P w H' s'.heap ∧ RelV v u ∧ Q v H'
def CR (CX : CXT) (outer : List Env) (P : Program) (w : World) (H : Hp) (s : Shared) (Q : VK) (E : XK) (r : Result) (s' : Shared) : Prop :=
  match r with
  | .ok (.ret u) => CE outer P w H s Q u s'
  | .ok _ => False
  | .error e => CX outer H s E e s'
structure FnOk (P : Program) (w : World) (K : PySem.W.Frag) (mg : Str → Option Value) (base : Heap) (CX : CXT) (k : Nat) (f : Addr) (fd : FuncData) (ps : List Str) (sp : Sp) : Prop where
  len : ∀ vs H Q E, sp vs H Q E → vs.length = ps.length
  run : ∀ (A : Around) (outer : List Env) (s : Shared) (H : Hp) (args : Args) (us : List Value) (vs : List V) (Q : VK) (E : XK), Room k A → Env0 P w K mg base A outer s H → BindsTo s fd args (ps.zip us) → Vals vs us → sp vs H Q E →
    codeAny (model P w) A (.call (.ref f) args) (CR CX outer P w H s Q E) s
theorem Env0.make {P : Program} {w : World} {K : PySem.W.Frag} {mg : Str → Option Value} {base : Heap} {A : Around} {outer : List Env} {s : Shared} {H : Hp} (e : Env0 P w K mg base A outer s H) (C : Addr) (us : List Value) (kw : List (Str × Value)) :
    Env0 P w K mg base (A.under (.builtin "type.__call__" ⟨.ref C :: us, kw⟩)) outer s H := ⟨by first | exact e.frames | (simpa [Around.under, Code.envs, Code.isFrame, pushEnvs] using e.frames), e.mod, e.bs, e.bsz, e.funs, e.frf, e.hok, e.bare⟩
section
variable {X : Cx} {pins : List (Addr × Obj)} {σ : St} {H : Hp} {s s' : Shared}
theorem Inv.env0 (I : Inv X pins σ H s) : Env0 X.prog X.w X.K X.mg X.base X.A X.stack s H :=
  ⟨I.ok.frames, I.ok.mod, I.bs, Nat.le_trans I.ok.bsz I.sz, I.stack, I.stkFree, I.hok, I.bare⟩
theorem Inv.after {Q : VK} {u : Value} (I : Inv X pins σ H s) (h : CE X.stack X.prog X.w H s Q u s') : EP X pins σ Q u s' := by
  obtain ⟨v, H', os, bare, un, hok, r, q⟩ := h
  obtain ⟨hh, g, d, t, os'⟩ := s'
  obtain rfl : os' = s.os := os
  exact ⟨v, H', I.call (h' := hh) (g' := g) (d' := d) (t' := t) (ch := []) un hok bare (fun b z => absurd z (by simp)), r, q⟩
end
def tCall (sp : Sp) (dvs : List V) (E : XK) (t : TA) : TE := fun σ H Q => t σ H fun vs H1 => sp (vs ++ dvs) H1 Q E
def tMeth (C : Addr) (m : Str) (sp : Sp) (dvs : List V) (E : XK) (ta : TE) (t : TA) : TE := fun σ H Q => ta σ H fun x H1 => ∃ a dx fs, x = .ref a ∧ H1 a = some (.ins C dx fs) ∧ fs.lookup m = none ∧
  t σ H1 fun vs H2 => sp (x :: (vs ++ dvs)) H2 Q E
def tMake (C : Addr) (sp : Sp) (dvs : List V) (E : XK) (t : TA) : TE := fun σ H Q => t σ H fun vs H1 => ∀ x dx, H1 x = none → H1 dx = none → dx ≠ x →
  sp (.ref x :: (vs ++ dvs)) (upd (upd H1 dx (.own x)) x (.ins C dx [])) (fun v H2 => v = .non ∧ Q (.ref x) H2) E
def Binds (K : PySem.W.Frag) (fd : FuncData) (ps : List Str) (ds : List Value) : Prop :=
  ∀ (s : Shared) (us : List Value), K.In s.heap → (us ++ ds).length = ps.length → BindsTo s fd ⟨us, []⟩ (ps.zip (us ++ ds))
theorem Binds.all {K : PySem.W.Frag} {fd : FuncData} {ps : List Str} (h : ∀ us : List Value, us.length = ps.length → bindArgs fd ⟨us, []⟩ = pure (ps.zip us)) : Binds K fd ps [] := fun s us _ hl => by
  rw [List.append_nil] at hl ⊢
  exact .of_eq (h us hl)
def Passes (CX : CXT) (X : Cx) (E : XK) : Prop := ∀ (pins : List (Addr × Obj)) (σ : St) (H : Hp) (s : Shared) (e : Value) (s' : Shared), Inv X pins σ H s → CX X.stack H s E e s' → X.xe e s'
section
variable {X : Cx} {CX : CXT} {k : Nat} {f C : Addr} {fd : FuncData} {ps : List Str} {sp : Sp} {dvs : List V} {ds : List Value} {E : XK} {x m : Str} {p pos apos : Pos} {e o : Expr} {es : List Expr} {ta : TE} {t : TA}
theorem run_fn {pins : List (Addr × Obj)} {σ : St} {H : Hp} {s : Shared} {Q : VK} {us : List Value} {vs : List V} (F : FnOk X.prog X.w X.K X.mg X.base CX k f fd ps sp) (hr : Room k X.A) (hb : Binds X.K fd ps ds) (hd : Vals dvs ds) (hx : Passes CX X E)
    (I : Inv X pins σ H s) (r : Vals vs us) (h : sp (vs ++ dvs) H Q E) : wpAny (model X.prog X.w) X.A (call (.ref f) us) (EP X pins σ Q) X.xe s := by
  have r2 : Vals (vs ++ dvs) (us ++ ds) := r.append hd
  have hl : (us ++ ds).length = ps.length := by rw [← r2.length]; exact F.len _ _ _ _ h
  refine wpAny_call (codeAny_mono (F.run X.A X.stack s H ⟨us, []⟩ (us ++ ds) (vs ++ dvs) Q E hr I.env0 (hb s us I.kIn hl) r2 h) fun r s' hq => ?_)
  cases r with
  | error e => exact hx pins σ H s e s' I hq
  | ok fl =>
    cases fl with
    | ret u => exact I.after hq
    | next => exact False.elim hq
    | brk => exact False.elim hq
    | cont => exact False.elim hq
theorem pe_call (F : FnOk X.prog X.w X.K X.mg X.base CX k f fd ps sp) (hr : Room k X.A) (hg : Gl X x) (hm : X.mg x = some (.ref f)) (hk : PySem.W.keepIn X.K (.ref f) = true) (hb : Binds X.K fd ps ds) (hd : Vals dvs ds) (hx : Passes CX X E)
    (ha : PA X (e :: es) t) (hdb : (x == ("__debug__" : Str)) = false := by decide) (he : starEach (e :: es) X.env = (false, eval e X.env) :: starEach es X.env := by rfl) (hpl : (backTo pos (starEach es X.env)).any (·.1) = false := by rfl) :
    PE X (.Call (.Name x p) (e :: es) [] pos) (tCall sp dvs E t) := by
  intro pins s σ H Q I h
  refine wpAny_Call_Name_kw (ld_glob I hg hm ?_ hdb)
  refine PySem.W.callWith_K (h₀ := X.base) I.ok.mod.kin hk (thn (ha pos pins s σ H _ I h) fun us s1 ⟨vs, H1, I1, r, q⟩ => ⟨I1.kIn, ?_⟩) he hpl
  exact run_fn F hr hb hd hx I1 r q
theorem pe_call0 (F : FnOk X.prog X.w X.K X.mg X.base CX k f fd ps sp) (hr : Room k X.A) (hg : Gl X x) (hm : X.mg x = some (.ref f)) (hk : PySem.W.keepIn X.K (.ref f) = true) (hb : Binds X.K fd ps ds) (hd : Vals dvs ds) (hx : Passes CX X E)
    (hdb : (x == ("__debug__" : Str)) = false := by decide) : PE X (.Call (.Name x p) [] [] pos) (tCall sp dvs E tNil) := by
  intro pins s σ H Q I h
  refine wpAny_Call_Name_kw (ld_glob I hg hm ?_ hdb)
  exact PySem.W.callWith_K0 I.kIn hk (run_fn (us := []) F hr hb hd hx I .nil h)
theorem pe_meth {pl : Sem Bool} (he : PE X o ta) (c : Cls X.K C) (hm : Meth X.K C m f) (F : FnOk X.prog X.w X.K X.mg X.base CX k f fd ps sp) (hr : Room k X.A) (hb : Binds X.K fd ps ds) (hd : Vals dvs ds) (hx : Passes CX X E) (ha : PA X (e :: es) t)
    (hst : starEach (e :: es) X.env = (false, eval e X.env) :: starEach es X.env := by rfl) (hpl : (backTo pos (starEach es X.env)).any (·.1) = false := by rfl)
    (ht : eval (.Call (.Attribute o m apos) (e :: es) [] pos) X.env = (do
      let ov ← eval o X.env
      standAt apos.atName
      let (f, first) ← holding [ov] (getMethod ov m pl)
      callWith pos f first (backTo pos (starEach (e :: es) X.env)) (backToKw pos (keywordEach [] X.env))) := by rfl) :
    PE X (.Call (.Attribute o m apos) (e :: es) [] pos) (tMeth C m sp dvs E ta t) := by
  intro pins s σ H Q I h
  refine PySem.W.methodCall_KW (pl := pl) (thn (he pins s σ H _ I h) fun u s1 ⟨x, H1, I1, rx, a, dx, fs, ex, ea, l, q⟩ => ?_) ht
  subst ex
  obtain rfl : u = Value.ref a := rx
  refine getmeth_ok I1 ea c hm l ?_
  refine PySem.W.callWith_K (first := [.ref a]) (h₀ := X.base) I.ok.mod.kin hm.kp (thn (ha pos pins s1 σ H1 _ I1 q) fun us s2 ⟨vs, H2, I2, r, q2⟩ => ⟨I2.kIn, ?_⟩) hst hpl
  exact run_fn (us := .ref a :: us) (vs := .ref a :: vs) F hr hb hd hx I2 (.cons rfl r) q2
theorem pe_meth0 {pl : Sem Bool} (he : PE X o ta) (c : Cls X.K C) (hm : Meth X.K C m f) (F : FnOk X.prog X.w X.K X.mg X.base CX k f fd ps sp) (hr : Room k X.A) (hb : Binds X.K fd ps ds) (hd : Vals dvs ds) (hx : Passes CX X E)
    (ht : eval (.Call (.Attribute o m apos) [] [] pos) X.env = (do
      let ov ← eval o X.env
      standAt apos.atName
      let (f, first) ← holding [ov] (getMethod ov m pl)
      callWith pos f first (backTo pos (starEach [] X.env)) (backToKw pos (keywordEach [] X.env))) := by rfl) :
    PE X (.Call (.Attribute o m apos) [] [] pos) (tMeth C m sp dvs E ta tNil) := by
  intro pins s σ H Q I h
  refine PySem.W.methodCall_KW (pl := pl) (thn (he pins s σ H _ I h) fun u s1 ⟨x, H1, I1, rx, a, dx, fs, ex, ea, l, q⟩ => ?_) ht
  subst ex
  obtain rfl : u = Value.ref a := rx
  refine getmeth_ok I1 ea c hm l ?_
  exact PySem.W.callWith_K0 (first := [.ref a]) I1.kIn hm.kp (run_fn (us := [.ref a]) (vs := [.ref a]) F hr hb hd hx I1 (.cons rfl .nil) q)
structure Mk (K : PySem.W.Frag) (C f : Addr) : Prop where
  makes : PySem.W.makesIn K C = true
  init : PySem.W.findIn K (.ref C) "__init__" = some (some (.ref f))
  fn : PySem.W.isFn K (.ref f) = true
  kp : PySem.W.keepIn K (.ref C) = true
theorem run_make {pins : List (Addr × Obj)} {σ : St} {H : Hp} {s : Shared} {Q : VK} {us : List Value} {vs : List V} (M : Mk X.K C f) (F : FnOk X.prog X.w X.K X.mg X.base CX k f fd ps sp) (hr : Room (k + 1) X.A) (hb : Binds X.K fd ps ds) (hd : Vals dvs ds)
    (hx : Passes CX X E) (I : Inv X pins σ H s) (r : Vals vs us)
    (h : ∀ x dx, H x = none → H dx = none → dx ≠ x → sp (.ref x :: (vs ++ dvs)) (upd (upd H dx (.own x)) x (.ins C dx [])) (fun v H2 => v = .non ∧ Q (.ref x) H2) E) :
    wpAny (model X.prog X.w) X.A (call (.ref C) us) (EP X pins σ Q) X.xe s := by
  have hq := h (s.heap.objs.size + 1) s.heap.objs.size (I.hok.fresh (Nat.le_succ _)) (I.hok.fresh (Nat.le_refl _)) (Nat.ne_of_lt (Nat.lt_succ_self _))
  have I2 := Inv.made (C := C) I
  have r2 : Vals (V.ref (s.heap.objs.size + 1) :: (vs ++ dvs)) (Value.ref (s.heap.objs.size + 1) :: (us ++ ds)) := .cons rfl (r.append hd)
  have hl : (Value.ref (s.heap.objs.size + 1) :: us ++ ds).length = ps.length := by
    have e := r2.length
    rw [F.len _ _ _ _ hq] at e
    exact e.symm
  refine wpAny_call (make_map (f := f) I.kIn M.makes M.init (beq_iff_eq.mp M.fn) (codeAny_mono (F.run _ X.stack _ _ ⟨Value.ref (s.heap.objs.size + 1) :: us, []⟩ (Value.ref (s.heap.objs.size + 1) :: (us ++ ds)) _ _ E (hr.make C us [])
    (I2.env0.make C us []) (hb _ (Value.ref (s.heap.objs.size + 1) :: us) I2.kIn hl) r2 hq) fun r s' hq' => ?_))
  cases r with
  | error e => exact hx pins σ _ _ e s' I2 hq'
  | ok fl =>
    cases fl with
    | ret u =>
      obtain ⟨v, H', I3, rv, ev, q3⟩ := I2.after hq'
      subst ev
      exact ⟨rv, ⟨V.ref (s.heap.objs.size + 1), H', I3, rfl, q3⟩⟩
    | next => exact False.elim hq'
    | brk => exact False.elim hq'
    | cont => exact False.elim hq'
theorem pe_make (M : Mk X.K C f) (F : FnOk X.prog X.w X.K X.mg X.base CX k f fd ps sp) (hr : Room (k + 1) X.A) (hg : Gl X x) (hm : X.mg x = some (.ref C)) (hb : Binds X.K fd ps ds) (hd : Vals dvs ds) (hx : Passes CX X E)
    (ha : PA X (e :: es) t) (hdb : (x == ("__debug__" : Str)) = false := by decide) (he : starEach (e :: es) X.env = (false, eval e X.env) :: starEach es X.env := by rfl) (hpl : (backTo pos (starEach es X.env)).any (·.1) = false := by rfl) :
    PE X (.Call (.Name x p) (e :: es) [] pos) (tMake C sp dvs E t) := by
  intro pins s σ H Q I h
  refine wpAny_Call_Name_kw (ld_glob I hg hm ?_ hdb)
  refine PySem.W.callWith_K (h₀ := X.base) I.ok.mod.kin M.kp (thn (ha pos pins s σ H _ I h) fun us s1 ⟨vs, H1, I1, r, q⟩ => ⟨I1.kIn, ?_⟩) he hpl
  exact run_make M F hr hb hd hx I1 r q
end
section
variable {X : Cx} {CX : CXT} {k : Nat} {f C : Addr} {fd : FuncData} {ps ks : List Str} {sp : Sp} {E : XK} {x m : Str} {p pos apos kpos : Pos} {e o : Expr} {es : List Expr} {kws : List Keyword} {te ta : TE} {t tk : TA} {nm : Option Str}
variable {g : List Value → List Value → List Value} {gV : List V → List V → List V}
end
structure FnScope (N P : List Str) (sc : Scope) : Prop where
  kind : sc.kind = .function
  co : sc.isCoroutine = false
  gen : sc.isGenerator = false
  nd : N.Nodup
  pre : N.take P.length = P
  par : ∀ x ∈ P, sc.names.lookup x = some .local ∨ sc.names.lookup x = some .cell
  nofree : ∀ y ∈ sc.names, y.2 ≠ .free
theorem bindL_out {kindOf : Str → Option NameKind} {x : Str} : ∀ {binds : List (Str × Value)} {m : Str → Option Value}, (∀ v, (x, v) ∉ binds) → bindL kindOf binds m x = m x
  | [], _, _ => rfl
  | (n, v) :: r, m, h => by
    unfold bindL
    rw [bindL_out fun w hw => h w (List.mem_cons_of_mem _ hw)]
    split
    · have : x ≠ n := by rintro rfl; exact h v List.mem_cons_self
      simp [this]
    · rfl
theorem bindC_out {kindOf : Str → Option NameKind} {x : Str} : ∀ {binds : List (Str × Value)} {m : Str → Option Value}, (∀ v, (x, v) ∉ binds) → bindC kindOf binds m x = m x
  | [], _, _ => rfl
  | (n, v) :: r, m, h => by
    unfold bindC
    rw [bindC_out fun w hw => h w (List.mem_cons_of_mem _ hw)]
    split
    · rfl
    · have : x ≠ n := by rintro rfl; exact h v List.mem_cons_self
      simp [this]
theorem bindL_get {kindOf : Str → Option NameKind} {x : Str} {v : Value} : ∀ {P : List Str} {vs : List Value} {i : Nat} {m : Str → Option Value}, P.Nodup → P[i]? = some x → vs[i]? = some v → kindOf x = some .local →
    bindL kindOf (P.zip vs) m x = some v
  | [], _, _, _, _, h, _, _ => by simp at h
  | _ :: _, [], _, _, _, _, h, _ => by simp at h
  | p :: P, w :: vs, 0, m, nd, h1, h2, hk => by
    simp at h1 h2; subst h1; subst h2
    show bindL kindOf ((p, w) :: P.zip vs) m p = _
    unfold bindL
    rw [bindL_out fun v hv => (List.nodup_cons.mp nd).1 (List.of_mem_zip hv).1, if_pos hk]
    simp
  | p :: P, w :: vs, i + 1, m, nd, h1, h2, hk => by
    show bindL kindOf ((p, w) :: P.zip vs) m x = _
    unfold bindL
    exact bindL_get (i := i) (List.nodup_cons.mp nd).2 (by simpa using h1) (by simpa using h2) hk
theorem bindC_get {kindOf : Str → Option NameKind} {x : Str} {v : Value} : ∀ {P : List Str} {vs : List Value} {i : Nat} {m : Str → Option Value}, P.Nodup → P[i]? = some x → vs[i]? = some v → kindOf x ≠ some .local →
    bindC kindOf (P.zip vs) m x = some v
  | [], _, _, _, _, h, _, _ => by simp at h
  | _ :: _, [], _, _, _, _, h, _ => by simp at h
  | p :: P, w :: vs, 0, m, nd, h1, h2, hk => by
    simp at h1 h2; subst h1; subst h2
    show bindC kindOf ((p, w) :: P.zip vs) m p = _
    unfold bindC
    rw [bindC_out fun v hv => (List.nodup_cons.mp nd).1 (List.of_mem_zip hv).1, if_neg hk]
    simp
  | p :: P, w :: vs, i + 1, m, nd, h1, h2, hk => by
    show bindC kindOf ((p, w) :: P.zip vs) m x = _
    unfold bindC
    exact bindC_get (i := i) (List.nodup_cons.mp nd).2 (by simpa using h1) (by simpa using h2) hk
def start (N : List Str) (vs : List V) : St := vs.map some ++ List.replicate (N.length - vs.length) none
def cxOf (CX : CXT) (P : Program) (w : World) (K : PySem.W.Frag) (mg : Str → Option Value) (base : Heap) (N : List Str) (qual : Str) (scope : Scope) (f : Addr) (cd : Value) (A : Around) (outer : List Env) (s : Shared) (H : Hp) (E : XK) : Cx where
  prog := P
  w := w
  K := K
  mg := mg
  base := base
  A := A.deeper (envOfC qual scope s.heap.objs.size f cd)
  N := N
  s₀ := s
  H₀ := H
  env := envOfC qual scope s.heap.objs.size f cd
  outer := outer
  stack := envOfC qual scope s.heap.objs.size f cd :: outer
  ex := []
  calm := true
  fn := fun _ => true
  pn := []
  xe := fun e s' => wpAny (model P w) (A.deeper (envOfC qual scope s.heap.objs.size f cd)) (leaving (envOfC qual scope s.heap.objs.size f cd) e) (fun _ s'' => CX outer H s E e s'') (fun e' s'' => CX outer H s E e' s'') s'
theorem cell_has {sc : Scope} {n : Nat} {x : Str} (h : sc.names.lookup x = some .cell) : ∃ c, (cellsFrom n sc.names []).lookup x = some c := by
  have q := PySem.W.cellsFrom_some sc.names n [] (.inl h)
  exact Option.isSome_iff_exists.mp q
theorem inv_start {CX : CXT} {P : Program} {w : World} {K : PySem.W.Frag} {mg : Str → Option Value} {base : Heap} {N ps : List Str} {qual : Str} {scope : Scope} {f : Addr} {cd : Value} {A : Around} {outer : List Env} {s s1 : Shared} {H : Hp} {E : XK} {us : List Value} {vs : List V}
    (S : FnScope N ps scope) (hd : A.handled = none) (e0 : Env0 P w K mg base A outer s H) (hl : vs.length = ps.length) (r : Vals vs us)
    (x : InCallC s s.heap.objs.size (bindL (envOfC qual scope s.heap.objs.size f cd).kindOf (ps.zip us) fun _ => none) (cellsFrom (s.heap.objs.size + 1) scope.names []) (bindC (envOfC qual scope s.heap.objs.size f cd).kindOf (ps.zip us) fun _ => none) s1) :
    Inv (cxOf CX P w K mg base N qual scope f cd A outer s H E) [] (start N vs) H s1 := by
  have hpl : ps.length ≤ N.length := by have := congrArg List.length S.pre; rw [List.length_take] at this; omega
  obtain ⟨h1, tk, rfl, hk⟩ := x.done
  have noA : ∀ b : Addr, b ∉ (cxOf CX P w K mg base N qual scope f cd A outer s H E).ex := fun b z => absurd (show b ∈ ([] : List Addr) from z) (by simp)
  refine ⟨⟨e0.mod, S.kind, rfl, rfl, Nat.le_refl _, fun y z c h1 h2 => ?_, fun y hy => ?_, fun y c _ h => ?_, fun _ => hd, Around.frames_deeper e0.frames, .inr ⟨rfl, rfl⟩, fun b z => absurd z (noA b), e0.bs, e0.bsz, fun b _ _ => noA b, fun b z => absurd z (noA b), e0.funs, e0.frf⟩,
    rfl, e0.bare, Un.kept hk, ⟨_, x.toInCall.ns, fun i y v h1 h2 h3 => ?_⟩, fun y c h => ⟨_, x.cell y c h⟩, e0.hok.fresh (Nat.le_refl _), fun y c h => ?_, fun p hp => absurd (show p ∈ ([] : List (Addr × Obj)) from hp) (by simp), e0.hok.kept hk, ?_⟩
  · exact name_of_addr x.apart (PySem.mem_of_lookup h1) (PySem.mem_of_lookup h2)
  · have hy : scope.names.lookup y = some .cell ∨ scope.names.lookup y = some .free := hy
    rcases hy with hy | hy
    · exact cell_has hy
    · exact absurd rfl (S.nofree _ (PySem.mem_of_lookup hy))
  · exact Nat.le_of_lt (x.above y c (PySem.mem_of_lookup h))
  · have hi : i < vs.length := by
      unfold start at h2
      by_cases hi : i < vs.length
      · exact hi
      · rw [List.getElem?_append_right (by simpa using hi)] at h2
        rw [List.getElem?_replicate] at h2
        split at h2 <;> cases h2
    have ha : vs[i]? = some v := by
      unfold start at h2
      rw [List.getElem?_append_left (by simpa using hi), List.getElem?_map] at h2
      cases e : vs[i]? with
      | none => rw [e] at h2; cases h2
      | some a => rw [e] at h2; cases h2; rfl
    obtain ⟨u, hu, rv⟩ := r.get ha
    have hp : ps[i]? = some y := by
      rw [← S.pre, List.getElem?_take_of_lt (by omega)]; exact h1
    have ndP : ps.Nodup := by rw [← S.pre]; exact S.nd.sublist (List.take_sublist _ _)
    refine ⟨u, rv, ?_⟩
    rcases S.par y (List.mem_of_getElem? hp) with k | k
    · exact .inl ⟨k, bindL_get ndP hp hu k⟩
    · obtain ⟨c, e⟩ := cell_has (n := s.heap.objs.size + 1) k
      refine .inr ⟨.inl k, c, e, ?_⟩
      have q := x.cell y c e
      rw [bindC_get ndP hp hu (by show scope.names.lookup y ≠ _; rw [k]; decide)] at q
      exact q
  · exact e0.hok.fresh (Nat.le_of_lt (x.above y c (PySem.mem_of_lookup h)))
  · unfold start
    show _ = N.length
    rw [List.length_append, List.length_map, List.length_replicate]
    omega
theorem fn_of {CX : CXT} {P : Program} {w : World} {K : PySem.W.Frag} {mg : Str → Option Value} {base : Heap} {k : Nat} {f : Addr} {name qual : Str} {params : Arguments} {body : List Stmt} {scope : Scope} {dV kV doc pm cdv ct oc : Value} {an od : Option Addr}
    {osl : Array (Option Value)} {N ps : List Str} {sp : Sp} (lk : K.lookup f = some ⟨oc, od, .func (PySem.W.fnOf name qual params body scope dV kV doc pm an cdv ct), osl⟩) (hcd : PySem.W.codeIn K cdv qual = true) (S : FnScope N ps scope)
    (len : ∀ vs H Q E, sp vs H Q E → vs.length = ps.length)
    (hbody : ∀ (A : Around) (outer : List Env) (s : Shared) (H : Hp) (vs : List V) (Q : VK) (E : XK), Room k (A.deeper (envOfC qual scope s.heap.objs.size f cdv)) → sp vs H Q E →
      ∃ t, PSs (cxOf CX P w K mg base N qual scope f cdv A outer s H E) body t ∧ t { nx := fun _ H' => Q .non H', rt := Q } (start N vs) H) :
    FnOk P w K mg base CX (k + 1) f (PySem.W.fnOf name qual params body scope dV kV doc pm an cdv ct) ps sp := by
  refine ⟨len, fun A outer s H args us vs Q E hr e0 hb r hsp => ?_⟩
  have hl := len _ _ _ _ hsp
  have KX : K.In s.heap := e0.mod.kin.keeps fun b o e => (e0.bs b o e).1
  have lim : s.heap.NoLimit := e0.mod.nolimit.keeps fun b o e => (e0.bs b o e).1
  have hkind : ∀ y ∈ ps.zip us, scope.names.lookup y.1 = some .local ∨ (scope.names.lookup y.1 = some .cell ∧ ((cellsFrom (s.heap.objs.size + 1) scope.names []).lookup y.1).isSome = true) := fun ⟨n, v⟩ hy => by
    rcases S.par n (List.of_mem_zip hy).1 with q | q
    · exact .inl q
    · exact .inr ⟨q, PySem.W.cellsFrom_some _ _ _ (.inl q)⟩
  refine codeAny_call_function hr.depth (KX _ _ lk) rfl S.co S.gen rfl (PySem.W.codeRec_of KX hcd) (hb _ _ _ _ ?_)
  refine wpAny_newFunctionEnv_cells S.kind hkind fun env he s1 x => ?_
  subst he
  refine ⟨lim.keeps x.toInCall.keep, codeAny_func ?_⟩
  obtain ⟨t, ht, hq⟩ := hbody A outer s H vs Q E (hr.deeper _) hsp
  have I : Inv (cxOf CX P w K mg base N qual scope f cdv A outer s H E) [] (start N vs) H s1 := inv_start S hr.hd e0 hl r x
  refine wpAny_mono (ht [] s1 (start N vs) H _ I hq) (fun fl s' hs => ?_) fun e s' hs => hs
  have fin : ∀ {σ' : St} {H' : Hp} {v : V} {u : Value}, Inv (cxOf CX P w K mg base N qual scope f cdv A outer s H E) [] σ' H' s' → RelV v u → Q v H' → CE outer P w H s Q u s' :=
    fun {σ' H' v u} J rv q => ⟨v, H', J.os, J.bare, J.base, J.hok, rv, q⟩
  cases fl with
  | ret u =>
    obtain ⟨v, σ', H', J, rv, q⟩ := hs
    exact fin J rv q
  | next =>
    obtain ⟨σ', H', J, q⟩ := hs
    exact fin (v := V.non) (u := Value.none) J rfl q
  | brk =>
    obtain ⟨_, _, _, q⟩ := hs
    exact False.elim q
  | cont =>
    obtain ⟨_, _, _, q⟩ := hs
    exact False.elim q
end L2
namespace L2
open PySem PySem.Spec PyProof.Rows
section
variable {X : Cx} {x : Str} {p pos : Pos} {e : Expr} {es : List Expr} {t : TA} {id T : String} {r : List V → Hp → VK → Prop}
def tCB (r : List V → Hp → VK → Prop) (t : TA) : TE := fun σ H Q => t σ H fun vs H1 => r vs H1 Q
theorem pe_callB (hc : CallR X (.builtin id) r) (hg : Gl X x) (hm : X.mg x = none) (hv : bootBuiltins x = some (.builtin id)) (ha : PA X (e :: es) t) (hn : x ≠ "__name__" := by decide) (hdb : (x == ("__debug__" : Str)) = false := by decide)
    (he : starEach (e :: es) X.env = (false, eval e X.env) :: starEach es X.env := by rfl) (hpl : (backTo pos (starEach es X.env)).any (·.1) = false := by rfl) : PE X (.Call (.Name x p) (e :: es) [] pos) (tCB r t) := by
  intro pins s σ H Q I h
  refine wpAny_Call_Name_kw (ld_blt I hg hm hv ?_ hn hdb)
  exact PyProof.Rows.callWith_builtin1 (thn (ha pos pins s σ H _ I h) fun us s1 ⟨vs, H1, I1, r1, q1⟩ => hc pins s1 σ H1 vs us Q I1 r1 q1) he hpl
theorem pe_callTy (hc : CallR X (.type T) r) (hg : Gl X x) (hm : X.mg x = none) (hv : bootBuiltins x = some (.type T)) (ha : PA X (e :: es) t) (hn : x ≠ "__name__" := by decide) (hdb : (x == ("__debug__" : Str)) = false := by decide)
    (he : starEach (e :: es) X.env = (false, eval e X.env) :: starEach es X.env := by rfl) (hpl : (backTo pos (starEach es X.env)).any (·.1) = false := by rfl) : PE X (.Call (.Name x p) (e :: es) [] pos) (tCB r t) := by
  intro pins s σ H Q I h
  refine wpAny_Call_Name_kw (ld_blt I hg hm hv ?_ hn hdb)
  exact PyProof.Rows.callWith_type1 (thn (ha pos pins s σ H _ I h) fun us s1 ⟨vs, H1, I1, r1, q1⟩ => hc pins s1 σ H1 vs us Q I1 r1 q1) he hpl
end
end L2
namespace HT
open PySem PyProof.Rows
section
open PySem.SeqAt
open PySem.AutoSeq1 (wpAny_loadPart')
open PySem.MeetsSeq PySem.MeetsSeq2 PySem.MeetsSeq3
end
section
variable {prog : Program} {w : World} {A : Around} {E : Value → Shared → Prop} {s : Shared}
theorem cat_tup {t b : Addr} {vs ws : List Value} {Q : Value → Shared → Prop} (ht : IsTup s.heap t vs.toArray) (hb : IsTup s.heap b ws.toArray) (hv : vs ≠ [])
    (h1 : ws = [] → Q (.ref t) s) (h2 : ws ≠ [] → Q (.ref s.heap.objs.size) { s with heap := s.heap.push { cls := .type "tuple", data := .seq (vs ++ ws).toArray } })
    (hsz : vs.length + ws.length ≤ sizeLine) : wpAny (model prog w) A (binaryOp .Add (.ref t) (.ref b)) Q E s := by
  obtain ⟨⟨cls, dd, data, sl⟩, ho, hc, n, hd⟩ := id ht
  obtain ⟨⟨cls2, dd2, data2, sl2⟩, ho2, hc2, n2, hd2⟩ := id hb
  simp only at hc hd hc2 hd2
  subst hc hd hc2 hd2
  have e : vs.toArray ++ ws.toArray = (vs ++ ws).toArray := by simp
  by_cases hw : ws = []
  · exact concat_meets ⟨_, ho, rfl⟩ ⟨_, ho2, rfl⟩ noFill_tuple_add seq_tuple_add PySem.F.slot_tuple_add PySem.F.entry_tuple_add (PySem.F.args_tuple_add_2 _ _)
      (tuple_addW1 t b vs.toArray ws.toArray n n2 dd dd2 sl sl2 (by simpa using hv) (by simp [hw])) ⟨ho, ho2, h1 hw⟩
  · refine concat_meets ⟨_, ho, rfl⟩ ⟨_, ho2, rfl⟩ noFill_tuple_add seq_tuple_add PySem.F.slot_tuple_add PySem.F.entry_tuple_add (PySem.F.args_tuple_add_2 _ _)
      (tuple_addW2 t b vs.toArray ws.toArray n n2 dd dd2 sl sl2 (by simpa using hv) (by simpa using hw) (by rw [List.size_toArray, List.size_toArray]; exact hsz)) ⟨ho, ho2, ?_⟩
    rw [e]
    exact h2 hw
end
end HT
namespace L2
open PySem PySem.Spec PyProof.Rows
abbrev TO := St → Hp → (Option Int → Hp → Prop) → Prop
def PO (X : Cx) (e : Option Expr) (t : TO) : Prop :=
  ∀ (pins : List (Addr × Obj)) (s : Shared) (σ : St) (H : Hp) (Q : Option Int → Hp → Prop), Inv X pins σ H s → t σ H Q →
    wpAny (model X.prog X.w) X.A (evalPart e X.env) (fun u s' => ∃ o H', Inv X pins σ H' s' ∧ IsPart u o ∧ Q o H') X.xe s
def tNoPart : TO := fun _ H Q => Q none H
def tPart (t : TE) : TO := fun σ H Q => t σ H fun x H1 => ∃ i, x = .int i ∧ Q (some i) H1
theorem intsAre_of {ns : List Int} : ∀ {us : List Value}, Vals (ns.map V.int) us → IntsAre us ns := by
  induction ns with
  | nil => intro us r; rw [List.map_nil] at r; cases r; exact .nil
  | cons n ns ih =>
    intro us r
    rw [List.map_cons] at r
    cases r with
    | cons r1 r2 =>
      obtain ⟨t, e⟩ := r1
      subst e
      exact .cons n t (ih r2)
section
variable {X : Cx} {e : Expr} {te : TE} {lo hi : Option Expr} {tl th : TO} {pos p2 : Pos}
theorem po_none : PO X none tNoPart := by
  intro pins s σ H Q I h
  rw [evalPart_none]
  exact wpAny_pure ⟨none, H, I, .none, h⟩
theorem po_some (h : PE X e te) : PO X (some e) (tPart te) := by
  intro pins s σ H Q I hw
  rw [evalPart_some]
  refine thn (h pins s σ H _ I hw) fun u s1 ⟨x, H1, I1, r1, q1⟩ => ?_
  obtain ⟨i, rfl, q⟩ := q1
  obtain ⟨t, rfl⟩ := r1
  exact ⟨some i, H1, I1, .int i t, q⟩
def SlR (X : Cx) (r : V → Option Int → Option Int → Hp → VK → Prop) : Prop :=
  ∀ (pins : List (Addr × Obj)) (s : Shared) (σ : St) (H : Hp) (x : V) (v vl vu : Value) (lo hi : Option Int) (sl : Addr) (Q : VK), Inv X pins σ H s → RelV x v → s.heap.IsSliceOf sl vl vu .none → IsPart vl lo → IsPart vu hi → r x lo hi H Q →
    ∃ T id, typeLookup (.type T) "__getitem__" = pure (some (.builtin id)) ∧ s.TypeIs v T ∧ wpAny (model X.prog X.w) X.A (getItem v (.ref sl)) (EP X pins σ Q) X.xe s
def tSl (r : V → Option Int → Option Int → Hp → VK → Prop) (te : TE) (tl th : TO) : TE := fun σ H Q => te σ H fun x H1 => tl σ H1 fun l H2 => th σ H2 fun u H3 => r x l u H3 Q
theorem pe_slice {r : V → Option Int → Option Int → Hp → VK → Prop} (hr : SlR X r) (he : PE X e te) (hl : PO X lo tl) (hu : PO X hi th) : PE X (.Subscript e (.Slice lo hi none p2) pos) (tSl r te tl th) := by
  intro pins s σ H Q I h
  refine Subscript_ (thn (he pins s σ H _ I h) fun v s1 ⟨x, H1, I1, r1, q1⟩ => ?_)
  refine wpAny_Slice (thn (hl pins s1 σ H1 _ I1 q1) fun vl s2 ⟨l, H2, I2, pl, q2⟩ => thn (hu pins s2 σ H2 _ I2 q2) fun vu s3 ⟨u, H3, I3, pu, q3⟩ => ?_)
  rw [evalPart_none]
  refine wpAny_pure ?_
  have I4 : Inv X pins σ H3 { s3 with heap := s3.heap.push { cls := .type "slice", data := .fields #[vl, vu, .none] } } := I3.kept (t' := s3.toks) fun b ob q => Heap.get?_push_of_some _ q
  obtain ⟨T, id, hT, ht, hg⟩ := hr pins { s3 with heap := s3.heap.push { cls := .type "slice", data := .fields #[vl, vu, .none] } } σ H3 x v vl vu l u s3.heap.objs.size Q I4 r1 (Heap.IsSliceOf.new ..) pl pu q3
  show wpAny (model X.prog X.w) X.A (subscriptTail e (.Slice lo hi none p2) v (.ref s3.heap.objs.size)) (EP X pins σ Q) X.xe { s3 with heap := s3.heap.push { cls := .type "slice", data := .fields #[vl, vu, .none] } }
  exact tail_any (ops := [.ref s3.heap.objs.size, v]) ht hT hg (by with_unfolding_all rfl)
def rCatT (K : PySem.W.Frag) : R2 := fun x y H Q => ∃ a b xs ys, x = .ref a ∧ y = .ref b ∧ SqT K H a xs ∧ SqT K H b ys ∧ xs ≠ [] ∧ xs.length + ys.length ≤ sizeLine ∧
  (ys = [] → Q (.ref a) H) ∧ (ys ≠ [] → ∀ p, H p = none → Q (.ref p) (upd H p (.tup (xs ++ ys))))
theorem Vals.nil_iff {xs : List V} {us : List Value} (r : Vals xs us) : us = [] ↔ xs = [] := by
  cases r with
  | nil => simp
  | cons _ _ => simp
theorem op_catT : OpR X (binaryOp .Add) (rCatT X.K) := by
  intro pins s σ H x y v u Q I rx ry h
  obtain ⟨a, b, xs, ys, rfl, rfl, ha, hb, hx, hz, q1, q2⟩ := h
  cases rx
  cases ry
  obtain ⟨its, r1, p1, _⟩ := I.tuple ha
  obtain ⟨its2, r2, p2, _⟩ := I.tuple hb
  refine HT.cat_tup p1 p2 (fun z => hx (r1.nil_iff.mp z)) (fun z => ⟨.ref a, H, I, rfl, q1 (r2.nil_iff.mp z)⟩) (fun z => ?_) (by rw [← r1.length, ← r2.length]; exact hz)
  refine ⟨.ref s.heap.objs.size, _, I.laid (t' := s.toks) (o := .tup (xs ++ ys)) (fun b ob q => Heap.get?_push_of_some _ q) (Nat.le_refl _) ?_, rfl, q2 (fun w => z (r2.nil_iff.mpr w)) _ (I.hok.fresh (Nat.le_refl _))⟩
  exact ⟨by rw [List.length_append]; exact hz, _, r1.append r2, IsTup.new _ _⟩
end
end L2
namespace L2
open PySem PySem.Spec PyProof.Rows
def ixN (n : Nat) (i : Int) : Option Nat := if 0 ≤ i then (if i < n then some i.toNat else none) else if -(n : Int) ≤ i then some (i + n).toNat else none
def atI {α : Type} (xs : List α) (i : Int) : Option α := (ixN xs.length i).bind fun j => xs[j]?
theorem ixN_seq {n : Nat} {i : Int} {j : Nat} (h : ixN n i = some j) : seqIndex? i n = some j ∧ j < n ∧ -(n : Int) ≤ i ∧ i < n := by
  unfold ixN at h
  by_cases h0 : 0 ≤ i
  · rw [if_pos h0] at h
    by_cases h1 : i < n
    · rw [if_pos h1] at h
      have e : i.toNat = j := Option.some.inj h
      exact ⟨by rw [seqIndex_of h0 h1, e], by omega, by omega, h1⟩
    · rw [if_neg h1] at h; cases h
  · rw [if_neg h0] at h
    by_cases h1 : -(n : Int) ≤ i
    · rw [if_pos h1] at h
      have e : (i + n).toNat = j := Option.some.inj h
      exact ⟨by rw [seqIndex_neg (by omega) h1, e], by omega, h1, by omega⟩
    · rw [if_neg h1] at h; cases h
theorem atI_get {α : Type} {xs : List α} {i : Int} {v : α} (h : atI xs i = some v) : ∃ j, seqIndex? i xs.length = some j ∧ xs[j]? = some v ∧ j < xs.length ∧ -(xs.length : Int) ≤ i ∧ i < xs.length := by
  unfold atI at h
  cases e : ixN xs.length i with
  | none => rw [e] at h; cases h
  | some j =>
    rw [e] at h
    obtain ⟨h1, h2, h3, h4⟩ := ixN_seq e
    exact ⟨j, h1, h, h2, h3, h4⟩
theorem atI_nat {α : Type} {xs : List α} {j : Nat} {v : α} (h : xs[j]? = some v) : atI xs (j : Int) = some v := by
  have hj : j < xs.length := (List.getElem?_eq_some_iff.mp h).1
  have e : ixN xs.length (j : Int) = some j := by
    unfold ixN
    rw [if_pos (by omega), if_pos (by omega)]; simp
  unfold atI; rw [e]; exact h
theorem atI_last {α : Type} (xs : List α) (v : α) : atI (xs ++ [v]) (-1) = some v := by
  have hl : (xs ++ [v]).length = xs.length + 1 := by simp
  have e : ixN (xs ++ [v]).length (-1) = some xs.length := by
    unfold ixN
    rw [hl, if_neg (by decide), if_pos (by omega)]
    congr 1
    omega
  unfold atI
  rw [e]
  show (xs ++ [v])[xs.length]? = some v
  simp
def PlainIx (b : Expr) : Prop := ∀ o i, subscripted b false o i = operate [o, i] (getItem o i)
def IxR (X : Cx) (r : R2) : Prop :=
  ∀ (value slice : Expr) (pins : List (Addr × Obj)) (s : Shared) (σ : St) (H : Hp) (x y : V) (v u : Value) (Q : VK), Inv X pins σ H s → RelV x v → RelV y u → r x y H Q →
    subscripted slice false v u = operate [v, u] (getItem v u) → wpAny (model X.prog X.w) X.A (subscriptTail value slice v u) (EP X pins σ Q) X.xe s
def MtR (X : Cx) (id : String) (r : V → List V → Hp → VK → Prop) : Prop :=
  ∀ (pins : List (Addr × Obj)) (s : Shared) (σ : St) (H : Hp) (x : V) (xs : List V) (v : Value) (us : List Value) (Q : VK), Inv X pins σ H s → RelV x v → Vals xs us → r x xs H Q →
    wpAny (model X.prog X.w) X.A (call (.builtin id) (v :: us)) (EP X pins σ Q) X.xe s
section
variable {X : Cx} {a b : Expr} {ta tb : TE} {pos : Pos}
theorem IxR.or {r r' : R2} (h : IxR X r) (h' : IxR X r') : IxR X (fun x y H Q => r x y H Q ∨ r' x y H Q) := by
  intro value slice pins s σ H x y v u Q I rx ry q hs
  rcases q with q | q
  · exact h value slice pins s σ H x y v u Q I rx ry q hs
  · exact h' value slice pins s σ H x y v u Q I rx ry q hs
theorem pe_ix {r : R2} (hr : IxR X r) (ha : PE X a ta) (hb : PE X b tb) (hs : PlainIx b) : PE X (.Subscript a b pos) (tOp r ta tb) := by
  intro pins s σ H Q I h
  exact Subscript_ (binT ha hb I h fun v u s2 x y H2 I2 rx ry q => hr a b pins s2 σ H2 x y v u Q I2 rx ry q (hs _ _))
def rIxL (K : PySem.W.Frag) : R2 := fun x y H Q => ∃ p xs i v, x = .ref p ∧ y = .int i ∧ SqL K H p xs ∧ atI xs i = some v ∧ Q v H
def rIxT (K : PySem.W.Frag) : R2 := fun x y H Q => ∃ p xs i v, x = .ref p ∧ y = .int i ∧ SqT K H p xs ∧ atI xs i = some v ∧ Q v H
def rIxS : R2 := fun x y H Q => ∃ z i c, x = .str z ∧ y = .int i ∧ z.length ≤ sizeLine ∧ atI z.cps.toList i = some c ∧ Q (.str ⟨#[c]⟩) H
theorem ix_list : IxR X (rIxL X.K) := by
  intro value slice pins s σ H x y v u Q I rx ry h hs
  obtain ⟨p, xs, i, z, rfl, rfl, hq, he, q⟩ := h
  cases rx
  obtain ⟨t, rfl⟩ := ry
  obtain ⟨its, r, pl, hz⟩ := I.list hq
  obtain ⟨j, h1, h2, h3, h4, h5⟩ := atI_get he
  obtain ⟨w, ew, rw'⟩ := r.get h2
  have hl := r.length
  have hn := line63
  have fin : EP X pins σ Q w s := ⟨z, H, I, rw', q⟩
  by_cases h0 : 0 ≤ i
  · have hj : i.toNat = j := by
      rw [seqIndex_of h0 h5] at h1
      exact Option.some.inj h1
    exact item_listR pl.isList h0 (by omega) (by rw [hj]; simpa using ew) fin hs
  · have hj : (i + (its.toArray.size : Int)).toNat = j := by
      rw [seqIndex_neg (by omega) h4] at h1
      rw [List.size_toArray, ← hl]
      exact Option.some.inj h1
    exact subscriptTail_builtinR (x := w) pl.isList.typeIs slot_list_getitem.lookup
      (wpAny_getItem_list_neg (Q := fun r s' => r = w ∧ EP X pins σ Q r s') pl.isList (by omega) (by rw [List.size_toArray] <;> omega) (by omega) (by rw [hj]; simpa using ew) ⟨rfl, fin⟩) hs
theorem ix_tup : IxR X (rIxT X.K) := by
  intro value slice pins s σ H x y v u Q I rx ry h hs
  obtain ⟨p, xs, i, z, rfl, rfl, hq, he, q⟩ := h
  cases rx
  obtain ⟨t, rfl⟩ := ry
  obtain ⟨its, r, pl, hz⟩ := I.tuple hq
  obtain ⟨j, h1, h2, h3, h4, h5⟩ := atI_get he
  obtain ⟨w, ew, rw'⟩ := r.get h2
  have hl := r.length
  have hn := line63
  have fin : EP X pins σ Q w s := ⟨z, H, I, rw', q⟩
  exact subscriptTail_builtinR (x := w) pl.typeIs slot_tuple_getitem.lookup
    (getItem_tuple (j := j) (Q := fun r s' => r = w ∧ EP X pins σ Q r s') pl (by omega) (by omega) (by rw [List.size_toArray, ← hl]; exact h1) (by simpa using ew) ⟨rfl, fin⟩) hs
theorem ix_str : IxR X rIxS := by
  intro value slice pins s σ H x y v u Q I rx ry h hs
  obtain ⟨z, i, c, rfl, rfl, hz, he, q⟩ := h
  obtain ⟨t, rfl⟩ := rx
  obtain ⟨t', rfl⟩ := ry
  obtain ⟨j, h1, h2, h3, h4, h5⟩ := atI_get he
  have hl : z.cps.toList.length = z.length := by simp [Str.length]
  rw [hl] at h1 h4 h5
  have hn := line63
  exact tail_any (typeIs_str s z t) slot_str_getitem.lookup (getItem_str (c := c) (by
    have e1 : decide (i < -(2 ^ 63 : Int)) = false := decide_eq_false (by omega)
    have e2 : decide (i ≥ 2 ^ 63) = false := decide_eq_false (by omega)
    rw [e1, e2, Bool.or_false]) (by rw [h1]; simpa using h2) ⟨.str ⟨#[c]⟩, H, I.tok _, ⟨_, rfl⟩, q⟩) hs
def rIx (K : PySem.W.Frag) : R2 := fun x y H Q => rIxL K x y H Q ∨ rIxT K x y H Q ∨ rIxS x y H Q
theorem ix_seq : IxR X (rIx X.K) := ix_list.or (ix_tup.or ix_str)
theorem mapSeq_set (its : List Value) (n j : Nat) (u : Value) : Obj.mapSeq (·.setIfInBounds j u) { cls := .type "list", data := .seq its.toArray n } = { cls := .type "list", data := .seq (its.set j u).toArray n } := by
  simp [Obj.mapSeq]
theorem Inv.lst {pins : List (Addr × Obj)} {σ : St} {H : Hp} {s : Shared} {p : Addr} {xs : List V} (I : Inv X pins σ H s) (h : H p = some (.lst xs)) :
    ∃ (its : List Value) (n : Nat), Vals xs its ∧ s.heap.get? p = some { cls := .type "list", data := .seq its.toArray n } ∧ xs.length ≤ sizeLine := by
  obtain ⟨z, its, n, r, e⟩ := I.hok p _ h
  exact ⟨its, n, r, e, z⟩
theorem Inv.lstUpd {pins : List (Addr × Obj)} {σ : St} {H : Hp} {s : Shared} {p : Addr} {xs ys : List V} {its its' : List Value} {n n' : Nat} {f : Obj → Obj} (I : Inv X pins σ H s) (h : H p = some (.lst xs))
    (ho : s.heap.get? p = some { cls := .type "list", data := .seq its.toArray n }) (hf : f { cls := .type "list", data := .seq its.toArray n } = { cls := .type "list", data := .seq its'.toArray n' }) (r : Vals ys its') (hz : ys.length ≤ sizeLine) (t : Nat) :
    Inv X pins σ (upd H p (.lst ys)) { s with heap := s.heap.update p f, toks := t } := by
  have e : (s.heap.update p f).get? p = some { cls := .type "list", data := .seq its'.toArray n' } := by
    rw [Heap.get?_update_self f ho (by rw [hf] <;> rfl), hf]
  refine I.write (x := p) (e := p) (by rw [h]; trivial) (.inl rfl) (fun b u hb q => (Heap.get?_update_other _ _ (Ne.symm hb)).trans q) ⟨_, e⟩ ?_
  exact ⟨hz, its', n', r, e⟩
def rSetL : V → V → V → Hp → (Hp → Prop) → Prop := fun o i v H Q => ∃ p xs k j, o = .ref p ∧ i = .int k ∧ H p = some (.lst xs) ∧ ixN xs.length k = some j ∧ Q (upd H p (.lst (xs.set j v)))
theorem set_list : PSet X rSetL := by
  intro pins s σ H o i v ov iv u Q I ro ri rv h
  obtain ⟨p, xs, k, j, rfl, rfl, hp, hj, q⟩ := h
  cases ro
  obtain ⟨t, rfl⟩ := ri
  obtain ⟨its, n, r, ho, hz⟩ := I.lst hp
  obtain ⟨h1, h2, h3, h4⟩ := ixN_seq hj
  have hl := r.length
  have hn := line63
  have I' : Inv X pins σ (upd H p (.lst (xs.set j v))) { s with heap := s.heap.update p (Obj.mapSeq (·.setIfInBounds j u)) } :=
    I.lstUpd hp ho (mapSeq_set its n j u) (r.set rv j) (by rw [List.length_set]; exact hz) s.toks
  by_cases h0 : 0 ≤ k
  · have hk : k.toNat = j := by
      rw [seqIndex_of h0 h4] at h1
      exact Option.some.inj h1
    exact PySem.W.ki_setAt ho h0 (by omega) (by rw [List.size_toArray, ← hl]; exact h4) (by rw [hk]; exact ⟨_, I', q⟩)
  · have hk : (k + (its.toArray.size : Int)).toNat = j := by
      rw [seqIndex_neg (by omega) h3] at h1
      rw [List.size_toArray, ← hl]
      exact Option.some.inj h1
    exact PySem.W.ki_setBack ho (by omega) (by rw [List.size_toArray, ← hl]; exact h3) (by omega) (by rw [hk]; exact ⟨_, I', q⟩)
def flatV : V → Bool
  | .non => true
  | .bl _ => true
  | .int _ => true
  | .str _ => true
  | _ => false
def eqV : V → V → Bool
  | .non, .non => true
  | .bl a, .bl b => a == b
  | .bl a, .int b => (if a then 1 else 0) == b
  | .int a, .bl b => a == (if b then 1 else 0)
  | .int a, .int b => a == b
  | .str a, .str b => a == b
  | _, _ => false
theorem eqAt_V {A : Around} {s : Shared} {y x : V} {u v : Value} (ry : RelV y u) (rx : RelV x v) (fy : flatV y = true) (fx : flatV x = true) : SeqAt.EqAt A s u v (eqV y x) := by
  cases y with
  | non =>
    cases ry
    cases x with
    | non => cases rx; exact SeqAt.EqAt.same _
    | bl b => cases rx; exact SeqAt.EqAt.none_bool b
    | int b => obtain ⟨t, rfl⟩ := rx; exact SeqAt.EqAt.none_int b t
    | str b => obtain ⟨t, rfl⟩ := rx; exact SeqAt.EqAt.none_str b t
    | _ => exact absurd (show false = true from fx) Bool.false_ne_true
  | bl a =>
    cases ry
    cases x with
    | non => cases rx; exact SeqAt.EqAt.bool_none a
    | bl b => cases rx; exact SeqAt.EqAt.bool_bool a b
    | int b => obtain ⟨t, rfl⟩ := rx; exact SeqAt.EqAt.bool_int a b t
    | str b => obtain ⟨t, rfl⟩ := rx; exact SeqAt.EqAt.bool_str a b t
    | _ => exact absurd (show false = true from fx) Bool.false_ne_true
  | int a =>
    obtain ⟨t', rfl⟩ := ry
    cases x with
    | non => cases rx; exact SeqAt.EqAt.int_none a t'
    | bl b => cases rx; exact SeqAt.EqAt.int_bool a t' b
    | int b => obtain ⟨t, rfl⟩ := rx; exact SeqAt.EqAt.int_int a t' b t
    | str b => obtain ⟨t, rfl⟩ := rx; exact SeqAt.EqAt.int_str a t' b t
    | _ => exact absurd (show false = true from fx) Bool.false_ne_true
  | str a =>
    obtain ⟨t', rfl⟩ := ry
    cases x with
    | non => cases rx; exact SeqAt.EqAt.str_none a t'
    | bl b => cases rx; exact SeqAt.EqAt.str_bool a t' b
    | int b => obtain ⟨t, rfl⟩ := rx; exact SeqAt.EqAt.str_int a t' b t
    | str b => obtain ⟨t, rfl⟩ := rx; exact SeqAt.EqAt.str_str a t' b t
    | _ => exact absurd (show false = true from fx) Bool.false_ne_true
  | _ => exact absurd (show false = true from fy) Bool.false_ne_true
def eqU (x : V) (u : Value) : Bool := match u with
  | .none => eqV .non x
  | .bool b => eqV (.bl b) x
  | .int i _ => eqV (.int i) x
  | .str z _ => eqV (.str z) x
  | _ => false
theorem eqU_of {x y : V} {u : Value} (r : RelV y u) (f : flatV y = true) : eqU x u = eqV y x := by
  cases y with
  | non => cases r; rfl
  | bl b => cases r; rfl
  | int i => obtain ⟨t, rfl⟩ := r; rfl
  | str z => obtain ⟨t, rfl⟩ := r; rfl
  | _ => exact absurd (show false = true from f) Bool.false_ne_true
theorem any_eqU {x : V} : ∀ {xs : List V} {us : List Value}, Vals xs us → xs.all flatV = true → us.any (eqU x) = xs.any fun y => eqV y x
  | _, _, .nil, _ => rfl
  | y :: xs, u :: us, .cons r t, f => by
    rw [List.all_cons, Bool.and_eq_true] at f
    rw [List.any_cons, List.any_cons, eqU_of r f.1, any_eqU t f.2]
theorem mem_eqAt {A : Around} {s : Shared} {x : V} {v : Value} (rx : RelV x v) (fx : flatV x = true) : ∀ {xs : List V} {us : List Value}, Vals xs us → xs.all flatV = true → ∀ u ∈ us, SeqAt.EqAt A s u v (eqU x u)
  | _, _, .nil, _ => fun u hu => by cases hu
  | y :: xs, u :: us, .cons r t, f => fun u' hu => by
    rw [List.all_cons, Bool.and_eq_true] at f
    rcases List.mem_cons.mp hu with rfl | hu
    · rw [eqU_of r f.1]; exact eqAt_V r rx f.1 fx
    · exact mem_eqAt rx fx t f.2 u' hu
def inV (x : V) (xs : List V) : Bool := xs.any fun y => eqV y x
def rIn (K : PySem.W.Frag) (neg : Bool) : R2 := fun x y H Q => ∃ p xs, y = .ref p ∧ (SqL K H p xs ∨ SqT K H p xs) ∧ flatV x = true ∧ xs.all flatV = true ∧ Q (.bl (if neg then !inV x xs else inV x xs)) H
theorem op_in_seq : OpR X (compareOp .In) (rIn X.K false) := by
  intro pins s σ H x y v u Q I rx ry h
  obtain ⟨p, xs, rfl, hq, fx, fs, q⟩ := h
  cases ry
  rcases hq with hq | hq
  · obtain ⟨its, r, pl, hz⟩ := I.list hq
    refine SeqAt.in_listAt (eqU x) pl.isList (fun w hw => mem_eqAt rx fx r fs w (by simpa using hw)) ⟨.bl _, H, I, rfl, ?_⟩
    rw [show its.toArray.any (eqU x) = its.any (eqU x) by simp, any_eqU r fs]
    exact q
  · obtain ⟨its, r, pl, hz⟩ := I.tuple hq
    refine SeqAt.in_tupleAt (eqU x) pl (fun w hw => mem_eqAt rx fx r fs w (by simpa using hw)) ⟨.bl _, H, I, rfl, ?_⟩
    rw [show its.toArray.any (eqU x) = its.any (eqU x) by simp, any_eqU r fs]
    exact q
theorem call_len_seq : CallR X (.builtin "len") (fun xs H Q => ∃ p ys, xs = [.ref p] ∧ (SqL X.K H p ys ∨ SqT X.K H p ys) ∧ Q (.int ys.length) H) := by
  intro pins s σ H xs us Q I r h
  obtain ⟨p, ys, rfl, hq, q⟩ := h
  obtain ⟨u, rfl, rx⟩ := vals1 r
  cases rx
  have hn := line63
  rcases hq with hq | hq
  · obtain ⟨its, r', pl, hz⟩ := I.list hq
    have hlen := r'.length
    exact Calls.call_len_list pl.isList (by simp only [List.size_toArray] <;> omega) ⟨.int ys.length, H, I.tok _, ⟨s.toks + 1, by rw [List.size_toArray, hlen]⟩, q⟩
  · obtain ⟨its, r', pl, hz⟩ := I.tuple hq
    have hlen := r'.length
    exact len_tuple pl (by simp only [List.size_toArray] <;> omega) ⟨.int ys.length, H, I.tok _, ⟨s.toks + 1, by rw [List.size_toArray, hlen]⟩, q⟩
theorem call_list_of : CallR X (.type "list") (fun xs H Q => ∃ p ys, xs = [.ref p] ∧ (SqL X.K H p ys ∨ SqT X.K H p ys) ∧ ∀ l, H l = none → Q (.ref l) (upd H l (.lst ys))) := by
  intro pins s σ H xs us Q I r h
  obtain ⟨p, ys, rfl, hq, q⟩ := h
  obtain ⟨u, rfl, rx⟩ := vals1 r
  cases rx
  have fin : ∀ (its : List Value), Vals ys its → ys.length ≤ sizeLine → ∀ (h' : Heap) (c' : Nat), (∀ b o', s.heap.get? b = some o' → h'.get? b = some o') →
      h'.get? s.heap.objs.size = some { cls := .type "list", dict := none, data := .seq its.toArray c', slots := #[] } → EP X pins σ Q (.ref s.heap.objs.size) { s with heap := h' } := fun its r' hz h' c' kp e =>
    ⟨.ref s.heap.objs.size, _, I.laid (t' := s.toks) kp (Nat.le_refl _) (show ObjOk X.prog X.w _ h' _ (.lst ys) from ⟨hz, its, c', r', e⟩), rfl, q _ (I.hok.fresh (Nat.le_refl _))⟩
  rcases hq with hq | hq
  · obtain ⟨its, r', pl, hz⟩ := I.list hq
    have hlen := r'.length
    obtain ⟨o, ho, hc, n, hd⟩ := pl.isList
    exact call_list_seq p (.inl rfl) ho hc hd (fun h' c' kp e => fin its r' hz h' c' kp e) (by simp only [List.size_toArray] <;> omega)
  · obtain ⟨its, r', pl, hz⟩ := I.tuple hq
    have hlen := r'.length
    obtain ⟨o, ho, hc, n, hd⟩ := pl
    exact call_list_seq p (.inr rfl) ho hc hd (fun h' c' kp e => fin its r' hz h' c' kp e) (by simp only [List.size_toArray] <;> omega)
theorem call_tuple_of : CallR X (.type "tuple") (fun xs H Q => ∃ p ys, xs = [.ref p] ∧ ((SqL X.K H p ys ∧ ∀ l, H l = none → Q (.ref l) (upd H l (.tup ys))) ∨ (SqT X.K H p ys ∧ Q (.ref p) H))) := by
  intro pins s σ H xs us Q I r h
  obtain ⟨p, ys, rfl, h⟩ := h
  obtain ⟨u, rfl, rx⟩ := vals1 r
  cases rx
  rcases h with ⟨hq, q⟩ | ⟨hq, q⟩
  · obtain ⟨its, r', pl, hz⟩ := I.list hq
    have hlen := r'.length
    refine call_tuple_list pl.isList (fun h' kp => ?_) (by simp only [List.size_toArray] <;> omega)
    have I1 : Inv X pins σ H { s with heap := h' } := I.kept (t' := s.toks) kp
    have I2 : Inv X pins σ (upd H h'.objs.size (.tup ys)) { s with heap := h'.push { cls := .type "tuple", data := .seq its.toArray } } :=
      I1.laid (t' := s.toks) (fun b o e => Heap.get?_push_of_some _ e) (Nat.le_refl _) (show ObjOk X.prog X.w _ _ _ (.tup ys) from ⟨hz, its, r', IsTup.new _ _⟩)
    exact ⟨.ref h'.objs.size, _, I2, rfl, q _ (I1.hok.fresh (Nat.le_refl _))⟩
  · obtain ⟨its, r', pl, hz⟩ := I.tuple hq
    exact call_tuple_same pl ⟨.ref p, H, I, rfl, q⟩
def tyV (K : PySem.W.Frag) (T : String) (x : V) (H : Hp) : Prop := match x with
  | .str _ => T = "str"
  | .int _ => T = "int"
  | .ref p => (T = "list" ∧ ∃ xs, SqL K H p xs) ∨ (T = "tuple" ∧ ∃ o, K.lookup p = some o ∧ o.cls = .type "tuple" ∧ o.dict = none) ∨
      (T = "dict" ∧ ((∃ kvs, H p = some (.dK kvs)) ∨ ∃ kvs, H p = some (.dT kvs))) ∨ (T = "set" ∧ ∃ S n, H p = some (.set S n))
  | _ => False
theorem tyV_is {pins : List (Addr × Obj)} {σ : St} {H : Hp} {s : Shared} {T : String} {x : V} {v : Value} (I : Inv X pins σ H s) (r : RelV x v) (ty : tyV X.K T x H) :
    s.TypeIs v T ∧ ∀ a, v = .ref a → ∃ ob, s.heap.get? a = some ob ∧ ob.dict = none := by
  cases x with
  | str z =>
    obtain ⟨t, rfl⟩ := r
    cases (show T = "str" from ty)
    exact ⟨typeIs_str s z t, fun _ e => nomatch e⟩
  | int i =>
    obtain ⟨t, rfl⟩ := r
    cases (show T = "int" from ty)
    exact ⟨typeIs_int s i t, fun _ e => nomatch e⟩
  | ref p =>
    cases r
    rcases ty with ⟨rfl, xs, hq⟩ | ⟨rfl, o, hk, hc, hd⟩ | ⟨rfl, hk⟩ | ⟨rfl, S, n, hk⟩
    · obtain ⟨its, _, pl, _⟩ := I.list hq
      refine ⟨pl.isList.typeIs, fun a e => ?_⟩
      cases e
      obtain ⟨o, n, e, c, hd, _⟩ := pl
      exact ⟨o, e, hd⟩
    · refine ⟨⟨o, I.kIn p o hk, hc⟩, fun a e => ?_⟩
      cases e
      exact ⟨o, I.kIn _ o hk, hd⟩
    · have z : ∃ o, s.heap.get? p = some o ∧ o.ExactDict := by
        rcases hk with ⟨kvs, hk⟩ | ⟨kvs, hk⟩
        · obtain ⟨_, _, _, _, o, _, _, e, ex, _⟩ := I.hok p _ hk
          exact ⟨o, e, ex⟩
        · obtain ⟨_, _, _, _, o, _, _, e, ex, _⟩ := I.hok p _ hk
          exact ⟨o, e, ex⟩
      obtain ⟨o, e, ex⟩ := z
      refine ⟨⟨o, e, ex.1⟩, fun a e2 => ?_⟩
      cases e2
      exact ⟨o, e, ex.2.1⟩
    · obtain ⟨o, _, _, _, e, ex, _⟩ := I.hok p _ hk
      refine ⟨⟨o, e, ex.1⟩, fun a e2 => ?_⟩
      cases e2
      exact ⟨o, e, ex.2.1⟩
  | _ => exact False.elim ty
def tBM (K : PySem.W.Frag) (T : String) (r : V → List V → Hp → VK → Prop) (to : TE) (t : TA) : TE := fun σ H Q => to σ H fun x H1 => tyV K T x H1 ∧ t σ H1 fun xs H2 => r x xs H2 Q
variable {o e : Expr} {es : List Expr} {to : TE} {t : TA} {name : Str} {apos cpos : Pos} {T id : String} {r : V → List V → Hp → VK → Prop}
theorem pe_bm (pa : PlainAttrs T) (slot : Slot T name id) (hty : typeOf (.builtin id) = pure (.type "method_descriptor")) (hm : MtR X id r) (ho : PE X o to) (ha : PA X (e :: es) t)
    (hbase : attributeBase o name X.env (eval o X.env) = eval o X.env := by rfl)
    (hfew : ((backTo cpos (starEach (e :: es) X.env)).all (fun x => !x.1) && (backToKw cpos (keywordEach [] X.env)).all (fun x => x.1.isSome)
      && decide ((e :: es).length + ([] : List Keyword).length + (if ([] : List Keyword).isEmpty then 0 else 1) < 30)) = true := by rfl)
    (hline : (apos.endLine == cpos.line) = true := by rfl) (hs : starEach (e :: es) X.env = (false, eval e X.env) :: starEach es X.env := by rfl) (hplain : (backTo cpos (starEach es X.env)).any (·.1) = false := by rfl) :
    PE X (.Call (.Attribute o name apos) (e :: es) [] cpos) (tBM X.K T r to t) := by
  intro pins s σ H Q I h
  refine wpAny_Call_method_late hbase hfew hline rfl (thn (ho pins s σ H _ I h) fun v s1 ⟨x, H1, I1, r1, ty, q1⟩ => ?_)
  obtain ⟨h1, h2⟩ := tyV_is I1 r1 ty
  refine ⟨T, id, pa, slot, hty, h1, h2, ?_⟩
  have hA := ha cpos pins s1 σ H1 _ I1 q1
  rw [hs] at hA ⊢
  refine Calls.callWith_builtin (by show (false || (backTo cpos (starEach es X.env)).any (·.1)) = false; rw [hplain] <;> rfl) (Calls.evalArgs_plain ?_)
  exact thn hA fun us s2 ⟨vs, H2, I2, r2, q2⟩ => hm pins s2 σ H2 x vs v us Q I2 r1 r2 q2
end
end L2
namespace L2
open PySem PySem.Spec PyProof.Rows
def MtM (X : Cx) (id : String) (r : V → List V → Hp → VK → Prop) : Prop :=
  ∀ (pins : List (Addr × Obj)) (s : Shared) (σ : St) (H : Hp) (x : V) (xs : List V) (v : Value) (us : List Value) (Q : VK), Inv X pins σ H s → RelV x v → Vals xs us → r x xs H Q →
    wpAny (model X.prog X.w) X.A (call (.builtin id) (v :: us)) (EP X pins σ Q) X.xe s
theorem Vals.one : ∀ {x : V} {us : List Value}, Vals [x] us → ∃ u, us = [u] ∧ RelV x u
  | _, _, .cons r .nil => ⟨_, rfl, r⟩
section
variable {X : Cx} {pins : List (Addr × Obj)} {σ : St} {H : Hp} {s : Shared} {l b : Addr} {xs ys zs : List V}
theorem Inv.lset {its its' : List Value} {n : Nat} {f : Array Value → Array Value} {t' : Nat} (I : Inv X pins σ H s) (hH : H l = some (.lst xs))
    (e : s.heap.get? l = some { cls := .type "list", data := .seq its.toArray n }) (hf : f its.toArray = its'.toArray) (hv : Vals ys its') (hz : ys.length ≤ sizeLine) :
    Inv X pins σ (upd H l (.lst ys)) { s with heap := s.heap.update l (Obj.mapSeq f), toks := t' } := by
  have q := PySem.IsL.update e f
  rw [hf] at q
  refine I.write (x := l) (e := l) (by rw [hH]; exact trivial) (.inl rfl) (fun b' u hb hu => (Heap.get?_update_other s.heap (Obj.mapSeq f) (Ne.symm hb)).trans hu) ⟨_, q⟩ ?_
  exact ⟨hz, its', _, hv, q⟩
theorem Inv.lnew {its : List Value} {t' : Nat} (I : Inv X pins σ H s) (hv : Vals ys its) (hz : ys.length ≤ sizeLine) :
    Inv X pins σ (upd H s.heap.objs.size (.lst ys)) { s with heap := s.heap.push { cls := .type "list", data := .seq its.toArray }, toks := t' } :=
  I.laid (fun _ _ q => Heap.get?_push_of_some _ q) (Nat.le_refl _) ⟨hz, its, 0, hv, Heap.get?_push_size _ rfl⟩
theorem Inv.fresh (I : Inv X pins σ H s) : H s.heap.objs.size = none := I.hok.fresh (Nat.le_refl _)
theorem Inv.lstM (I : Inv X pins σ H s) (hH : H l = some (.lst xs)) : xs.length ≤ sizeLine ∧ ∃ (its : List Value) (n : Nat), Vals xs its ∧ xs.length = its.length ∧ s.heap.get? l = some { cls := .type "list", data := .seq its.toArray n } := by
  obtain ⟨z, its, n, r, e⟩ := I.hok l _ hH
  exact ⟨z, its, n, r, r.length, e⟩
theorem notLongL {n : Nat} (h : n ≤ sizeLine) : Builtin.List.listTooLong n = false := by
  unfold Builtin.List.listTooLong
  exact decide_eq_false (by omega)
end
section
variable {X : Cx}
def rAppend : V → List V → Hp → VK → Prop := fun x vs H Q => ∃ l xs y, x = .ref l ∧ vs = [y] ∧ H l = some (.lst xs) ∧ xs.length < sizeLine ∧ Q .non (upd H l (.lst (xs ++ [y])))
theorem mt_append : MtM X "list.append" rAppend := by
  intro pins s σ H x vs v us Q I rx rv h
  obtain ⟨l, xs, y, rfl, rfl, hH, hz, q⟩ := h
  cases rx
  obtain ⟨u, rfl, ru⟩ := rv.one
  obtain ⟨z, its, n, r, hl, e⟩ := I.lstM hH
  refine call_meets F.slot_list_append ⟨_, e, rfl⟩ F.entry_list_append (F.args_list_append_2 _ _) (PySem.list_append l its.toArray n u (by rw [List.size_toArray]; omega)) ⟨e, ?_⟩
  refine ⟨.non, _, I.lset (its' := its ++ [u]) hH e (by simp) (r.append (.cons ru .nil)) ?_, rfl, q⟩
  rw [List.length_append, List.length_singleton]
  omega
def rExtend : V → List V → Hp → VK → Prop := fun x vs H Q => ∃ l b xs zs, x = .ref l ∧ vs = [.ref b] ∧ H l = some (.lst xs) ∧ H b = some (.lst zs) ∧ xs.length + zs.length ≤ sizeLine ∧ Q .non (upd H l (.lst (xs ++ zs)))
theorem mt_extend : MtM X "list.extend" rExtend := by
  intro pins s σ H x vs v us Q I rx rv h
  obtain ⟨l, b, xs, zs, rfl, rfl, hH, hB, hz, q⟩ := h
  cases rx
  obtain ⟨u, rfl, ru⟩ := rv.one
  cases ru
  obtain ⟨z, its, n, r, hl, e⟩ := I.lstM hH
  obtain ⟨z2, its2, n2, r2, hl2, e2⟩ := I.lstM hB
  have hsz : its.toArray.size + its2.toArray.size ≤ sizeLine := by rw [List.size_toArray, List.size_toArray]; omega
  have hlong : ¬ (!its.toArray.isEmpty && Builtin.List.listTooLong (its.toArray.size + its2.toArray.size)) = true := by
    rw [notLongL hsz, Bool.and_false]
    exact Bool.false_ne_true
  refine call_meets F.slot_list_extend ⟨_, e, rfl⟩ F.entry_list_extend (F.args_list_extend_2 _ _)
    (AutoSeq1.list_extend_list_list_0 l its.toArray n b its2.toArray n2 hlong (by rw [List.size_toArray]; omega) (by omega)) ⟨e, e2, ?_⟩
  refine ⟨.non, _, I.lset (its' := its ++ its2) hH e (by simp) (r.append r2) ?_, rfl, q⟩
  rw [List.length_append]
  omega
def rCat : R2 := fun x y H Q => ∃ l b xs zs, x = .ref l ∧ y = .ref b ∧ H l = some (.lst xs) ∧ H b = some (.lst zs) ∧ xs.length + zs.length ≤ sizeLine ∧ ∀ p, H p = none → Q (.ref p) (upd H p (.lst (xs ++ zs)))
theorem op_cat : OpR X (binaryOp .Add) rCat := by
  intro pins s σ H x y v u Q I rx ry h
  obtain ⟨l, b, xs, zs, rfl, rfl, hH, hB, hz, q⟩ := h
  cases rx
  cases ry
  obtain ⟨z, its, n, r, hl, e⟩ := I.lstM hH
  obtain ⟨z2, its2, n2, r2, hl2, e2⟩ := I.lstM hB
  refine PySem.P.add_list e e2 ?_ (by rw [List.size_toArray, List.size_toArray]; omega)
  have ea : its.toArray ++ its2.toArray = (its ++ its2).toArray := by simp
  rw [ea]
  exact ⟨.ref _, _, I.lnew (t' := s.toks) (r.append r2) (by rw [List.length_append]; omega), rfl, q _ I.fresh⟩
end
section
variable {prog : Program} {w : World} {A : Around} {E : Value → Shared → Prop} {s : Shared}
end
section
variable {X : Cx}
end
end L2
namespace Att
open PySem PySem.W PySem.Calls PyProof.Rows
theorem ints_of_wellAll {P : Params} {h : Heap} : ∀ (ns : List Int) (vs : List Value), WellAll P h vs (ns.map WData.int) → IntsAre vs ns := by
  intro ns
  induction ns with
  | nil =>
    intro vs w
    rw [List.map_nil] at w
    cases w
    exact .nil
  | cons n ns ih =>
    intro vs w
    rw [List.map_cons] at w
    cases w with
    | cons a b =>
      cases a
      exact .cons _ _ (ih _ b)
theorem script_of {l : OpenLaw} {n : Nat} (hn : l.most = some n) {P : Params} {h : Heap} {args : List WData} {vals : List Value}
    (hpre : l.row.toRowW.claim.pre args = true) (hwl : WellAll P h vals args) :
    ∃ a vs ns, vals = [Value.ref a] ∧ args = [WData.list (ns.map WData.int)] ∧ h.get? a = some { cls := .type "list", data := .seq vs.toArray } ∧ IntsAre vs ns ∧ ns.length ≤ n := by
  have hsh : WShape.hasAll [] args [.list .int] = true := (pre_splitW hpre).1
  have hc : l.pre.holds [] { args := args } = true := (pre_splitW hpre).2
  obtain ⟨d, r, rfl, h1, h2⟩ := hasAllW_cons hsh
  obtain rfl := hasAllW_nil h2
  obtain ⟨xs, rfl, h3⟩ := hasW_list h1
  obtain ⟨ns, rfl⟩ := items_int h3
  have hlen : ns.length ≤ n := by
    unfold OpenLaw.pre at hc
    have h4 : (WTm.not (.lt (.lit (.int (n : Int))) (.len (.arg 0)))).holds [] { args := [.list (ns.map .int)] } = true := by
      have h4 := (holds_andW hc).1
      rw [hn] at h4
      exact h4
    have h5 := condW_of h4 (w_not (w_lt w_lit (w_len_list (w_arg rfl))))
    rw [List.length_map] at h5
    refine Nat.le_of_not_lt fun q => ?_
    have q' : (n : Int) < ((ns.length : Nat) : Int) := by omega
    first
      | (rw [decide_eq_true q'] at h5; exact absurd h5 (by decide))
      | (simp at h5; omega)
  cases hwl with
  | cons w1 w2 =>
    cases w2
    cases w1 with
    | list ho hall => exact ⟨_, _, ns, rfl, rfl, ho, ints_of_wellAll ns _ hall, hlen⟩
theorem post_true (l : OpenLaw) (args : List WData) : l.row.toRowW.claim.post args (.bool true) args = true :=
  postW_of (r := l.row.toRowW) (X := (true == true))
    (show WShape.has [] (.bool true) .bool = true by first | rfl | decide | simp [WShape.has, WShape.arms, WShape.armsAll])
    (show (WTm.eq .res (.lit (.bool true))).value [] { args := args, res := some (.bool true), after := args } = some (.bool (true == true)) from w_eq_bool (w_res rfl) w_lit) rfl
theorem attach_call {l : OpenLaw} {n : Nat} {q : Program} {loose : List Str} {XP : (Str → Option Value) → Heap → Prop} {YP : World → Heap → Prop} {d : DefRec}
    (hn : l.most = some n) (hdf : d.params.defaults = [])
    (call : ∀ (w : World) (s₀ s₁ : Shared) (mg mb : Str → Option Value) (fa : Addr) (o : Obj) (pm cd doc : Value) (a : Addr) (vs : List Value) (ns : List Int),
      Ground q loose [] XP w s₀ mg mb s₁.heap → YP w s₁.heap →
      s₁.heap.get? fa = some o → o.data = .func (docDef d.name d.params d.body d.scope pm cd doc) → s₁.heap.CodeRec cd d.name → mg d.name = some (.ref fa) →
      s₁.heap.get? a = some { cls := .type "list", data := .seq vs.toArray } → IntsAre vs ns → ns.length ≤ n → s₁.gens = #[] →
      codeAny (model l.prog w) callerA (.call (.ref fa) ⟨[.ref a], []⟩) (fun r s' => r = .ok (.ret (.bool true)) ∧ OldK s₁.heap s'.heap ∧ s'.os = s₁.os ∧ AllBare s'.gens) s₁) :
    WalkO q loose XP YP l.row.toRowW d [] (fun f vs => PySem.call f vs) := by
  intro w s₀ s₁ mg mb G Y fa o pm cd doc dV kV ho hd hcd hD hmg hg args vals as hpre hlay hrd hwl hlo
  obtain rfl : dV = .none := Dflts.none hD hdf
  obtain rfl : kV = .none := Dflts.noKw hD
  obtain ⟨a, vs, ns, rfl, rfl, hobj, hints, hlen⟩ := script_of hn hpre hwl
  refine enter_call (codeAny_mono (call w s₀ s₁ mg mb fa o pm cd doc a vs ns G Y ho (fd_plain hd) hcd hmg hobj hints hlen hg) fun r s' hq => ?_)
  obtain ⟨rfl, h2, h3, h4⟩ := hq
  exact ⟨.inl ⟨.bool true, .bool true, [], rfl, fun _ => rfl, .bool true, post_true l _, fun _ => ⟨List.Pairwise.nil, fun _ hm => (nomatch hm)⟩⟩, h2, h3, h4⟩
section
variable {prog : Program} {w : World} {A : Around} {E : Value → Shared → Prop} {s : Shared} {K : Frag}
end
end Att
namespace L2
open PySem PySem.Spec PyProof.Rows
theorem vals_ints : ∀ {vs : List Value} {ns : List Int}, IntsAre vs ns → Vals (ns.map V.int) vs
  | _, _, .nil => .nil
  | _, _, .cons n t h => .cons ⟨t, rfl⟩ (vals_ints h)
def Only (H : Hp) : Prop := ∀ b, H b = none ∨ ∃ o xs, H b = some (.frz o (.lst xs))
theorem law_call {P : Program} {w : World} {K : PySem.W.Frag} {mg mb : Str → Option Value} {CX : CXT} {k : Nat} {fa a : Addr} {fd : FuncData} {x : Str} {sp : Sp} {s₁ : Shared} {vs : List Value} {ns : List Int}
    (KX : K.In s₁.heap) (hns : s₁.heap.Ns mainGlobals mg) (hb : s₁.heap.Ns builtinsNs mb) (hbb : ∀ x : Str, x ≠ "__name__" → mb x = bootBuiltins x) (hlim : s₁.heap.NoLimit) (hg : s₁.gens = #[])
    (ha : s₁.heap.get? a = some { cls := .type "list", data := .seq vs.toArray }) (hi : IntsAre vs ns) (hl : ns.length ≤ sizeLine) (hr : Room k callerA)
    (F : ∀ base : Heap, K.In base → base.Ns mainGlobals mg → FnOk P w K mg base CX k fa fd [x] sp) (hbind : ∀ (s : Shared) (u : Value), BindsTo s fd ⟨[u], []⟩ [(x, u)])
    (hsp : ∀ H : Hp, Only H → SqL K H a (ns.map V.int) → sp [.ref a] H (fun v _ => v = .bl true) fun _ _ _ => False)
    (hCX : ∀ H e s', CX [] H s₁ (fun _ _ _ => False) e s' → False) :
    codeAny (model P w) callerA (.call (.ref fa) ⟨[.ref a], []⟩) (fun r s' => r = .ok (.ret (.bool true)) ∧ OldK s₁.heap s'.heap ∧ s'.os = s₁.os ∧ AllBare s'.gens) s₁ := by
  have rv := vals_ints hi
  have lenV := hi.length
  have core : ∀ H : Hp, Only H → SqL K H a (ns.map V.int) → HOk P w H s₁.heap → (∀ b, H b ≠ none → b = a) → (H a ≠ none → K.lookup a = none) →
      codeAny (model P w) callerA (.call (.ref fa) ⟨[.ref a], []⟩) (fun r s' => r = .ok (.ret (.bool true)) ∧ OldK s₁.heap s'.heap ∧ s'.os = s₁.os ∧ AllBare s'.gens) s₁ := by
    intro H hO hS hok hA hK
    have base_of : ∀ {b : Addr} {o : Obj}, s₁.heap.get? b = some o → H b = none → (hidT s₁.heap H).get? b = some o := fun e n => hidT_get e n
    have noA : ∀ {b : Addr} {o : Obj} {es : Array DictEntry} {ep : Nat}, s₁.heap.get? b = some o → o.data = .dict es ep → H b = none := fun {b o es ep} e d => by
      cases q : H b with
      | none => rfl
      | some u =>
        have e' : b = a := hA b (by rw [q]; simp)
        subst e'
        rw [ha] at e; cases e
        have d' : Data.seq vs.toArray _ = Data.dict es ep := d
        cases d'
    have nsK : ∀ {b : Addr} {m : Str → Option Value}, s₁.heap.Ns b m → (hidT s₁.heap H).Ns b m := fun {b m} ⟨o, es, ep, e, d, r⟩ => ⟨o, es, ep, base_of e (noA e d), d, r⟩
    have hKb : K.In (hidT s₁.heap H) := fun b o e => base_of (KX b o e) (by
      cases q : H b with
      | none => rfl
      | some u =>
        have e' : b = a := hA b (by rw [q]; simp)
        subst e'
        rw [hK (by rw [q]; simp)] at e; cases e)
    have hM : Mod K mg (hidT s₁.heap H) := ⟨hKb, nsK hns, ⟨mb, nsK hb, hbb⟩, let ⟨mc, h1, h2⟩ := hlim; ⟨mc, nsK h1, h2⟩⟩
    have e0 : Env0 P w K mg (hidT s₁.heap H) callerA [] s₁ H := ⟨rfl, hM, fun b o e => of_hidT e, Nat.le_of_eq (hidT_size _ _), trivial, fun b hb => absurd (show b ∈ ([] : List Addr) from hb) (by simp), hok, .of_eq hg⟩
    refine codeAny_mono ((F _ hKb (nsK hns)).run callerA [] s₁ H ⟨[.ref a], []⟩ [.ref a] [.ref a] _ _ hr e0 (hbind s₁ (.ref a)) (.cons rfl .nil) (hsp H hO hS)) fun r s' h => ?_
    cases r with
    | error e => exact (hCX H e s' h).elim
    | ok fl =>
      cases fl with
      | next => exact False.elim h
      | brk => exact False.elim h
      | cont => exact False.elim h
      | ret u =>
        obtain ⟨v, H', os, bare, un, hok', r', q⟩ := h
        have q' : v = .bl true := q
        subst q'
        obtain rfl : u = Value.bool true := r'
        refine ⟨rfl, OldK.of_keep fun b o e => ?_, os, bare⟩
        cases q : H b with
        | none => exact un.keep b o e q (by intro z; exact absurd (show b ∈ ([] : List Addr) from z) (by simp)) (by simp)
        | some u =>
          rcases hO b with z | ⟨ob, xs, z⟩
          · rw [q] at z; cases z
          · have z2 := un.frzs b ob _ z
            obtain ⟨e1, _⟩ := hok b _ z
            obtain ⟨e2, _⟩ := hok' b _ z2
            rw [e] at e1; cases e1
            exact e2
  cases hk : K.lookup a with
  | some o =>
    have e := KX a o hk
    rw [ha] at e
    cases e
    refine core (fun _ => none) (fun _ => .inl rfl) (.inr ⟨_, vs.toArray, _, hk, rfl, rfl, rfl, by rw [List.size_toArray, lenV]; exact hl, by simpa using rv⟩) (fun b u z => by have z' : (none : Option HO) = some u := z; cases z') (fun b z => absurd rfl z) fun z => absurd rfl z
  | none =>
    refine core (fun b => if b = a then some (.frz { cls := .type "list", data := .seq vs.toArray } (.lst (ns.map V.int))) else none) (fun b => ?_) (.inl (.inr ⟨{ cls := .type "list", data := .seq vs.toArray }, if_pos rfl⟩)) (fun b u z => ?_) (fun b z => ?_) fun _ => hk
    · by_cases hb : b = a
      · exact .inr ⟨_, _, if_pos hb⟩
      · exact .inl (if_neg hb)
    · by_cases hb : b = a
      · have z' := (if_pos hb).symm.trans z
        cases z'
        subst hb
        exact ⟨ha, by rw [List.length_map]; exact hl, vs, _, rv, ha⟩
      · have z' := (if_neg hb).symm.trans z
        cases z'
    · by_cases hb : b = a
      · exact hb
      · exact absurd (if_neg hb) z
end L2
namespace L2
open PySem PySem.Spec PyProof.Rows
theorem walk_of {l : PySem.W.OpenLaw} {n k : Nat} {q : Program} {loose : List Str} {XP : (Str → Option Value) → Heap → Prop} {YP : World → Heap → Prop} {d : DefRec} {K : Params → PySem.W.Frag} {CX : World → CXT} {sp : World → Sp} {x : Str}
    (hn : l.most = some n) (hn2 : n ≤ sizeLine) (hdf : d.params.defaults = []) (hr : Room k callerA)
    (hY : ∀ (w : World) (h : Heap), YP w h → (K w.params).In h)
    (F : ∀ (w : World) (mg : Str → Option Value) (fa : Addr) (h : Heap), (K w.params).In h → h.Ns mainGlobals mg → mg d.name = some (.ref fa) →
      ∃ fd : FuncData, (∀ (s : Shared) (u : Value), BindsTo s fd ⟨[u], []⟩ [(x, u)]) ∧
        ∀ base : Heap, (K w.params).In base → base.Ns mainGlobals mg → FnOk l.prog w (K w.params) mg base (CX w) k fa fd [x] (sp w))
    (hsp : ∀ (w : World) (H : Hp) (a : Addr) (ns : List Int), ns.length ≤ n → Only H → SqL (K w.params) H a (ns.map V.int) → sp w [.ref a] H (fun v _ => v = .bl true) fun _ _ _ => False)
    (hCX : ∀ (w : World) (H : Hp) (s : Shared) (e : Value) (s' : Shared), CX w [] H s (fun _ _ _ => False) e s' → False) :
    PySem.W.WalkO q loose XP YP l.row.toRowW d [] (fun f vs => PySem.call f vs) := by
  refine Att.attach_call hn hdf fun w s₀ s₁ mg mb fa o pm cd doc a vs ns G Y ho hd hcd hmg hobj hints hlen hg => ?_
  have KX := hY w _ Y
  obtain ⟨fd, hb, hF⟩ := F w mg fa _ KX G.T.g hmg
  exact law_call KX G.T.g G.T.b G.T.builtins G.T.nolimit hg hobj hints (Nat.le_trans hlen hn2) hr hF hb (fun H hO hS => hsp w H a ns hlen hO hS) fun H e s' => hCX w H s₁ e s'
end L2
namespace L2
open PySem PySem.Spec PyProof.Rows
def inClass (s : Stmt) (j : Nat) : Stmt := match s with
  | .ClassDef _ _ _ body _ _ _ _ _ _ _ => body.getD j (.Pass ⟨0, 0, 0, 0⟩)
  | _ => .Pass ⟨0, 0, 0, 0⟩
def defArgs (s : Stmt) : Arguments := match s with
  | .FunctionDef _ a _ _ _ _ _ _ _ _ => a
  | _ => { posonlyargs := [], args := [], vararg := none, kwonlyargs := [], kw_defaults := [], kwarg := none, defaults := [] }
def defBody (s : Stmt) : List Stmt := match s with
  | .FunctionDef _ _ b _ _ _ _ _ _ _ => b
  | _ => []
def defScope (s : Stmt) : Scope := match s with
  | .FunctionDef _ _ _ _ _ _ sc _ _ _ => sc
  | _ => { kind := .function, names := [], isGenerator := false, isCoroutine := false }
abbrev CX0 : CXT := fun _ _ _ _ _ _ => False
abbrev E0 : XK := fun _ _ _ => False
theorem pass0 {X : Cx} : Passes CX0 X E0 := fun _ _ _ _ _ _ _ h => h.elim
structure Fun (K : PySem.W.Frag) (x qual : Str) (st : Stmt) (f : Addr) (fd : FuncData) : Prop where
  ex : ∃ (oc : Value) (od : Option Addr) (kV doc pm : Value) (an : Option Addr) (cdv ct : Value) (osl : Array (Option Value)),
    fd = PySem.W.fnOf x qual (defArgs st) (defBody st) (defScope st) .none kV doc pm an cdv ct ∧ K.lookup f = some ⟨oc, od, .func fd, osl⟩ ∧ PySem.W.codeIn K cdv qual = true
  kp : PySem.W.keepIn K (.ref f) = true
section
variable {P : Program} {w : World} {K : PySem.W.Frag} {mg : Str → Option Value} {base : Heap}
theorem Fun.ok {x qual : Str} {st : Stmt} {f : Addr} {fd : FuncData} {N ps : List Str} {k : Nat} {sp : Sp} (F : Fun K x qual st f fd) (S : FnScope N ps (defScope st)) (len : ∀ vs H Q E, sp vs H Q E → vs.length = ps.length)
    (hbody : ∀ (cdv : Value) (A : Around) (outer : List Env) (s : Shared) (H : Hp) (vs : List V) (Q : VK) (E : XK), Room k (A.deeper (envOfC qual (defScope st) s.heap.objs.size f cdv)) → sp vs H Q E →
      ∃ t, PSs (cxOf CX0 P w K mg base N qual (defScope st) f cdv A outer s H E).nox (defBody st) t ∧ t { nx := fun _ H' => Q .non H', rt := Q } (start N vs) H) : FnOk P w K mg base CX0 (k + 1) f fd ps sp := by
  obtain ⟨oc, od, kV, doc, pm, an, cdv, ct, osl, rfl, lk, hcd⟩ := F.ex
  refine fn_of lk hcd S len fun A outer s H vs Q E hr hsp => ?_
  obtain ⟨t, h, q⟩ := hbody cdv A outer s H vs Q E hr hsp
  exact ⟨t, h.nox, q⟩
theorem Fun.binds {x qual : Str} {st : Stmt} {f : Addr} {fd : FuncData} {ps : List Str} (F : Fun K x qual st f fd)
    (h : ∀ (kV doc pm : Value) (an : Option Addr) (cdv ct : Value) (us : List Value), us.length = ps.length → bindArgs (PySem.W.fnOf x qual (defArgs st) (defBody st) (defScope st) .none kV doc pm an cdv ct) ⟨us, []⟩ = pure (ps.zip us)) : Binds K fd ps [] := by
  obtain ⟨oc, od, kV, doc, pm, an, cdv, ct, osl, rfl, lk, hcd⟩ := F.ex
  exact .all (h kV doc pm an cdv ct)
theorem fun_mk {x qual : Str} {st : Stmt} {f : Addr} {oc : Value} {od an : Option Addr} {osl : Array (Option Value)} {kV doc pm cdv ct : Value} (l : K.lookup f = some ⟨oc, od, .func (PySem.W.fnOf x qual (defArgs st) (defBody st) (defScope st) .none kV doc pm an cdv ct), osl⟩)
    (c : PySem.W.codeIn K cdv qual = true) (k : PySem.W.keepIn K (.ref f) = true) : Fun K x qual st f (PySem.W.fnOf x qual (defArgs st) (defBody st) (defScope st) .none kV doc pm an cdv ct) := ⟨⟨oc, od, kV, doc, pm, an, cdv, ct, osl, rfl, l, c⟩, k⟩
end
theorem hu_of {A : Around} {k : Nat} (hr : Room k A) : A.units + 1 < cLine := Nat.lt_of_le_of_lt (Nat.add_le_add_left (by decide : 1 ≤ 64) _) hr.units
section
variable {X : Cx}
theorem pv (i : Nat) {x : Str} {pos : Pos} (hN : X.N[i]? = some x := by rfl) (hv : Vis X.env.scope x := by first | exact Or.inl rfl | exact Or.inr (Or.inl rfl) | exact Or.inr (Or.inr rfl)) (hd : (x == ("__debug__" : Str)) = false := by decide)
    (hcd : (x == ("__classdict__" : Str)) = false := by decide) : PE X (.Name x pos) (tVar i) := pe_var hN hv hd hcd
end
theorem iteF {A B : Prop} (h : B) : if false = true then A else B := by
  rw [if_neg Bool.false_ne_true]
  exact h
theorem iteT {A B : Prop} (h : A) : if true = true then A else B := by
  rw [if_pos rfl]
  exact h
theorem ite2 {c A B : Prop} [Decidable c] (h1 : c → A) (h2 : ¬ c → B) : if c then A else B := by
  by_cases h : c
  · rw [if_pos h]
    exact h1 h
  · rw [if_neg h]
    exact h2 h
theorem iteNS {c A B : Prop} [Decidable c] (hc : c) (h : B) : if (!decide c) = true then A else B := by
  rw [decide_eq_true hc]
  exact iteF h
def Same (H H' : Hp) : Prop := ∀ b o, H b = some o → H' b = some o
theorem Same.refl (H : Hp) : Same H H := fun _ _ h => h
theorem Same.trans {H H1 H2 : Hp} (a : Same H H1) (b : Same H1 H2) : Same H H2 := fun c o h => b c o (a c o h)
theorem Same.free {H H' : Hp} (e : Same H H') {l : Addr} (h : H' l = Option.none) : H l = Option.none := by
  cases q : H l with
  | none => rfl
  | some o =>
    rw [e l o q] at h
    cases h
end L2
namespace L2
open PySem PySem.Spec PyProof.Rows
section
variable {κ : Type} [DecidableEq κ]
def valV (kvs : List (κ × V)) (k : κ) : Option V := (kvs.find? fun kv => decide (kv.1 = k)).map (·.2)
def putK (kvs : List (κ × V)) (k : κ) (v : V) : List (κ × V) :=
  if (kvs.any fun kv => decide (kv.1 = k)) = true then kvs.map (fun kv => if kv.1 = k then (kv.1, v) else kv) else kvs ++ [(k, v)]
theorem valV_pos {p : κ × V} {r : List (κ × V)} {k : κ} (e : p.1 = k) : valV (p :: r) k = some p.2 := by simp [valV, List.find?_cons, e]
theorem valV_neg {p : κ × V} {r : List (κ × V)} {k : κ} (e : ¬ p.1 = k) : valV (p :: r) k = valV r k := by simp [valV, List.find?_cons, e]
theorem valV_any (k : κ) : ∀ kvs : List (κ × V), (kvs.any fun kv => decide (kv.1 = k)) = (valV kvs k).isSome
  | [] => rfl
  | p :: r => by
    rw [List.any_cons]
    by_cases e : p.1 = k
    · simp only [valV_pos e, decide_eq_true e, Bool.true_or, Option.isSome_some]
    · rw [valV_neg e, decide_eq_false e, Bool.false_or]; exact valV_any k r
theorem length_putK (kvs : List (κ × V)) (k : κ) (v : V) : (putK kvs k v).length ≤ kvs.length + 1 := by
  unfold putK
  split
  · rw [List.length_map]; omega
  · rw [List.length_append, List.length_cons, List.length_nil]; omega
theorem putK_new {kvs : List (κ × V)} {k : κ} (v : V) (h : valV kvs k = none) : putK kvs k v = kvs ++ [(k, v)] := by
  unfold putK
  rw [valV_any, h]
  exact if_neg (by decide)
theorem RelO.isSome_eq {o : Option V} {u : Option Value} (r : RelO o u) : o.isSome = u.isSome := by
  cases o with
  | none => cases u with
    | none => rfl
    | some _ => exact (show False from r).elim
  | some _ => cases u with
    | none => exact (show False from r).elim
    | some _ => rfl
theorem RelO.getD {o : Option V} {u : Option Value} {d : V} {d' : Value} (r : RelO o u) (rd : RelV d d') : RelV (o.getD d) (u.getD d') := by
  cases o with
  | none => cases u with
    | none => exact rd
    | some _ => exact (show False from r).elim
  | some _ => cases u with
    | none => exact (show False from r).elim
    | some _ => exact r
theorem KV.val {kvs : List (κ × V)} {vs : List (κ × Value)} (r : KV kvs vs) (k : κ) : RelO (valV kvs k) (valueAt vs k) := by
  unfold KV at r
  induction r with
  | nil => exact True.intro
  | @cons p q ps qs h t ih =>
    obtain ⟨h1, h2⟩ := h
    by_cases e : p.1 = k
    · have e' : q.1 = k := h1.symm.trans e
      have b : valueAt (q :: qs) k = some q.2 := by simp [valueAt, List.find?_cons, e']
      rw [valV_pos e, b]; exact h2
    · have e' : ¬ q.1 = k := fun z => e (h1.trans z)
      have b : valueAt (q :: qs) k = valueAt qs k := by simp [valueAt, List.find?_cons, e']
      rw [valV_neg e, b]; exact ih
theorem KV.any {kvs : List (κ × V)} {vs : List (κ × Value)} (r : KV kvs vs) (k : κ) : (kvs.any fun kv => decide (kv.1 = k)) = vs.any fun kv => decide (kv.1 = k) := by
  unfold KV at r
  induction r with
  | nil => rfl
  | cons h t ih => rw [List.any_cons, List.any_cons, ih, h.1]
theorem KV.repl {kvs : List (κ × V)} {vs : List (κ × Value)} (r : KV kvs vs) (k : κ) {y : V} {u : Value} (ry : RelV y u) :
    KV (kvs.map fun kv => if kv.1 = k then (kv.1, y) else kv) (vs.map fun kv => if kv.1 = k then (kv.1, u) else kv) := by
  unfold KV at r ⊢
  induction r with
  | nil => exact .nil
  | @cons p q ps qs h t ih =>
    rw [List.map_cons, List.map_cons]
    refine .cons ?_ ih
    obtain ⟨h1, h2⟩ := h
    by_cases e : p.1 = k
    · rw [if_pos e, if_pos (h1.symm.trans e)]; exact ⟨h1, ry⟩
    · rw [if_neg e, if_neg (fun z => e (h1.trans z))]; exact ⟨h1, h2⟩
theorem KV.put {kvs : List (κ × V)} {vs : List (κ × Value)} (r : KV kvs vs) (k : κ) {y : V} {u : Value} (ry : RelV y u) : KV (putK kvs k y) (stored vs k u) := by
  unfold putK stored
  rw [r.any k]
  by_cases e : (vs.any fun kv => decide (kv.1 = k)) = true
  · rw [if_pos e, if_pos e]; exact r.repl k ry
  · rw [if_neg e, if_neg e]; exact Paired.snoc r ⟨rfl, ry⟩
theorem KV.keys {kvs : List (κ × V)} {vs : List (κ × Value)} (r : KV kvs vs) : kvs.map (·.1) = vs.map (·.1) := by
  unfold KV at r
  induction r with
  | nil => rfl
  | cons h t ih => rw [List.map_cons, List.map_cons, ih, h.1]
theorem KV.length {kvs : List (κ × V)} {vs : List (κ × Value)} (r : KV kvs vs) : kvs.length = vs.length := Paired.length r
end
theorem kV_is {P : Program} {w : World} {k : Key} {u : Value} (r : RelV (kV k) u) : (mixKind P w).is k u = true := by
  cases k with
  | inl i => obtain ⟨t, e⟩ := (show ∃ t, u = Value.int i t from r); subst e; exact mixKind_int P w i t
  | inr x => obtain ⟨t, e⟩ := (show ∃ t, u = Value.str x t from r); subst e; exact mixKind_str P w x t
theorem items_are {P : Program} {w : World} : ∀ {ks : List Key} {us : List Value}, Vals (ks.map kV) us → ItemsAre (mixKind P w) ks us
  | [], _, r => by rw [List.map_nil] at r; cases r; exact .nil
  | k :: ks, _, r => by
    rw [List.map_cons] at r
    cases r with
    | cons h t => exact .cons (kV_is h) (items_are t)
abbrev KT (H : Hp) : List (List Key × V) → List (List Key × Addr × Value) → Prop := Paired fun p q => p.1 = q.1 ∧ H q.2.1 = some (.tup (p.1.map kV)) ∧ RelV p.2 q.2.2
theorem KT.val {H : Hp} {kvs : List (List Key × V)} {xs : List (List Key × Addr × Value)} (r : KT H kvs xs) (k : List Key) : RelO (valV kvs k) ((atKey xs k).map (·.2)) := by
  induction r with
  | nil => exact True.intro
  | @cons p q ps qs h t ih =>
    obtain ⟨h1, _, h2⟩ := h
    by_cases e : p.1 = k
    · have e' : q.1 = k := h1.symm.trans e
      have b : atKey (q :: qs) k = some q.2 := by simp [atKey, List.find?_cons, e']
      rw [valV_pos e, b]; exact h2
    · have e' : ¬ q.1 = k := fun z => e (h1.trans z)
      have b : atKey (q :: qs) k = atKey qs k := by simp [atKey, List.find?_cons, e']
      rw [valV_neg e, b]; exact ih
theorem KT.repl {H : Hp} {kvs : List (List Key × V)} {xs : List (List Key × Addr × Value)} (r : KT H kvs xs) (k : List Key) {y : V} {u : Value} (ry : RelV y u) :
    KT H (kvs.map fun kv => if kv.1 = k then (kv.1, y) else kv) (xs.map (putAt k u)) := by
  induction r with
  | nil => exact .nil
  | @cons p q ps qs h t ih =>
    rw [List.map_cons, List.map_cons]
    refine .cons ?_ ih
    obtain ⟨h1, h2, h3⟩ := h
    unfold putAt
    by_cases e : p.1 = k
    · rw [if_pos e, if_pos (h1.symm.trans e)]; exact ⟨h1, h2, ry⟩
    · rw [if_neg e, if_neg (fun z => e (h1.trans z))]; exact ⟨h1, h2, h3⟩
theorem KT.put {H : Hp} {kvs : List (List Key × V)} {xs : List (List Key × Addr × Value)} (r : KT H kvs xs) (k : List Key) {b : Addr} {y : V} {u : Value} (hb : H b = some (.tup (k.map kV))) (ry : RelV y u) :
    KT H (putK kvs k y) (storedH xs k b u) := by
  have e : (kvs.any fun kv => decide (kv.1 = k)) = (atKey xs k).isSome := by
    rw [valV_any, (r.val k).isSome_eq, Option.isSome_map]
  unfold putK storedH
  rw [e]
  by_cases q : (atKey xs k).isSome = true
  · rw [if_pos q, if_pos q]; exact r.repl k ry
  · rw [if_neg q, if_neg q]; exact Paired.snoc r ⟨rfl, hb, ry⟩
theorem KT.keeps {H H' : Hp} {kvs : List (List Key × V)} {xs : List (List Key × Addr × Value)} (r : KT H kvs xs) (ht : ∀ b ys, H b = some (.tup ys) → H' b = some (.tup ys)) : KT H' kvs xs :=
  Paired.mapP r fun _ _ z => ⟨z.1, ht _ _ z.2.1, z.2.2⟩
section
variable {P : Program} {w : World} {H : Hp} {h : Heap} {a : Addr}
theorem rd_of {u : HO} (ok : HOk P w H h) (e : Rd H a u) : ObjOk P w H h a u := e.ok ok
theorem dk_rd {kvs : List (Key × V)} (ok : HOk P w H h) (e : Rd H a (.dK kvs)) : kvs.length ≤ sizeLine ∧ (a == sysModules) = false ∧ ∃ vs, KV kvs vs ∧ h.DictOf (mixKind P w) a vs :=
  show ObjOk P w H h a (.dK kvs) from rd_of ok e
theorem dk_of {kvs : List (Key × V)} (ok : HOk P w H h) (e : H a = some (.dK kvs)) : kvs.length ≤ sizeLine ∧ (a == sysModules) = false ∧ ∃ vs, KV kvs vs ∧ h.DictOf (mixKind P w) a vs := dk_rd ok (.inl e)
theorem key_of {ks : List Key} (ok : HOk P w H h) (e : H a = some (.tup (ks.map kV))) : (tupleKind (mixKind P w)).is h ks a := by
  obtain ⟨_, its, r, o, h1, h2, n, h3⟩ := (show ObjOk P w H h a (.tup (ks.map kV)) from ok a _ e)
  exact ⟨o, its.toArray, n, h1, h2, h3, by simpa using items_are r⟩
theorem dt_rd {kvs : List (List Key × V)} (ok : HOk P w H h) (e : Rd H a (.dT kvs)) : kvs.length ≤ sizeLine ∧ (a == sysModules) = false ∧
    ∃ xs, KT H kvs xs ∧ h.DictOfH (tupleKind (mixKind P w)) a xs := by
  obtain ⟨z, y, xs, r, o, es, ep, h1, h2, h3, h4, h5⟩ := (show ObjOk P w H h a (.dT kvs) from rd_of ok e)
  refine ⟨z, y, xs, r, o, es, ep, h1, h2, h3, h4, fun x hx => ?_, h5⟩
  have all : ∀ {l : List (List Key × V)} {m : List (List Key × Addr × Value)}, KT H l m → ∀ x ∈ m, (tupleKind (mixKind P w)).is h x.1 x.2.1 := by
    intro l m q
    induction q with
    | nil => intro x hx; exact nomatch hx
    | @cons p q ps qs hq t ih =>
      intro x hx
      rcases List.mem_cons.mp hx with e | hx
      · subst e
        exact key_of ok (by rw [← hq.1]; exact hq.2.1)
      · exact ih x hx
  exact all r x hx
theorem dt_of {kvs : List (List Key × V)} (ok : HOk P w H h) (e : H a = some (.dT kvs)) : kvs.length ≤ sizeLine ∧ (a == sysModules) = false ∧
    ∃ xs, KT H kvs xs ∧ h.DictOfH (tupleKind (mixKind P w)) a xs := dt_rd ok (.inl e)
end
def DGet (H : Hp) (a : Addr) (y : V) (r : Option V) : Prop :=
  (∃ kvs k, Rd H a (.dK kvs) ∧ y = kV k ∧ r = valV kvs k) ∨ ∃ kvs k b, Rd H a (.dT kvs) ∧ y = .ref b ∧ H b = some (.tup (k.map kV)) ∧ r = valV kvs k
def DPut (H : Hp) (a : Addr) (y v : V) (H' : Hp) : Prop :=
  (∃ kvs k, H a = some (.dK kvs) ∧ y = kV k ∧ kvs.length < sizeLine ∧ H' = upd H a (.dK (putK kvs k v))) ∨
  ∃ kvs k b, H a = some (.dT kvs) ∧ y = .ref b ∧ H b = some (.tup (k.map kV)) ∧ kvs.length < sizeLine ∧ H' = upd H a (.dT (putK kvs k v))
theorem DGet.k {H : Hp} {a : Addr} {kvs : List (Key × V)} {k : Key} (e : H a = some (.dK kvs)) : DGet H a (kV k) (valV kvs k) := .inl ⟨kvs, k, .inl e, rfl, rfl⟩
theorem DPut.k {H : Hp} {a : Addr} {kvs : List (Key × V)} {k : Key} {v : V} (e : H a = some (.dK kvs)) (hl : kvs.length < sizeLine) : DPut H a (kV k) v (upd H a (.dK (putK kvs k v))) := .inl ⟨kvs, k, e, rfl, hl, rfl⟩
section
variable {X : Cx} {pins : List (Addr × Obj)} {σ : St} {H : Hp} {s : Shared} {a : Addr} {y v : V} {u r : Value} {o : Option V} {A : Around} {E : Value → Shared → Prop}
theorem Inv.big (I : Inv X pins σ H s) : sysModules < s.heap.objs.size := by
  have h : mainGlobals < s.heap.objs.size := (I.mod.glob.keeps I.bk).lt
  exact Nat.lt_trans (by decide) h
theorem d_getItem {Q : Value → Shared → Prop} (hu : A.units + 1 < cLine) (I : Inv X pins σ H s) (g : DGet H a y (some v)) (ry : RelV y u) (h : ∀ w' s', Inv X pins σ H s' → RelV v w' → Q w' s') :
    wpAny (model X.prog X.w) A (getItem (.ref a) u) Q E s := by
  rcases g with ⟨kvs, k, e, ey, l⟩ | ⟨kvs, k, b, e, ey, eb, l⟩
  · subst ey
    obtain ⟨z, hd, vs, rel, dd⟩ := dk_rd I.hok e
    obtain ⟨w', hw, rw'⟩ := RelO.some_of (v := v) (o := valueAt vs k) (by rw [l]; exact rel.val k)
    exact wpAny_getItem_of (kV_is ry) dd.mapOf hw (h w' _ (I.tok _) rw')
  · subst ey
    cases (show u = Value.ref b from ry)
    obtain ⟨z, hd, xs, rel, dd⟩ := dt_rd I.hok e
    obtain ⟨w', hw, rw'⟩ := RelO.some_of (v := v) (o := (atKey xs k).map (·.2)) (by rw [l]; exact rel.val k)
    obtain ⟨p, hp, hp2⟩ := Option.map_eq_some_iff.mp hw
    refine wpAny_getItem_heap (tupleKind_room_in1 hu) (key_of I.hok eb) dd hp ?_
    rw [hp2]
    exact h w' _ (I.tok _) rw'
theorem d_in {Q : Value → Shared → Prop} (hu : A.units + 1 < cLine) (I : Inv X pins σ H s) (g : DGet H a y o) (ry : RelV y u) (h : ∀ s', Inv X pins σ H s' → Q (.bool o.isSome) s') :
    wpAny (model X.prog X.w) A (compareOp .In u (.ref a)) Q E s := by
  rcases g with ⟨kvs, k, e, ey, l⟩ | ⟨kvs, k, b, e, ey, eb, l⟩
  · subst ey
    obtain ⟨z, hd, vs, rel, dd⟩ := dk_rd I.hok e
    refine wpAny_in_of (kV_is ry) hd dd.mapOf ?_
    rw [← (rel.val k).isSome_eq, ← l]
    exact h _ (I.tok _)
  · subst ey
    cases (show u = Value.ref b from ry)
    obtain ⟨z, hd, xs, rel, dd⟩ := dt_rd I.hok e
    refine wpAny_in_heap (tupleKind_room_in1 hu) (key_of I.hok eb) hd dd ?_
    have q := (rel.val k).isSome_eq
    rw [Option.isSome_map] at q
    rw [← q, ← l]
    exact h _ (I.tok _)
theorem d_write {h' : Heap} {t' : Nat} {ob : HO} (I : Inv X pins σ H s) (mu : Mut (H a)) (hs : Heap.SameBut a s.heap h') (he : ∃ q, h'.get? a = some q) (new : ObjOk X.prog X.w (upd H a ob) h' a ob) :
    Inv X pins σ (upd H a ob) { s with heap := h', toks := t' } :=
  I.write (x := a) (e := a) mu (.inl rfl) (fun b q hb z => (hs.2 b hb).trans z) he new
theorem dk_new {P : Program} {w : World} {H' : Hp} {h' : Heap} {kvs : List (Key × V)} {vs : List (Key × Value)} (z : kvs.length ≤ sizeLine) (hd : (a == sysModules) = false) (rel : KV kvs vs) (dd : h'.DictOf (mixKind P w) a vs) :
    ObjOk P w H' h' a (.dK kvs) := ⟨z, hd, vs, rel, dd⟩
theorem d_setItem {H' : Hp} {Q : Unit → Shared → Prop} (hu : A.units + 1 < cLine) (I : Inv X pins σ H s) (g : DPut H a y v H') (ry : RelV y u) (rv : RelV v r) (h : ∀ s', Inv X pins σ H' s' → Q () s') :
    wpAny (model X.prog X.w) A (setItem (.ref a) u r) Q E s := by
  rcases g with ⟨kvs, k, e, ey, l, eH⟩ | ⟨kvs, k, b, e, ey, eb, l, eH⟩
  · subst ey eH
    obtain ⟨z, hd, vs, rel, dd⟩ := dk_of I.hok e
    have hz : vs.length ≤ sizeLine := by rw [← rel.length]; exact z
    have hl : (putK kvs k v).length ≤ sizeLine := by have := length_putK kvs k v; omega
    refine wpAny_setItem_pairs (hsz := hz) (kV_is ry) dd fun h' dd' hs => h _ ?_
    have he : ∃ q, h'.get? a = some q := let ⟨q, _, _, hq, _⟩ := dd'; ⟨q, hq⟩
    exact d_write I (by rw [e]; exact True.intro) hs he (dk_new hl hd (rel.put k rv) dd')
  · subst ey eH
    cases (show u = Value.ref b from ry)
    obtain ⟨z, hd, xs, rel, dd⟩ := dt_of I.hok e
    have hz : xs.length ≤ sizeLine := by rw [← Paired.length rel]; exact z
    have hl : (putK kvs k v).length ≤ sizeLine := by have := length_putK kvs k v; omega
    refine wpAny_setItem_heap (hsz := hz) (tupleKind_room_in1 hu) (key_of I.hok eb) dd fun h' dd' hs => h _ ?_
    obtain ⟨q, es, ep, hq, h2, h3, h4, _, h5⟩ := dd'
    refine d_write I (by rw [e]; exact True.intro) hs ⟨q, hq⟩ ⟨hl, hd, _, (rel.put k eb rv).keeps fun c ys ec => ?_, q, es, ep, hq, h2, h3, h4, h5⟩
    rw [upd_ne (ne_of ec e (fun z => nomatch z))]
    exact ec
end
section
variable {X : Cx} {pins : List (Addr × Obj)} {σ : St} {H : Hp} {s : Shared} {a : Addr} {kvs : List (Key × V)} {k : Key} {u : Value} {A : Around} {E : Value → Shared → Prop}
end
def NoSl (i : Expr) : Prop := ∀ ov iv, subscripted i false ov iv = operate [ov, iv] (getItem ov iv)
theorem subD_of {prog : Program} {w : World} {A : Around} {E : Value → Shared → Prop} {s : Shared} {env : Env} {value slice : Expr} {pos : Pos} {T id : String} {Q : Value → Shared → Prop}
    (hl : typeLookup (.type T) "__getitem__" = pure (some (.builtin id))) (hs : NoSl slice)
    (h : wpAny (model prog w) A (eval value env) (fun o s₁ => wpAny (model prog w) A (eval slice env) (fun i s₂ => s₂.TypeIs o T ∧ wpAny (model prog w) A (getItem o i) Q E s₂) E s₁) E s) :
    wpAny (model prog w) A (eval (.Subscript value slice pos) env) Q E s := by
  refine Subscript_ (wpAny_mono h (fun o s₁ h₁ => wpAny_mono h₁ (fun i s₂ h₂ => ?_) fun _ _ x => x) fun _ _ x => x)
  obtain ⟨hT, h₂⟩ := h₂
  unfold subscriptTail
  refine wpAny_bind ?_
  rw [getitemInPython_of_ne hT.not_modules]
  refine wpAny_bind (wpAny_specialOf hT hl ?_)
  have fin : wpAny (model prog w) A (subscripted slice false o i) (fun r s₃ => wpAny (model prog w) A (letTemporaryGo value o r >>= fun _ => pure r) Q E s₃) E s₂ := by
    rw [hs o i]
    exact wpAny_operating (wpAny_mono h₂ (fun r s₃ h₃ => wpAny_bind (wpAny_letTemporaryGo (wpAny_pure h₃))) fun _ _ x => x)
  first
    | exact wpAny_pure (wpAny_bind fin)
    | exact wpAny_bind (wpAny_pure (wpAny_bind fin))
    | exact wpAny_bind fin
theorem dict_typeIs {X : Cx} {pins : List (Addr × Obj)} {σ : St} {H : Hp} {s : Shared} {a : Addr} {y : V} {o : Option V} (I : Inv X pins σ H s) (g : DGet H a y o) : s.TypeIs (.ref a) "dict" := by
  rcases g with ⟨kvs, k, e, _, _⟩ | ⟨kvs, k, b, e, _, _, _⟩
  · obtain ⟨_, _, vs, _, dd⟩ := dk_rd I.hok e
    exact dd.typeIs
  · obtain ⟨_, _, xs, _, dd⟩ := dt_rd I.hok e
    exact dd.typeIs
def tDGet (td ty : TE) : TE := fun σ H Q => td σ H fun x H1 => ty σ H1 fun y H2 => ∃ a v, x = .ref a ∧ DGet H2 a y (some v) ∧ Q v H2
def tDIn (ty td : TE) : TE := fun σ H Q => ty σ H fun y H1 => td σ H1 fun x H2 => ∃ a o, x = .ref a ∧ DGet H2 a y o ∧ Q (.bl o.isSome) H2
def sDPut (td ty tv : TE) : TS := fun D σ H => tv σ H fun v H1 => td σ H1 fun x H2 => ty σ H2 fun y H3 => ∃ a H4, x = .ref a ∧ DPut H3 a y v H4 ∧ D.nx σ H4
section
variable {X : Cx} {o i e value : Expr} {pos pos' tpos : Pos} {td ty tv : TE}
theorem pe_dget (hu : X.A.units + 1 < cLine) (ho : PE X o td) (hi : PE X i ty) (hs : NoSl i) : PE X (.Subscript o i pos) (tDGet td ty) := by
  intro pins s σ H Q I h
  refine subD_of PySem.F.slot_dict_getitem.lookup hs (thn (ho pins s σ H _ I h) fun u s1 ⟨x, H1, I1, rx, q1⟩ => thn (hi pins s1 σ H1 _ I1 q1) fun iv s2 ⟨y, H2, I2, ry, a, v, ex, g, q2⟩ => ?_)
  subst ex
  obtain rfl : u = Value.ref a := rx
  exact ⟨dict_typeIs I2 g, d_getItem hu I2 g ry fun w' s3 I3 rw' => ⟨v, H2, I3, rw', q2⟩⟩
theorem pc_din (hu : X.A.units + 1 < cLine) (hi : PE X i ty) (ho : PE X o td) : PC X .In i o (tDIn ty td) := by
  intro pins s σ H Q I h
  refine thn (hi pins s σ H _ I h) fun iv s1 ⟨y, H1, I1, ry, q1⟩ => thn (ho pins s1 σ H1 _ I1 q1) fun u s2 ⟨x, H2, I2, rx, a, ov, ex, g, q2⟩ => ?_
  subst ex
  obtain rfl : u = Value.ref a := rx
  exact d_in hu I2 g ry fun s3 I3 => ⟨.bl ov.isSome, H2, I3, rfl, q2⟩
theorem ps_dput (hu : X.A.units + 1 < cLine) (ho : PE X o td) (hi : PE X i ty) (hv : PE X value tv) (hs : swapsWith value (some (.Subscript o i pos')) pos.line X.env = pure false) :
    PS X (.Assign [.Subscript o i pos'] value pos) (sDPut td ty tv) := by
  intro pins s σ H D I h
  refine wpAny_Assign_Subscript (thn (hv pins s σ H _ I h) fun r s1 ⟨v, H1, I1, rv, q1⟩ => thn (ho pins s1 σ H1 _ I1 q1) fun u s2 ⟨x, H2, I2, rx, q2⟩ => thn (hi pins s2 σ H2 _ I2 q2) fun iv s3 ⟨y, H3, I3, ry, a, H4, ex, g, q3⟩ => ?_) hs
  subst ex
  obtain rfl : u = Value.ref a := rx
  exact d_setItem hu I3 g ry rv fun s4 I4 => ⟨σ, H4, I4, q3⟩
end
theorem dk_empty {P : Program} {w : World} {H : Hp} (h : Heap) (hb : sysModules < h.objs.size) : ObjOk P w H (h.push { cls := .type "dict", data := .dict #[] }) h.objs.size (.dK []) :=
  ⟨Nat.zero_le _, beq_eq_false_iff_ne.mpr (Ne.symm (Nat.ne_of_lt hb)), [], .nil, Heap.DictOf.new h⟩
def tDNewK : TE := fun _ H Q => ∀ p, H p = none → Q (.ref p) (upd H p (.dK []))
section
variable {X : Cx} {pos : Pos}
theorem pe_dnewK : PE X (.Dict [] [] pos) tDNewK := fun pins s σ H Q I h =>
  wpAny_Dict_empty ⟨.ref s.heap.objs.size, _, I.laid (a := s.heap.objs.size) (o := .dK []) (t' := s.toks) (fun _ _ q => Heap.get?_push_of_some _ q) (Nat.le_refl _) (dk_empty s.heap I.big), rfl, h _ (I.hok.fresh (Nat.le_refl _))⟩
end
structure M2 (X : Cx) (o : Expr) (m : Str) (apos : Pos) (e f : Expr) (cpos : Pos) : Prop where
  base : attributeBase o m X.env (eval o X.env) = eval o X.env
  few : ((backTo cpos (starEach [e, f] X.env)).all (fun x => !x.1) && (backToKw cpos (keywordEach [] X.env)).all (fun x => x.1.isSome)
    && decide (([e, f] : List Expr).length + ([] : List Keyword).length + (if ([] : List Keyword).isEmpty then 0 else 1) < 30)) = true
  line : (apos.endLine == cpos.line) = true
  trees : backTo cpos (starEach [e, f] X.env) = [(false, eval e X.env), (false, eval f X.env)]
def IsD (H : Hp) (a : Addr) : Prop := (∃ kvs, Rd H a (.dK kvs)) ∨ ∃ kvs, Rd H a (.dT kvs)
theorem isD_at {X : Cx} {pins : List (Addr × Obj)} {σ : St} {H : Hp} {s : Shared} {a : Addr} (I : Inv X pins σ H s) (d : IsD H a) :
    s.TypeIs (.ref a) "dict" ∧ (∀ b, Value.ref a = .ref b → ∃ ob, s.heap.get? b = some ob ∧ ob.dict = none) ∧ (a == sysModules) = false := by
  rcases d with ⟨kvs, e⟩ | ⟨kvs, e⟩
  · obtain ⟨_, hd, vs, _, dd⟩ := dk_rd I.hok e
    refine ⟨dd.typeIs, fun b q => ?_, hd⟩
    cases q
    obtain ⟨ob, _, _, h1, h2, _⟩ := dd
    exact ⟨ob, h1, h2.2.1⟩
  · obtain ⟨_, hd, xs, _, dd⟩ := dt_rd I.hok e
    refine ⟨dd.typeIs, fun b q => ?_, hd⟩
    cases q
    obtain ⟨ob, _, _, h1, h2, _⟩ := dd
    exact ⟨ob, h1, h2.2.1⟩
section
variable {X : Cx} {pins : List (Addr × Obj)} {σ : St} {H : Hp} {s : Shared} {a : Addr} {y d : V} {u r : Value} {o : Option V} {A : Around} {E : Value → Shared → Prop}
theorem d_get2 {Q : Value → Shared → Prop} (hu : A.units + 1 < cLine) (I : Inv X pins σ H s) (g : DGet H a y o) (ry : RelV y u) (rd : RelV d r) (h : ∀ w' s', Inv X pins σ H s' → RelV (o.getD d) w' → Q w' s') :
    wpAny (model X.prog X.w) A (call (.builtin "dict.get") [.ref a, u, r]) Q E s := by
  rcases g with ⟨kvs, k, e, ey, l⟩ | ⟨kvs, k, b, e, ey, eb, l⟩
  · subst ey
    obtain ⟨z, hd, vs, rel, dd⟩ := dk_rd I.hok e
    refine call_meetsIn PySem.F.slot_dict_get dd.typeIs PySem.F.entry_dict_get (PySem.F.args_dict_get_3 _ _ _) (meets_dict_get_default (mixKind X.prog X.w) a (kV_is ry) hd r) ⟨_, dd.mapOf, h _ _ (I.tok _) ?_⟩
    rw [l]
    exact (rel.val k).getD rd
  · subst ey
    cases (show u = Value.ref b from ry)
    obtain ⟨z, hd, xs, rel, dd⟩ := dt_rd I.hok e
    refine call_meetsIn PySem.F.slot_dict_get dd.typeIs PySem.F.entry_dict_get (PySem.F.args_dict_get_3 _ _ _) (meetsH_dict_get_default (tupleKind (mixKind X.prog X.w)) a b hd r) ⟨tupleKind_room_in1 hu, k, xs, key_of I.hok eb, dd, h _ _ (I.tok _) ?_⟩
    rw [l]
    exact (rel.val k).getD rd
end
def tDGet2 (td ty tx : TE) : TE := fun σ H Q => td σ H fun x H1 => ∃ a, x = .ref a ∧ IsD H1 a ∧ ty σ H1 fun y H2 => tx σ H2 fun z H3 => ∃ o, DGet H3 a y o ∧ Q (o.getD z) H3
section
variable {X : Cx} {o e f : Expr} {apos cpos : Pos} {td ty tx : TE}
theorem pe_dget2 (hu : X.A.units + 1 < cLine) (ho : PE X o td) (he : PE X e ty) (hf : PE X f tx) (m : M2 X o "get" apos e f cpos) : PE X (.Call (.Attribute o "get" apos) [e, f] [] cpos) (tDGet2 td ty tx) := by
  intro pins s σ H Q I h
  refine wpAny_Call_method m.base m.few m.line PySem.F.plainAttrs_dict PySem.F.slot_dict_get PySem.F.type_dict_get (thn (ho pins s σ H _ I h) fun u s1 ⟨x, H1, I1, rx, a, ex, d, q1⟩ => ?_)
  subst ex
  obtain rfl : u = Value.ref a := rx
  obtain ⟨t1, t2, _⟩ := isD_at I1 d
  refine ⟨t1, t2, ?_⟩
  rw [m.trees]
  refine Calls.callWith_builtin rfl (Calls.evalArgs_plain (Calls.spliced_cons (thn (he pins s1 σ H1 _ I1 q1) fun iv s2 ⟨y, H2, I2, ry, q2⟩ =>
    Calls.spliced_cons (thn (hf pins s2 σ H2 _ I2 q2) fun fv s3 ⟨z, H3, I3, rz, ov, g, q3⟩ => Calls.spliced_nil ?_))))
  exact d_get2 hu I3 g ry rz fun w' s4 I4 rw' => ⟨_, H3, I4, rw', q3⟩
end
section
variable {X : Cx} {pins : List (Addr × Obj)} {σ : St} {H : Hp} {s : Shared} {a : Addr} {kvs : List (Key × V)} {A : Around} {E : Value → Shared → Prop}
end
section
variable {X : Cx} {pins : List (Addr × Obj)} {σ : St} {H : Hp} {s : Shared} {a : Addr} {y : V} {u : Value} {A : Around} {E : Value → Shared → Prop}
end
end L2
namespace L2
open PySem PySem.Spec PyProof.Rows
section
variable {X : Cx}
end
section
variable {κ : Type} [DecidableEq κ]
end
end L2
set_option maxHeartbeats 4000000
namespace L2
open PySem PySem.Spec PyProof.Rows
abbrev nowish : Value → Shared → Prop := fun _ _ => False
abbrev cxB (X : Cx) (sc : Scope) (N : List Str) (cl : List (Str × Addr)) (C : Addr) (s : Shared) (H : Hp) (fp : List Addr) : Cx :=
  { X with N := N, s₀ := s, H₀ := H, env := compEnvC sc cl C X.env, outer := X.stack, ex := fp, fn := fun _ => false, pn := [], xe := nowish }
def Ext (σ σ' : St) : Prop := σ'.length = σ.length ∧ ∀ (i : Nat) v, σ[i]? = some (some v) → σ'[i]? = some (some v)
theorem Ext.one {x : V} {r : St} : Ext (none :: r) (some x :: r) := ⟨rfl, fun i v h => by cases i with | zero => cases h | succ i => exact h⟩
theorem Ext.two {x y : V} {r : St} : Ext (none :: none :: r) (some x :: some y :: r) := ⟨rfl, fun i v h => by
  cases i with
  | zero => cases h
  | succ i => cases i with | zero => cases h | succ i => exact h⟩
def testsOf (cs : List Expr) (env : Env) : Sem Bool := forIn cs true fun c r => if r = true then do let ok ← isTrue c env (eval c env); pure (ForInStep.yield ok) else pure (ForInStep.yield r)
def PTs (X : Cx) (cs : List Expr) (t : TT) : Prop :=
  ∀ (pins : List (Addr × Obj)) (s : Shared) (σ : St) (H : Hp) (Q : Bool → Hp → Prop), Inv X pins σ H s → t σ H Q → wpAny (model X.prog X.w) X.A (testsOf cs X.env) (TP X pins σ Q) X.xe s
def tAlways : TT := fun _ H Q => Q true H
theorem pts_nil {X : Cx} : PTs X [] tAlways := fun pins s σ H Q I h => wpAny_tests_nil ⟨H, I, h⟩
theorem pts_one {X : Cx} {c : Expr} {t : TT} (hc : PT X c t) : PTs X [c] t := fun pins s σ H Q I h => wpAny_tests_one (hc pins s σ H Q I h)
section
variable {prog : Program} {w : World} {A : Around} {R : Result → Shared → Prop} {s : Shared}
theorem comp_loop {elt target iter : Expr} {cs : List Expr} {scope : Scope} {pos : Pos} {it acc : Value} {env : Env} (J : Nat → Shared → Prop)
    (turn : ∀ n s, J n s → wpAny (model prog w) A (pyNext it) (fun r s1 => match r with
      | none => R (.ok .next) s1
      | some v => wpAny (model prog w) A (letOwnedTupleGo target it v) (fun _ s2 => wpAny (model prog w) A (assign target env v) (fun _ s3 =>
          wpAny (model prog w) A (testsOf cs env) (fun ok s4 => if ok = true then wpAny (model prog w) A (eval elt env) (fun x s5 =>
              wpAny (model prog w) A (call (.builtin "list.append") [acc, x]) (fun _ s6 => ∃ m, m < n ∧ J m s6) nowish s5) nowish s4
            else ∃ m, m < n ∧ J m s4) nowish s3) nowish s2) nowish s1) nowish s) (n : Nat) (h : J n s) :
    codeAny (model prog w) A (.compLoop (.ListComp elt [⟨target, iter, cs, 0⟩] scope pos) 0 it acc env) R s := by
  refine codeAny_loop rfl J (fun k s' hk => ?_) n h
  show wpAny (model prog w) A ((compTurn (.ListComp elt [⟨target, iter, cs, 0⟩] scope pos) 0 it acc env).onRaise (fun x => do noteFrame x env; theTreesLotGoes x)) _ _ s'
  refine wpAny_noted ?_
  have no : ∀ (e : Value) (s2 : Shared), nowish e s2 → notedBy (model prog w) A env (fun e s' => R (.error e) s') e s2 := fun _ _ f => f.elim
  rw [compTurn_list]
  refine wpAny_bind (wpAny_standAt (wpAny_bind (wpAny_mono (turn k s' hk) (fun r s1 g1 => ?_) no)))
  cases r with
  | none => exact wpAny_pure g1
  | some v =>
    refine wpAny_bind (wpAny_mono g1 (fun _ s2 g2 => ?_) no)
    refine wpAny_bind (wpAny_mono g2 (fun _ s3 g3 => ?_) no)
    refine wpAny_bind (wpAny_mono g3 (fun ok s4 g4 => ?_) no)
    cases ok with
    | false => exact wpAny_pure ⟨rfl, g4⟩
    | true => exact wpAny_bind (wpAny_bind (wpAny_mono g4 (fun x s5 g5 => wpAny_bind (wpAny_mono g5 (fun _ s6 g6 => wpAny_pure (wpAny_pure ⟨rfl, g6⟩)) no)) no))
end
def cWalk (J : It) (g : TG) (tt : TT) (te : TE) (σ0 : St) (W : Nat → Nat → List V → Hp → Prop) (R : List V → Hp → Prop) : Prop :=
  ∀ i m ys H, W i m ys H → (J.stop i H ∧ R ys H) ∨ (J.go i H ∧ ∃ F : List V → Hp → Prop, (∀ ys' H', F ys' H' → ∃ m', m' < m ∧ W (i + 1) m' ys' H') ∧ ∀ x H', J.yld i H x H' → g x σ0 H' fun σ2 H2 => Ext σ0 σ2 ∧ tt σ2 H2 fun b H3 =>
    if b = true then te σ2 H3 fun v H4 => ys.length < sizeLine ∧ F (ys ++ [v]) H4 else F ys H3)
structure CompSc (X : Cx) (sc : Scope) (cl : List (Str × Addr)) (own : Nat) (N : List Str) (fr : List Nat) : Prop where
  kind : sc.kind = .function
  names : ∀ x ∈ sc.names, x.2 = .local → sc.names.lookup x.1 = some .local
  nocell : ∀ x ∈ sc.names, x.2 ≠ .cell
  clos : closureFor sc X.env = pure cl
  cells : ∀ x c, cl.lookup x = some c → X.env.cells.lookup x = some c
  has : ∀ x, ((relabel sc X.env).names.lookup x = some .cell ∨ (relabel sc X.env).names.lookup x = some .free) → ∃ c, cl.lookup x = some c
  len : N.length = own + fr.length
  fro : ∀ (i : Nat) j, fr[i]? = some j → ∃ x, N[own + i]? = some x ∧ X.N[j]? = some x ∧ (X.env.kindOf x = some .cell ∨ X.env.kindOf x = some .free) ∧ ((relabel sc X.env).names.lookup x = some .cell ∨ (relabel sc X.env).names.lookup x = some .free)
def AllC (env : Env) : List (Str × Addr) → Prop
  | [] => True
  | p :: r => env.cells.lookup p.1 = some p.2 ∧ AllC env r
theorem AllC.mem {env : Env} : ∀ {cl : List (Str × Addr)}, AllC env cl → ∀ p ∈ cl, env.cells.lookup p.1 = some p.2
  | [], _, _, h => nomatch h
  | _ :: _, h, p, hp => by
    rcases List.mem_cons.mp hp with rfl | hp
    · exact h.1
    · exact h.2.mem p hp
def isCF (k : Option NameKind) : Bool := match k with
  | some .cell => true
  | some .free => true
  | _ => false
theorem isCF_of {k : Option NameKind} (h : isCF k = true) : k = some .cell ∨ k = some .free := by
  cases k with
  | none => cases h
  | some k => cases k <;> first | exact .inl rfl | exact .inr rfl | cases h
def froOk (X : Cx) (sc : Scope) : List Str → List Nat → Bool
  | [], [] => true
  | x :: ns, j :: fr => decide (X.N[j]? = some x) && isCF (X.env.kindOf x) && isCF ((relabel sc X.env).names.lookup x) && froOk X sc ns fr
  | _, _ => false
theorem froOk_at {X : Cx} {sc : Scope} : ∀ {ns : List Str} {fr : List Nat}, froOk X sc ns fr = true → ns.length = fr.length ∧ ∀ (i : Nat) j, fr[i]? = some j → ∃ x, ns[i]? = some x ∧ X.N[j]? = some x ∧ isCF (X.env.kindOf x) = true ∧ isCF ((relabel sc X.env).names.lookup x) = true
  | [], [], _ => ⟨rfl, fun i j h => by simp at h⟩
  | [], _ :: _, h => by cases h
  | _ :: _, [], h => by cases h
  | x :: ns, j :: fr, h => by
    have h : (decide (X.N[j]? = some x) && isCF (X.env.kindOf x) && isCF ((relabel sc X.env).names.lookup x) && froOk X sc ns fr) = true := h
    rw [Bool.and_eq_true, Bool.and_eq_true, Bool.and_eq_true] at h
    obtain ⟨⟨⟨h1, h2⟩, h3⟩, h4⟩ := h
    obtain ⟨l, g⟩ := froOk_at h4
    refine ⟨by simp [l], fun i k e => ?_⟩
    cases i with
    | zero => cases e; exact ⟨x, rfl, of_decide_eq_true h1, h2, h3⟩
    | succ i => exact g i k e
theorem compSc_mk {X : Cx} {sc : Scope} {cl : List (Str × Addr)} (ownN frN : List Str) (fr : List Nat) (kind : sc.kind = .function) (names : (sc.names.all fun x => x.2 != .local || sc.names.lookup x.1 == some .local) = true)
    (nocell : (sc.names.all fun x => x.2 != .cell) = true) (clos : closureFor sc X.env = pure cl) (cells : AllC X.env cl) (has : ((relabel sc X.env).names.all fun y => !isCF (some y.2) || (cl.lookup y.1).isSome) = true)
    (len : frN.length = fr.length) (fro : froOk X sc frN fr = true) : CompSc X sc cl ownN.length (ownN ++ frN) fr where
  kind := kind
  names := fun x hx hl => by
    have := List.all_eq_true.mp names x hx
    rw [hl] at this
    simpa using this
  nocell := fun x hx => by simpa using List.all_eq_true.mp nocell x hx
  clos := clos
  cells := fun x c h => cells.mem (x, c) (PySem.mem_of_lookup h)
  has := fun x h => by
    obtain ⟨k, hk, e⟩ : ∃ k, (relabel sc X.env).names.lookup x = some k ∧ isCF (some k) = true := by
      rcases h with h | h
      · exact ⟨_, h, rfl⟩
      · exact ⟨_, h, rfl⟩
    have := List.all_eq_true.mp has (x, k) (PySem.mem_of_lookup hk)
    rw [e] at this
    exact Option.isSome_iff_exists.mp (by simpa using this)
  len := by rw [List.length_append, len]
  fro := fun i j e => by
    obtain ⟨_, g⟩ := froOk_at fro
    obtain ⟨x, e1, e2, e3, e4⟩ := g i j e
    refine ⟨x, ?_, e2, isCF_of e3, isCF_of e4⟩
    rw [List.getElem?_append_right (Nat.le_add_right _ _), Nat.add_sub_cancel_left]
    exact e1
def st0 (own : Nat) (fr : List Nat) (σ : St) : St := List.replicate own none ++ fr.map fun j => (σ[j]?).join
section
variable {X : Cx} {sc : Scope} {cl : List (Str × Addr)} {own : Nat} {N : List Str} {fr : List Nat}
theorem st0_at {σ : St} {i : Nat} {v : V} (h : (st0 own fr σ)[i]? = some (some v)) : ∃ k j, i = own + k ∧ fr[k]? = some j ∧ σ[j]? = some (some v) := by
  unfold st0 at h
  by_cases hi : i < own
  · rw [List.getElem?_append_left (by simpa using hi), List.getElem?_replicate, if_pos hi] at h
    cases h
  · rw [List.getElem?_append_right (by simpa using hi), List.length_replicate, List.getElem?_map] at h
    cases e : fr[i - own]? with
    | none => rw [e] at h; cases h
    | some j =>
      rw [e] at h
      have h : (σ[j]?).join = some v := Option.some.inj h
      refine ⟨i - own, j, by omega, e, ?_⟩
      cases q : σ[j]? with
      | none => rw [q] at h; cases h
      | some o => rw [q] at h; exact congrArg some h
theorem block_inv {pins : List (Addr × Obj)} {σ : St} {H : Hp} {s : Shared} {fp : List Addr} {h1 : Heap} {m1 : Str → Option Value} {t : Nat} {C D : Addr} {od : Obj} (S : CompSc X sc cl own N fr) (I : Inv X pins σ H s) (hfp : ∀ b ∈ fp, FpOk X pins H b)
    (hob : ∀ b ∈ fp, ∃ o, s.heap.get? b = some o) (kp : ∀ b o, s.heap.get? b = some o → h1.get? b = some o) (hC : s.heap.objs.size ≤ C) (hns : h1.Ns C m1) (hD : s.heap.objs.size ≤ D) (hDC : D ≠ C) (ho : h1.get? D = some od) (hod : ∀ v, od.data ≠ .cell v) :
    Inv (cxB X sc N cl C s H fp) [(D, od)] (st0 own fr σ) H { s with heap := h1, toks := t } := by
  have subL : ∀ b ∈ fp, b < s.heap.objs.size := fun b hb => let ⟨o, e⟩ := hob b hb; Heap.lt_size e
  refine ⟨⟨I.ok.mod, S.kind, I.ok.glob, I.ok.blt, hC, fun x y c a b => I.ok.inj x y c (S.cells x c a) (S.cells y c b), S.has, (fun x c z => nomatch z), I.ok.hd, I.ok.frames, .inl rfl, fun b hb => ?_, I.bs, Nat.le_trans I.ok.bsz I.sz, fun b o e hb => ?_, fun b hb hf => ?_, I.stack, I.stkFree⟩,
    rfl, I.bare, Un.kept kp, ⟨m1, hns, fun i x v e1 e2 e3 => ?_⟩, fun x c e => ?_, I.hok.fresh hC, fun x c e => I.freeC x c (S.cells x c e), fun p hp => ?_, I.hok.kept kp, ?_⟩
  · exact ⟨Nat.ne_of_lt (Nat.lt_of_lt_of_le (subL b hb) hC), fun x c e => (hfp b hb).2.2.2.2.1 x c (S.cells x c e)⟩
  · rcases (hfp b hb).2.2.2.1 with z | z
    · exact I.ok.noex b o e z
    · exact absurd (Nat.lt_of_lt_of_le (Heap.lt_size e) (Nat.le_trans I.ok.bsz z)) (Nat.lt_irrefl _)
  · rcases List.mem_cons.mp (I.stkSub b hf) with z | z
    · exact (hfp b hb).2.1 z
    · exact (hfp b hb).2.2.1 z
  · obtain ⟨k, j, rfl, ej, eσ⟩ := st0_at e2
    obtain ⟨y, n1, n2, k1, k2⟩ := S.fro k j ej
    have e1 : N[own + k]? = some x := e1
    rw [n1] at e1
    cases e1
    obtain ⟨m, hn, hl⟩ := I.loc
    obtain ⟨u, ru, l⟩ := hl j x v n2 eσ (by rcases k1 with z | z; exact .inr (.inl z); exact .inr (.inr z))
    refine ⟨u, ru, .inr ⟨k2, ?_⟩⟩
    obtain ⟨c, hc⟩ := S.has x k2
    refine ⟨c, hc, ?_⟩
    rcases l with ⟨q, _⟩ | ⟨_, c', e', z⟩
    · rcases k1 with k1 | k1 <;> (rw [k1] at q; cases q)
    · have := S.cells x c hc
      rw [e'] at this; cases this
      obtain ⟨o, h1', h2'⟩ := z
      exact ⟨o, kp _ _ h1', h2'⟩
  · obtain ⟨v, o, h1', h2'⟩ := I.cell x c (S.cells x c e)
    exact ⟨v, o, kp _ _ h1', h2'⟩
  · have hp : p = (D, od) := by simpa using hp
    subst hp
    refine ⟨ho, I.hok.fresh hD, hDC, fun hf => ?_, hod⟩
    have : D ∈ X.env.locals :: X.fs := I.stkSub D hf
    rcases List.mem_cons.mp this with z | z
    · exact absurd (Nat.lt_of_lt_of_le I.lt hD) (by rw [z]; exact Nat.lt_irrefl _)
    · exact I.nofs hD z
  · unfold st0
    rw [List.length_append, List.length_replicate, List.length_map]
    exact S.len.symm
theorem block_end {pins pl : List (Addr × Obj)} {σ τ : St} {H H' : Hp} {s s' : Shared} {fp : List Addr} {C D : Addr} {ys : List V} {its : List Value} {n : Nat} (I : Inv X pins σ H s) (hfp : ∀ b ∈ fp, FpOk X pins H b) (hC : s.heap.objs.size ≤ C) (hD : s.heap.objs.size ≤ D)
    (B : Inv (cxB X sc N cl C s H fp) pl τ H' s') (hn : H' D = none) (ho : s'.heap.get? D = some { cls := .type "list", data := .seq its.toArray n }) (r : Vals ys its) (hz : ys.length ≤ sizeLine) :
    Inv X pins σ (upd H' D (.lst ys)) s' := by
  have ne : ∀ b o, s.heap.get? b = some o → b ≠ D := fun b o e => Nat.ne_of_lt (Nat.lt_of_lt_of_le (Heap.lt_size e) hD)
  have nt : ∀ b u, H' b = some u → b ≠ D := fun b u e => ne_of_none e hn
  refine I.call' (ch := fp) B.os ⟨B.base.keep, B.base.slot, fun b o e q hx => ?_, B.base.there, fun b xs e => ?_, fun b o u e => ?_, fun b ps e => ?_⟩ (fun b u e => ?_) B.bare fun b hb => ?_
  · rw [upd_ne (ne b o e)]; exact B.base.free b o e q hx
  · have := B.base.tups b xs e; rw [upd_ne (nt _ _ this)]; exact this
  · have := B.base.frzs b o u e; rw [upd_ne (nt _ _ this)]; exact this
  · obtain ⟨mo, this⟩ := B.base.tbls b ps e; exact ⟨mo, by rw [upd_ne (nt _ _ this)]; exact this⟩
  · by_cases hb : b = D
    · subst hb
      rw [upd_same] at e
      cases e
      exact ⟨hz, its, n, r, ho⟩
    · rw [upd_ne hb] at e
      exact (B.hok b u e).stay (fun _ _ _ q => q) (fun c q => by rw [upd_ne (nt _ _ q)]; exact q) fun c xs q => by rw [upd_ne (nt _ _ q)]; exact q
  · obtain ⟨_, f1, _, f3, f4, f5⟩ := hfp b hb
    exact ⟨f3, f1, f4, f5⟩
end
end L2
namespace L2
open PySem PySem.Spec PyProof.Rows
section
variable {X : Cx} {sc : Scope} {cl : List (Str × Addr)} {own : Nat} {N : List Str} {fr : List Nat}
theorem Inv.pins_sub {pins pins' : List (Addr × Obj)} {σ : St} {H : Hp} {s : Shared} (I : Inv X pins σ H s) (h : ∀ p ∈ pins', p ∈ pins) : Inv X pins' σ H s := I.pins_of fun p hp => I.pin p (List.mem_append_right _ (h p hp))
theorem comp_core {elt tg iter : Expr} {cs : List Expr} {pos : Pos} {g : TG} {tt : TT} {te : TE} {pins : List (Addr × Obj)} {σ : St} {H : Hp} {s : Shared} {it : Addr} {fp : List Addr} {tn : Nat → Heap → Prop} {J : It} {RR : Value → Addr → Result → Shared → Prop}
    (S : CompSc X sc cl own N fr) (hc : X.calm = true) (I : Inv X pins σ H s) (T : Turn X.prog X.w X.K tg J fp it tn) (st : tn 0 s.heap) (hfp : ∀ b ∈ fp, FpOk X pins H b)
    (hg : ∀ C s H, PG (cxB X sc N cl C s H fp) tg g) (ht : ∀ C s H, PTs (cxB X sc N cl C s H fp) cs tt) (he : ∀ C s H, PE (cxB X sc N cl C s H fp) elt te)
    {W : Nat → Nat → List V → Hp → Prop} {R : List V → Hp → Prop} (w0 : ∃ m, W 0 m [] H) (walk : cWalk J g tt te (st0 own fr σ) W R)
    (fin : ∀ D C H' ys s' m, s'.heap.Ns C m → H' D = none → FpOk X pins (upd H' D (.lst ys)) C → Inv X pins σ (upd H' D (.lst ys)) s' → R ys H' → RR (.ref D) C (.ok .next) s') :
    wpAny (model X.prog X.w) X.A (newList []) (fun acc s3 => wpAny (model X.prog X.w) X.A (newFunctionEnv sc X.env.globals cl [] X.env.qual none .none (some X.env)) (fun cenv s4 =>
      codeAny (model X.prog X.w) X.A (.compStart (.ListComp elt [⟨tg, iter, cs, 0⟩] sc pos) 0 (.ref it) acc { cenv with scope := relabel sc X.env }) (RR acc cenv.locals) s4) X.xe s3) X.xe s := by
  refine wpAny_newObj_type (wpAny_newFunctionEnv S.nocell (by intro y hy; simp at hy) (fun h1 hns hsb => ?_) S.kind)
  dsimp only at hns hsb ⊢
  generalize hH : s.heap.push { cls := .type "list", dict := none, data := .seq ([] : List Value).toArray } = hp at hns hsb ⊢
  have sC : hp.objs.size = s.heap.objs.size + 1 := by rw [← hH, Heap.size_push]
  have hDC : s.heap.objs.size ≠ hp.objs.size := by omega
  have kp : ∀ b o, s.heap.get? b = some o → h1.get? b = some o := fun b o e => by
    have l := Heap.lt_size e
    exact hsb.extBut b o (Nat.ne_of_lt (by rw [sC]; exact Nat.lt_succ_of_lt l)) (Heap.get?_push_of_some _ (hH ▸ Heap.get?_push_of_some _ e))
  have hD1 : h1.get? s.heap.objs.size = some { cls := .type "list", data := .seq ([] : List Value).toArray } := hsb.extBut _ _ hDC (Heap.get?_push_of_some _ (hH ▸ Heap.get?_push_size _ rfl))
  have subL : ∀ b ∈ fp, b < s.heap.objs.size := fun b hb => let ⟨o, e, _⟩ := T.obj 0 _ st b hb; Heap.lt_size e
  generalize hCC : hp.objs.size = C at *
  generalize hDD : s.heap.objs.size = D at *
  have I1 : ∀ t, Inv (cxB X sc N cl C s H fp) [(D, { cls := .type "list", data := .seq ([] : List Value).toArray })] (st0 own fr σ) H { s with heap := h1, toks := t } := fun t =>
    block_inv S I hfp (fun b hb => let ⟨o, e, _⟩ := T.obj 0 _ st b hb; ⟨o, e⟩) kp (by omega) hns (by omega) hDC hD1 (by intro v z; cases z)
  have st1 : tn 0 h1 := T.keep 0 _ _ st fun b hb o e => kp b o e
  have fpo : ∀ {H' : Hp} {s' : Shared} {τ : St} {pl : List (Addr × Obj)} {od : Obj}, Inv (cxB X sc N cl C s H fp) pl τ H' s' → (∀ p ∈ pl, p.1 = D) → (∀ b ∈ fp, H' b = none) → ∀ b ∈ fp, FpOk (cxB X sc N cl C s H fp) pl H' b := fun {H' s' τ pl od} B hpl hn b hb => by
    have q := subL b hb
    refine ⟨hn b hb, (B.ok.exf b hb).1, B.ok.exfs b hb, .inl hb, (B.ok.exf b hb).2, fun p hp => ?_⟩
    have hp : p ∈ pl := by simpa using hp
    rw [hpl p hp]; exact (Nat.ne_of_lt q).symm
  have loop : ∀ t, codeAny (model X.prog X.w) X.A (.compLoop (.ListComp elt [⟨tg, iter, cs, 0⟩] sc pos) 0 (.ref it) (.ref D) (compEnvC sc cl C X.env)) (RR (.ref D) C) { s with heap := h1, toks := t } := by
    intro t
    obtain ⟨m0, w0⟩ := w0
    refine comp_loop (fun n s' => ∃ i ys its k H', Inv (cxB X sc N cl C s H fp) [(D, { cls := .type "list", data := .seq (List.toArray its) k })] (st0 own fr σ) H' s' ∧ tn i s'.heap ∧ (∀ b ∈ fp, H' b = none) ∧ Vals ys its ∧ ys.length ≤ sizeLine ∧ W i n ys H') ?_ m0
      ⟨0, [], [], _, H, I1 t, st1, fun b hb => (hfp b hb).1, .nil, Nat.zero_le _, w0⟩
    rintro n s2 ⟨i, ys, its, k, H2, B2, st2, fr2, rv, hz, w2⟩
    have pD := B2.pin (D, { cls := .type "list", data := .seq (List.toArray its) k }) (List.mem_append_right _ (List.mem_singleton.mpr rfl))
    rcases walk i n ys H2 w2 with ⟨stop, rr⟩ | ⟨go, nx, hnx, tk⟩
    · refine wpAny_mono (T.done (cxB X sc N cl C s H fp) rfl rfl rfl hc i _ s2 _ H2 nowish B2 (fpo (od := default) B2 (by simp) fr2) st2 stop) (fun r s3 ⟨hr, B3⟩ => ?_) fun _ _ z => z
      subst hr
      obtain ⟨m3, n3, _⟩ := B3.loc
      have pD3 := B3.pin (D, { cls := .type "list", data := .seq (List.toArray its) k }) (List.mem_append_right _ (List.mem_singleton.mpr rfl))
      refine fin D C H2 ys s3 m3 n3 pD3.2.1 ?_ (block_end I hfp (by omega) (by omega) B3 pD3.2.1 pD3.1 rv hz) rr
      exact I.fpOk (by omega) (by rw [upd_ne (Ne.symm hDC)]; exact B3.free)
    · refine wpAny_mono (T.item (cxB X sc N cl C s H fp) rfl rfl rfl hc i _ s2 _ H2 nowish B2 (fpo (od := default) B2 (by simp) fr2) st2 go) (fun r s3 ⟨u, hr, g3⟩ => ?_) fun _ _ z => z
      subst hr
      refine wpAny_mono g3 (fun _ s4 ⟨x, H4, B4, rx, y4, st4, fr4⟩ => ?_) fun _ _ z => z
      have B5 := B4.pinned (fpo (od := default) B4 (by simp) fr4) (T.obj _ _ st4)
      refine wpAny_mono (hg C s H _ s4 _ H4 x u _ B5 rx (tk x H4 y4)) (fun _ s5 ⟨σ5, H5, B6, ex, q5⟩ => ?_) fun _ _ z => z
      refine wpAny_mono (ht C s H _ s5 σ5 H5 _ B6 q5) (fun b s6 ⟨H6, B7, q6⟩ => ?_) fun _ _ z => z
      have back : ∀ {H' : Hp} {s' : Shared}, Inv (cxB X sc N cl C s H fp) ([(D, { cls := .type "list", data := .seq (List.toArray its) k })] ++ pinsAt fp s4.heap) σ5 H' s' → tn (i + 1) s'.heap ∧ ∀ b ∈ fp, H' b = none := fun {H' s'} B => by
        refine ⟨T.keep _ _ _ st4 fun b hb o e => (B.pin (b, o) (List.mem_append_right _ (List.mem_append_right _ (mem_pinsAt hb e)))).1, fun b hb => ?_⟩
        obtain ⟨o, e, _⟩ := T.obj _ _ st4 b hb
        exact (B.pin (b, o) (List.mem_append_right _ (List.mem_append_right _ (mem_pinsAt hb e)))).2.1
      cases b with
      | false =>
        obtain ⟨m', hm, w'⟩ := hnx _ _ q6
        obtain ⟨t7, f7⟩ := back B7
        exact ⟨m', hm, i + 1, ys, its, k, H6, (B7.unpinned).weak ex.1.symm ex.2, t7, f7, rv, hz, w'⟩
      | true =>
        refine wpAny_mono (he C s H _ s6 σ5 H6 _ B7 q6) (fun x7 s7 ⟨v7, H7, B8, r7, hz7, q7⟩ => ?_) fun _ _ z => z
        obtain ⟨m', hm, w'⟩ := hnx _ _ q7
        obtain ⟨t8, f8⟩ := back B8
        have pD8 := B8.pin (D, { cls := .type "list", data := .seq (List.toArray its) k }) (List.mem_append_right _ (List.mem_append_left _ (List.mem_singleton.mpr rfl)))
        have lz : its.length = ys.length := rv.length.symm
        refine call_meets F.slot_list_append ⟨_, pD8.1, rfl⟩ F.entry_list_append (F.args_list_append_2 _ _) (PySem.list_append D its.toArray k x7 (by rw [List.size_toArray]; omega)) ⟨pD8.1, ?_⟩
        have q := PySem.IsL.update pD8.1 (·.push x7)
        have eo : its.toArray.push x7 = (its ++ [x7]).toArray := by simp
        have B9 : Inv (cxB X sc N cl C s H fp) [] (st0 own fr σ) H7 { s7 with heap := s7.heap.update D (Obj.mapSeq (·.push x7)) } :=
          Inv.turned (t' := s7.toks) (((B8.pins_sub (pins' := []) (by intro p hp; simp at hp)).weak ex.1.symm ex.2)) (fun b o hb e => (Heap.get?_update_other _ _ (Ne.symm hb)).trans e) pD8.2.1 hDC (.inr (by show s.heap.objs.size ≤ D; omega)) (fun y c e z => by
            have := B8.cell y c e
            obtain ⟨v, o, h1', h2'⟩ := this
            have h1' : s7.heap.get? c = some o := h1'
            rw [z, pD8.1] at h1'
            cases h1'
            cases h2') (by intro p hp; simp at hp)
        have B10 : ∀ o', (s7.heap.update D (Obj.mapSeq (·.push x7))).get? D = some o' → (∀ v, o'.data ≠ .cell v) → Inv (cxB X sc N cl C s H fp) [(D, o')] (st0 own fr σ) H7 { s7 with heap := s7.heap.update D (Obj.mapSeq (·.push x7)) } := fun o' e1 e2 =>
          Inv.pins_of B9 fun p hp => by
            have hp : p = (D, o') := by simpa using hp
            subst hp
            exact ⟨e1, pD8.2.1, hDC, pD8.2.2.2.1, e2⟩
        rw [eo] at q
        refine ⟨m', hm, i + 1, ys ++ [v7], its ++ [x7], _, H7, B10 _ q (by intro v z; cases z), T.keep _ _ _ t8 fun b hb o e => (Heap.get?_update_other _ _ (Nat.ne_of_gt (subL b hb))).trans e, f8, rv.append (.cons r7 .nil), by rw [List.length_append, List.length_singleton]; omega, w'⟩
  exact codeAny_compStart_list (loop _) (T.self _ 0 _ _ _ st1 (loop _))
def tComp (own : Nat) (fr : List Nat) (wi : TI) (g : TG) (tt : TT) (te : TE) : TE := fun σ H Q => wi σ H fun J H1 => ∃ W : Nat → Nat → List V → Hp → Prop, (∃ m, W 0 m [] H1) ∧
  cWalk J g tt te (st0 own fr σ) W fun ys H2 => ∀ p, H2 p = none → Q (.ref p) (upd H2 p (.lst ys))
theorem pe_comp {elt tg iter : Expr} {cs : List Expr} {pos : Pos} {wi : TI} {g : TG} {tt : TT} {te : TE} (S : CompSc X sc cl own N fr) (hc : X.calm = true) (hi : PI X tg iter wi) (hg : ∀ C s H fp, PG (cxB X sc N cl C s H fp) tg g)
    (ht : ∀ C s H fp, PTs (cxB X sc N cl C s H fp) cs tt) (he : ∀ C s H fp, PE (cxB X sc N cl C s H fp) elt te) (hs : ∀ x, foldedSetIterable iter X.env x = pure x := by intro _; rfl) :
    PE X (.ListComp elt [⟨tg, iter, cs, 0⟩] sc pos) (tComp own fr wi g tt te) := by
  intro pins s σ H Q I h
  rw [eval_ListComp]
  refine wpAny_comprehension_free (use := none) rfl hs S.clos S.kind S.names (thn (hi pins s σ H _ I h) fun v s1 h1 => thn h1 fun itv s2 h2 => ?_)
  obtain ⟨it, fp, tn, J, H2, e, I2, T, st2, f2, W, w0, walk⟩ := h2
  subst e
  refine comp_core (RR := fun acc C => compPost (model X.prog X.w) X.A X.xe none (EP X pins σ Q) acc C) S hc I2 T st2 f2 (fun C s H => hg C s H fp) (fun C s H => ht C s H fp) (fun C s H => he C s H fp) w0 walk ?_
  intro D C H' ys s' m hn hD fC I' rr
  obtain ⟨f0, f1, f2', f3, f4, f5⟩ := fC
  exact ⟨m, hn, fun h' hs' => ⟨.ref D, _, Inv.turned (t' := s'.toks) I' (fun b o hb e => hs'.extBut b o hb e) f0 f1 f3 f4 f5, rfl, rr D hD⟩⟩
theorem ps_setC {elt tg iter : Expr} {cs : List Expr} {pos spos py : Pos} {wi : TI} {g : TG} {tt : TT} {te : TE} {i : Nat} {y : Str} (hN : X.N.Nodup) (hiy : X.N[i]? = some y) (hy : Loc X.env.scope y) (S : CompSc X sc cl own N fr) (hc : X.calm = true) (hi : PI X tg iter wi)
    (hg : ∀ C s H fp, PG (cxB X sc N cl C s H fp) tg g) (ht : ∀ C s H fp, PTs (cxB X sc N cl C s H fp) cs tt) (he : ∀ C s H fp, PE (cxB X sc N cl C s H fp) elt te)
    (hsw : swapsWith (.ListComp elt [⟨tg, iter, cs, 0⟩] sc pos) (some (.Name y py)) spos.line X.env = pure true := by rfl) (hs : ∀ x, foldedSetIterable iter X.env x = pure x := by intro _; rfl)
    (hf : X.fn y = true ∨ X.env.scope.names.lookup y = some .local := by first | exact .inl rfl | exact .inr rfl | assumption) :
    PS X (.Assign [.Name y py] (.ListComp elt [⟨tg, iter, cs, 0⟩] sc pos) spos) (tAsg (tComp own fr wi g tt te) (gName i)) := by
  intro pins s σ H D0 I h
  rw [exec_Assign_Name_used _ _ _ _ hsw]
  refine wpAny_bind (wpAny_standAt (wpAny_bind ?_))
  show wpAny _ X.A (do let _ ← comprehension (.ListComp elt [⟨tg, iter, cs, 0⟩] sc pos) sc X.env _ (newList []) false (eval iter X.env) (some (assign (.Name y py) X.env))) _ _ s
  refine wpAny_bind (thn (wpAny_comprehension_free (use := some (assign (.Name y py) X.env)) (Q := fun _ s' => SP X pins D0 .next s') rfl hs S.clos S.kind S.names
    (thn (hi pins s σ H _ I h) fun v s1 h1 => thn h1 fun itv s2 h2 => ?_)) fun _ s' hq => wpAny_pure (wpAny_pure hq))
  obtain ⟨it, fp, tn, J, H2, e, I2, T, st2, f2, W, w0, walk⟩ := h2
  subst e
  refine comp_core (RR := fun acc C => compPost (model X.prog X.w) X.A X.xe (some (assign (.Name y py) X.env)) (fun _ s' => SP X pins D0 .next s') acc C) S hc I2 T st2 f2 (fun C s H => hg C s H fp) (fun C s H => ht C s H fp) (fun C s H => he C s H fp) w0 walk ?_
  intro D C H' ys s' m hn hD fC I' rr
  obtain ⟨f0, f1, f2', f3, f4, f5⟩ := fC
  show wpAny _ X.A (assign (.Name y py) X.env (.ref D)) _ _ _
  refine wpAny_assign_Name (store_ok2 I' hN hiy hy (v := .ref D) rfl (fun s2 I2 ⟨a, sb, ha⟩ => ?_) hf)
  have aC : C ≠ a := by
    rcases ha with z | z
    · rw [z]; exact f1
    · exact fun q => f4 y a z q.symm
  exact ⟨m, hn.sameBut sb aC, fun h' hs' => ⟨_, _, Inv.turned (t' := s2.toks) I2 (fun b o hb e => hs'.extBut b o hb e) f0 f1 f3 f4 f5, rr D hD⟩⟩
end
theorem comp_list {K : PySem.W.Frag} {a : Addr} {xs : List V} {g : TG} {tt : TT} {te : TE} {σ0 : St} {H : Hp} {R : List V → Hp → Prop} (Pv : Nat → List V → Hp → Prop) (h0 : Pv 0 [] H) (hl : ∀ i ys H, i ≤ xs.length → Pv i ys H → SqL K H a xs)
    (hs : ∀ i x ys H, xs[i]? = some x → Pv i ys H → g x σ0 H fun σ2 H2 => Ext σ0 σ2 ∧ tt σ2 H2 fun b H3 => if b = true then te σ2 H3 fun v H4 => ys.length < sizeLine ∧ Pv (i + 1) (ys ++ [v]) H4 else Pv (i + 1) ys H3)
    (hd : ∀ ys H, Pv xs.length ys H → R ys H) : ∃ W : Nat → Nat → List V → Hp → Prop, (∃ m, W 0 m [] H) ∧ cWalk (Itl K a) g tt te σ0 W R := by
  refine ⟨fun i m ys H => m = xs.length - i ∧ i ≤ xs.length ∧ Pv i ys H, ⟨xs.length, by simp, Nat.zero_le _, h0⟩, ?_⟩
  rintro i m ys H ⟨rfl, hi, p⟩
  have q := hl i ys H hi p
  by_cases hlt : i < xs.length
  · refine .inr ⟨⟨xs, xs[i], q, by simp [hlt]⟩, Pv (i + 1), fun ys' H' p' => ⟨xs.length - (i + 1), by omega, rfl, hlt, p'⟩, fun x H' y => ?_⟩
    obtain ⟨e, y⟩ := y
    subst e
    exact hs i x ys _ (y xs q) p
  · have e : i = xs.length := by omega
    subst e
    exact .inl ⟨⟨xs, q, Nat.le_refl _⟩, hd ys H p⟩
theorem comp_tup {K : PySem.W.Frag} {a : Addr} {xs : List V} {g : TG} {tt : TT} {te : TE} {σ0 : St} {H : Hp} {R : List V → Hp → Prop} (Pv : Nat → List V → Hp → Prop) (h0 : Pv 0 [] H) (hl : ∀ i ys H, i ≤ xs.length → Pv i ys H → SqT K H a xs)
    (hs : ∀ i x ys H, xs[i]? = some x → Pv i ys H → g x σ0 H fun σ2 H2 => Ext σ0 σ2 ∧ tt σ2 H2 fun b H3 => if b = true then te σ2 H3 fun v H4 => ys.length < sizeLine ∧ Pv (i + 1) (ys ++ [v]) H4 else Pv (i + 1) ys H3)
    (hd : ∀ ys H, Pv xs.length ys H → R ys H) : ∃ W : Nat → Nat → List V → Hp → Prop, (∃ m, W 0 m [] H) ∧ cWalk (Itt K a) g tt te σ0 W R := by
  refine ⟨fun i m ys H => m = xs.length - i ∧ i ≤ xs.length ∧ Pv i ys H, ⟨xs.length, by simp, Nat.zero_le _, h0⟩, ?_⟩
  rintro i m ys H ⟨rfl, hi, p⟩
  have q := hl i ys H hi p
  by_cases hlt : i < xs.length
  · refine .inr ⟨⟨xs, xs[i], q, by simp [hlt]⟩, Pv (i + 1), fun ys' H' p' => ⟨xs.length - (i + 1), by omega, rfl, hlt, p'⟩, fun x H' y => ?_⟩
    obtain ⟨e, y⟩ := y
    subst e
    exact hs i x ys _ (y xs q) p
  · have e : i = xs.length := by omega
    subst e
    exact .inl ⟨⟨xs, q, Nat.le_refl _⟩, hd ys H p⟩
theorem comp_range {lo : Int} {n : Nat} {g : TG} {tt : TT} {te : TE} {σ0 : St} {H : Hp} {R : List V → Hp → Prop} (Pv : Nat → List V → Hp → Prop) (h0 : Pv 0 [] H)
    (hs : ∀ i ys H, i < n → Pv i ys H → g (.int (lo + i)) σ0 H fun σ2 H2 => Ext σ0 σ2 ∧ tt σ2 H2 fun b H3 => if b = true then te σ2 H3 fun v H4 => ys.length < sizeLine ∧ Pv (i + 1) (ys ++ [v]) H4 else Pv (i + 1) ys H3)
    (hd : ∀ ys H, Pv n ys H → R ys H) : ∃ W : Nat → Nat → List V → Hp → Prop, (∃ m, W 0 m [] H) ∧ cWalk (Itr lo n) g tt te σ0 W R := by
  refine ⟨fun i m ys H => m = n - i ∧ i ≤ n ∧ Pv i ys H, ⟨n, by simp, Nat.zero_le _, h0⟩, ?_⟩
  rintro i m ys H ⟨rfl, hi, p⟩
  by_cases hlt : i < n
  · refine .inr ⟨hlt, Pv (i + 1), fun ys' H' p' => ⟨n - (i + 1), by omega, rfl, hlt, p'⟩, fun x H' y => ?_⟩
    obtain ⟨e, y⟩ := y
    subst e y
    exact hs i ys _ hlt p
  · have e : i = n := by omega
    subst e
    exact .inl ⟨Nat.le_refl _, hd ys H p⟩
def iSeq (K : PySem.W.Frag) (tl : TE) : TI := fun σ H R => tl σ H fun x H1 => ∃ a, x = .ref a ∧ (((∃ xs, SqL K H1 a xs) ∧ R (Itl K a) H1) ∨ ((∃ xs, SqT K H1 a xs) ∧ R (Itt K a) H1))
theorem pi_seq {X : Cx} {tg l : Expr} {tl : TE} (hl : PE X l tl) : PI X tg l (iSeq X.K tl) := by
  intro pins s σ H R I h
  refine thn (hl pins s σ H _ I h) fun v s1 ⟨x, H1, I1, r1, q1⟩ => ?_
  obtain ⟨a, e, q⟩ := q1
  subst e
  cases r1
  have fo : ∀ b ∈ [s1.heap.objs.size], FpOk X pins H1 b := fun b hb => by
    have e : b = s1.heap.objs.size := by simpa using hb
    subst e
    exact I1.fpOk (Nat.le_refl _) (I1.hok.fresh (Nat.le_refl _))
  rcases q with ⟨⟨xs, hq⟩, q⟩ | ⟨⟨xs, hq⟩, q⟩
  · obtain ⟨its, rv, p, hz⟩ := I1.list hq
    refine wpAny_pyIter_list p.isList ?_
    exact ⟨s1.heap.objs.size, [s1.heap.objs.size], _, _, H1, rfl, I1.kept (t' := s1.toks) fun b o e => Heap.get?_push_of_some _ e, turn_list a _, ⟨_, Heap.get?_push_size _ rfl, rfl, rfl⟩, fo, q⟩
  · obtain ⟨its, rv, p, hz⟩ := I1.tuple hq
    refine wpAny_pyIter_tuple (show s1.heap.IsTuple a its.toArray from p) ?_
    exact ⟨s1.heap.objs.size, [s1.heap.objs.size], _, _, H1, rfl, I1.kept (t' := s1.toks) fun b o e => Heap.get?_push_of_some _ e, turn_tuple a _, ⟨_, Heap.get?_push_size _ rfl, rfl, rfl⟩, fo, q⟩
end L2
namespace Hw
open PySem PySem.Spec
def lt (a b : Str) : Bool := ltCps a.cps.toList b.cps.toList
theorem c_irr : ∀ a : List Nat, ltCps a a = false
  | [] => rfl
  | x :: r => by simp [ltCps, c_irr r]
theorem c_trans : ∀ a b c : List Nat, ltCps a b = true → ltCps b c = true → ltCps a c = true
  | [], [], _, h, _ => by simp [ltCps] at h
  | [], _ :: _, [], _, h => by simp [ltCps] at h
  | [], _ :: _, _ :: _, _, _ => rfl
  | _ :: _, [], _, h, _ => by simp [ltCps] at h
  | _ :: _, _ :: _, [], _, h => by simp [ltCps] at h
  | x :: a, y :: b, z :: c, h, g => by
    simp only [ltCps, Bool.or_eq_true, Bool.and_eq_true, decide_eq_true_eq, beq_iff_eq] at h g ⊢
    rcases h with h | ⟨h, h'⟩ <;> rcases g with g | ⟨g, g'⟩
    · left; omega
    · left; omega
    · left; omega
    · right; exact ⟨by omega, c_trans a b c h' g'⟩
theorem c_tri : ∀ a b : List Nat, ltCps a b = true ∨ a = b ∨ ltCps b a = true
  | [], [] => .inr (.inl rfl)
  | [], _ :: _ => .inl rfl
  | _ :: _, [] => .inr (.inr rfl)
  | x :: a, y :: b => by
    simp only [ltCps, Bool.or_eq_true, Bool.and_eq_true, decide_eq_true_eq, beq_iff_eq, List.cons.injEq]
    rcases Nat.lt_trichotomy x y with h | h | h
    · exact .inl (.inl h)
    · rcases c_tri a b with g | g | g
      · exact .inl (.inr ⟨h, g⟩)
      · exact .inr (.inl ⟨h, g⟩)
      · exact .inr (.inr (.inr ⟨h.symm, g⟩))
    · exact .inr (.inr (.inl h))
theorem lt_irr (a : Str) : lt a a = false := c_irr _
theorem lt_trans {a b c : Str} : lt a b = true → lt b c = true → lt a c = true := c_trans _ _ _
theorem lt_tri (a b : Str) : lt a b = true ∨ a = b ∨ lt b a = true := by
  rcases c_tri a.cps.toList b.cps.toList with h | h | h
  · exact .inl h
  · refine .inr (.inl ?_)
    obtain ⟨⟨x⟩⟩ := a; obtain ⟨⟨y⟩⟩ := b
    have h : x = y := h
    rw [h]
  · exact .inr (.inr h)
theorem lt_ne {a b : Str} (h : lt a b = true) : a ≠ b := fun e => by rw [e, lt_irr] at h; cases h
theorem not_lt_trans {a b c : Str} (h : lt b a = false) (g : lt c b = false) : lt c a = false := by
  rcases lt_tri c a with e | e | e
  · rcases lt_tri b a with k | k | k
    · rw [h] at k; cases k
    · rw [k] at g; rw [g] at e; cases e
    · rw [lt_trans e k] at g; cases g
  · rw [e]; exact lt_irr a
  · cases q : lt c a with
    | false => rfl
    | true => have := lt_trans e q; rw [lt_irr] at this; cases this
abbrev Ps := List (Str × Int)
def lin : Ps → (Str → Int) → Int
  | [], _ => 0
  | p :: r, f => p.2 * f p.1 + lin r f
theorem lin_append : ∀ (a b : Ps) (f : Str → Int), lin (a ++ b) f = lin a f + lin b f
  | [], b, f => by simp [lin]
  | p :: a, b, f => by simp only [List.cons_append, lin, lin_append a b f]; omega
theorem lin_perm {a b : Ps} (h : a.Perm b) (f : Str → Int) : lin a f = lin b f := by
  induction h with
  | nil => rfl
  | cons x _ ih => simp only [lin, ih]
  | swap x y l => simp only [lin]; omega
  | trans _ _ i j => exact i.trans j
theorem lin_smul (k : Int) : ∀ (a : Ps) (f : Str → Int), lin (a.map fun p => (p.1, p.2 * k)) f = lin a f * k
  | [], f => by simp [lin]
  | p :: a, f => by
    simp only [List.map_cons, lin, lin_smul k a f, Int.add_mul]
    rw [Int.mul_assoc, Int.mul_comm k, ← Int.mul_assoc]
theorem lin_neg : ∀ (a : Ps) (f : Str → Int), lin (a.map fun p => (p.1, -p.2)) f = -lin a f
  | [], f => by simp [lin]
  | p :: a, f => by
    simp only [List.map_cons, lin, lin_neg a f, Int.neg_mul]; omega
theorem lin_filter : ∀ (a : Ps) (f : Str → Int), lin (a.filter fun p => decide (p.2 ≠ 0)) f = lin a f
  | [], f => rfl
  | p :: a, f => by
    by_cases h : p.2 = 0
    · rw [List.filter_cons_of_neg (by simp [h]), lin_filter a f, lin, h]; simp
    · rw [List.filter_cons_of_pos (by simp [h]), lin, lin, lin_filter a f]
structure Canon (a : Ps) : Prop where
  up : a.Pairwise fun p q => lt p.1 q.1 = true
  nz : ∀ p ∈ a, p.2 ≠ 0
def ind (t : Str) : Str → Int := fun s => if s = t then 1 else 0
theorem lin_none {t : Str} : ∀ {a : Ps}, (∀ p ∈ a, p.1 ≠ t) → lin a (ind t) = 0
  | [], _ => rfl
  | p :: a, h => by
    have h1 : p.1 ≠ t := h p (List.mem_cons_self ..)
    rw [lin, lin_none (a := a) fun q hq => h q (List.mem_cons_of_mem _ hq)]
    simp [ind, h1]
theorem Canon.tail {p : Str × Int} {a : Ps} (c : Canon (p :: a)) : Canon a := ⟨(List.pairwise_cons.mp c.up).2, fun q hq => c.nz q (List.mem_cons_of_mem _ hq)⟩
theorem Canon.head {p : Str × Int} {a : Ps} (c : Canon (p :: a)) : lin (p :: a) (ind p.1) = p.2 := by
  rw [lin, lin_none fun q hq => (lt_ne ((List.pairwise_cons.mp c.up).1 q hq)).symm]
  simp [ind]
theorem Canon.low {t : Str} {p : Str × Int} {a : Ps} (c : Canon (p :: a)) (h : lt t p.1 = true) : lin (p :: a) (ind t) = 0 := by
  refine lin_none fun q hq => ?_
  rcases List.mem_cons.mp hq with rfl | hq
  · exact (lt_ne h).symm
  · exact (lt_ne (lt_trans h ((List.pairwise_cons.mp c.up).1 q hq))).symm
theorem Canon.same : ∀ {a b : Ps}, Canon a → Canon b → (∀ f, lin a f = lin b f) → a = b
  | [], [], _, _, _ => rfl
  | [], p :: b, _, cb, h => by
    have e := h (ind p.1)
    rw [cb.head] at e
    exact absurd e.symm (cb.nz p (List.mem_cons_self ..))
  | p :: a, [], ca, _, h => by
    have e := h (ind p.1)
    rw [ca.head] at e
    exact absurd e (ca.nz p (List.mem_cons_self ..))
  | p :: a, q :: b, ca, cb, h => by
    rcases lt_tri p.1 q.1 with g | g | g
    · have e := h (ind p.1)
      rw [ca.head, cb.low g] at e
      exact absurd e (ca.nz p (List.mem_cons_self ..))
    · have e := h (ind p.1)
      rw [ca.head, g, cb.head] at e
      have pq : p = q := Prod.ext g e
      subst pq
      rw [Canon.same ca.tail cb.tail fun f => by have := h f; simp only [lin] at this; omega]
    · have e := h (ind q.1)
      rw [cb.head, ca.low g] at e
      exact absurd e.symm (cb.nz q (List.mem_cons_self ..))
def Gat (a b : Ps) : Prop := Canon b ∧ ∀ f, lin b f = lin a f
theorem Canon.nil : Canon [] := ⟨.nil, fun _ h => nomatch h⟩
def get (d : Ps) (t : Str) : Int := ((d.find? fun p => decide (p.1 = t)).map (·.2)).getD 0
def put (d : Ps) (t : Str) (n : Int) : Ps := if (d.any fun p => decide (p.1 = t)) = true then d.map (fun p => if p.1 = t then (p.1, n) else p) else d ++ [(t, n)]
def keys (d : Ps) : List Str := d.map (·.1)
theorem get_cons (p : Str × Int) (r : Ps) (t : Str) : get (p :: r) t = if p.1 = t then p.2 else get r t := by
  unfold get
  by_cases e : p.1 = t
  · simp [List.find?_cons, e]
  · simp [List.find?_cons, e]
theorem any_iff (d : Ps) (t : Str) : (d.any fun p => decide (p.1 = t)) = true ↔ t ∈ keys d := by
  unfold keys
  rw [List.any_eq_true, List.mem_map]
  constructor
  · rintro ⟨p, h, e⟩; exact ⟨p, h, of_decide_eq_true e⟩
  · rintro ⟨p, h, e⟩; exact ⟨p, h, decide_eq_true e⟩
theorem get_no : ∀ {d : Ps} {t : Str}, t ∉ keys d → get d t = 0
  | [], _, _ => rfl
  | p :: r, t, h => by
    have h' : p.1 ≠ t ∧ t ∉ keys r := by
      constructor
      · intro e; exact h (by unfold keys; rw [List.map_cons, e]; exact List.mem_cons_self ..)
      · intro e; exact h (List.mem_cons_of_mem _ e)
    rw [get_cons, if_neg h'.1, get_no h'.2]
theorem keys_put (d : Ps) (t : Str) (n : Int) : keys (put d t n) = if t ∈ keys d then keys d else keys d ++ [t] := by
  unfold put
  by_cases h : t ∈ keys d
  · rw [if_pos ((any_iff d t).mpr h), if_pos h]
    unfold keys
    rw [List.map_map]
    refine List.map_congr_left fun p _ => ?_
    show (if p.1 = t then (p.1, n) else p).1 = p.1
    split <;> rfl
  · rw [if_neg (fun e => h ((any_iff d t).mp e)), if_neg h]
    unfold keys
    rw [List.map_append]; rfl
theorem nodup_put {d : Ps} {t : Str} {n : Int} (h : (keys d).Nodup) : (keys (put d t n)).Nodup := by
  rw [keys_put]
  by_cases e : t ∈ keys d
  · rw [if_pos e]; exact h
  · rw [if_neg e, List.nodup_append]
    refine ⟨h, by simp, fun x hx y hy => ?_⟩
    rw [List.mem_singleton] at hy
    rw [hy]; rintro rfl; exact e hx
theorem len_put (d : Ps) (t : Str) (n : Int) : (put d t n).length ≤ d.length + 1 := by
  have h : (keys (put d t n)).length ≤ (keys d).length + 1 := by
    rw [keys_put]; split
    · omega
    · simp
  simpa [keys] using h
theorem lin_repl (t : Str) (n : Int) (f : Str → Int) : ∀ {d : Ps}, (keys d).Nodup → t ∈ keys d → lin (d.map fun p => if p.1 = t then (p.1, n) else p) f = lin d f + (n - get d t) * f t
  | [], _, h => by simp [keys] at h
  | p :: r, nd, h => by
    have nd' : p.1 ∉ keys r ∧ (keys r).Nodup := List.nodup_cons.mp nd
    rw [List.map_cons, lin, lin, get_cons]
    by_cases e : p.1 = t
    · have hr : r.map (fun p => if p.1 = t then (p.1, n) else p) = r := by
        refine (List.map_congr_left fun q hq => ?_).trans (List.map_id r)
        rw [if_neg]; rfl
        intro z
        exact nd'.1 (by rw [e, ← z]; exact List.mem_map.mpr ⟨q, hq, rfl⟩)
      rw [hr, if_pos e, if_pos e, Int.sub_mul]
      show n * f p.1 + _ = _
      rw [e]; omega
    · have ht : t ∈ keys r := (List.mem_cons.mp h).resolve_left fun z => e z.symm
      rw [if_neg e, if_neg e, lin_repl t n f nd'.2 ht]; omega
theorem lin_put {d : Ps} (t : Str) (n : Int) (f : Str → Int) (nd : (keys d).Nodup) : lin (put d t n) f = lin d f + (n - get d t) * f t := by
  unfold put
  by_cases h : t ∈ keys d
  · rw [if_pos ((any_iff d t).mpr h), lin_repl t n f nd h]
  · rw [if_neg (fun e => h ((any_iff d t).mp e)), lin_append, get_no h]; simp [lin]
def step (d : Ps) (p : Str × Int) : Ps := put d p.1 (get d p.1 + p.2)
structure Tab (pre d : Ps) : Prop where
  nd : (keys d).Nodup
  len : d.length ≤ pre.length
  lin : ∀ f, lin d f = lin pre f
theorem Tab.nil : Tab [] [] := ⟨.nil, Nat.le_refl _, fun _ => rfl⟩
theorem Tab.step {pre d : Ps} (h : Tab pre d) (p : Str × Int) : Tab (pre ++ [p]) (step d p) := by
  refine ⟨nodup_put h.nd, ?_, fun f => ?_⟩
  · have := len_put d p.1 (get d p.1 + p.2); have := h.len; simp; unfold Hw.step; omega
  · unfold Hw.step
    rw [lin_put _ _ _ h.nd, lin_append, h.lin]
    simp only [Hw.lin]
    have : get d p.1 + p.2 - get d p.1 = p.2 := by omega
    rw [this]; omega
theorem lin_keys : ∀ {d : Ps} (f : Str → Int), (keys d).Nodup → lin ((keys d).map fun t => (t, get d t)) f = lin d f
  | [], _, _ => rfl
  | p :: r, f, nd => by
    have nd' : p.1 ∉ keys r ∧ (keys r).Nodup := List.nodup_cons.mp nd
    show lin ((p.1, get (p :: r) p.1) :: (keys r).map fun t => (t, get (p :: r) t)) f = _
    have e : ((keys r).map fun t => (t, get (p :: r) t)) = (keys r).map fun t => (t, get r t) := by
      refine List.map_congr_left fun t ht => ?_
      rw [get_cons, if_neg (fun z => nd'.1 (by rw [z]; exact ht))]
    rw [e, lin, lin_keys f nd'.2, get_cons, if_pos rfl, lin]
def outs (d : Ps) (ys : List Str) : Ps := (ys.map fun t => (t, get d t)).filter fun p => decide (p.2 ≠ 0)
theorem Tab.gat {pre d : Ps} {ys : List Str} (h : Tab pre d) (hp : ys.Perm (keys d)) (hs : ys.Pairwise fun a b => lt b a = false) : Gat pre (outs d ys) := by
  have nd : ys.Nodup := hp.nodup_iff.mpr h.nd
  have up : ys.Pairwise fun a b => lt a b = true := by
    have := hs.and nd
    refine this.imp fun {a b} q => ?_
    rcases lt_tri a b with e | e | e
    · exact e
    · exact absurd e q.2
    · rw [q.1] at e; cases e
  refine ⟨⟨?_, fun p hp => ?_⟩, fun f => ?_⟩
  · unfold outs
    refine List.Pairwise.filter _ ?_
    rw [List.pairwise_map]; exact up
  · exact of_decide_eq_true (List.mem_filter.mp hp).2
  · unfold outs
    rw [lin_filter, lin_perm (hp.map _), lin_keys f h.nd, h.lin]
end Hw
namespace L2
open PySem PySem.Spec PyProof.Rows
section
variable {X : Cx}
theorem preSum_list : ∀ (ns : List Int), PySem.preSum (fun i => ns.getD i 0) ns.length = ns.sum := by
  intro ns
  induction ns with
  | nil => rfl
  | cons n r ih =>
    rw [List.length_cons, PySem.W.kdu_shift, List.sum_cons, ← ih]
    rfl
theorem call_sum (hc : X.calm = true) : CallR X (.builtin "sum") (fun xs H Q => ∃ (p : Addr) (ns : List Int), xs = [.ref p] ∧ SqL X.K H p (ns.map V.int) ∧ Q (.int ns.sum) H) := by
  intro pins s σ H xs us Q I r h
  obtain ⟨p, ns, rfl, hq, q⟩ := h
  obtain ⟨u, rfl, ru⟩ := vals1 r
  cases ru
  obtain ⟨its, rv, pl, hz⟩ := I.list hq
  have hi : IntsAre its ns := intsAre_of rv
  have lp : p < s.heap.objs.size := let ⟨o, _, e, _⟩ := pl; Heap.lt_size e
  refine call_sum_walkAnyS (wpAny_pyIter_list pl.isList ?_)
  have W := Walks.list (prog := X.prog) (w := X.w) (A := X.A.in1) (I.ok.hd hc) s.heap.objs.size p (Nat.ne_of_lt lp) its.toArray
  refine ⟨s.heap.objs.size, _, _, _, _, _, _, (fun i => ns.getD i 0), rfl, W.toS, ⟨⟨_, Heap.get?_push_size _ rfl, rfl, rfl⟩, pl.isList.at fun o e => Heap.get?_push_of_some _ e⟩, fun b hb => ?_, fun i v hv => ?_, fun s' t' hm => ?_⟩
  · show b < (s.heap.push _).objs.size
    rw [Heap.size_push]
    rcases List.mem_cons.mp hb with e | hb
    · rw [e]; exact Nat.lt_succ_self _
    · rw [List.mem_singleton.mp hb]; exact Nat.lt_succ_of_lt lp
  · have hv : its.toArray[i]? = some v := hv
    have hv : its[i]? = some v := by simpa using hv
    have hl := rv.length
    have hil : i < its.length := (List.getElem?_eq_some_iff.mp hv).1
    rw [List.length_map] at hl
    obtain ⟨u, hu, ru⟩ := rv.get (i := i) (x := .int (ns.getD i 0)) (by rw [List.getElem?_map, List.getD_eq_getElem?_getD, List.getElem?_eq_getElem (by omega)]; rfl)
    rw [hv] at hu
    cases hu
    exact ru
  · have kp : ∀ b o, s.heap.get? b = some o → s'.heap.get? b = some o := fun b o e =>
      hm.heap b o (fun hI => absurd (Heap.lt_size e) (by rw [List.mem_singleton.mp hI]; exact Nat.lt_irrefl _)) (Heap.get?_push_of_some _ e)
    rw [Moved.eq_with hm]
    have hl := rv.length
    rw [List.length_map] at hl
    have e : PySem.preSum (fun i => ns.getD i 0) its.toArray.size = ns.sum := by rw [List.size_toArray, ← hl]; exact preSum_list ns
    rw [e]
    exact ⟨.int ns.sum, H, I.kept (t' := s'.toks) kp, ⟨_, rfl⟩, q⟩
theorem rising_pair : ∀ (p : Str) (l : List Str), risingS p l = true → (p :: l).Pairwise fun a b => Hw.lt b a = false
  | p, [], _ => by simp
  | p, x :: r, h => by
    have h : (!ltCps x.cps.toList p.cps.toList && risingS x r) = true := h
    rw [Bool.and_eq_true, Bool.not_eq_true'] at h
    have ih := rising_pair x r h.2
    refine List.pairwise_cons.mpr ⟨fun y hy => ?_, ih⟩
    rcases List.mem_cons.mp hy with rfl | hy
    · exact h.1
    · exact Hw.not_lt_trans h.1 ((List.pairwise_cons.mp ih).1 y hy)
theorem sortedS_pair : ∀ (l : List Str), sortedS l = true → l.Pairwise fun a b => Hw.lt b a = false
  | [], _ => .nil
  | x :: r, h => rising_pair x r h
theorem strsAre_of : ∀ {ss : List Str} {us : List Value}, StrsAre us ss → Vals (ss.map V.str) us
  | _, _, .nil => .nil
  | _, _, .cons x t h => .cons ⟨t, rfl⟩ (strsAre_of h)
theorem of_vals_str : ∀ {ss : List Str} {us : List Value}, Vals (ss.map V.str) us → StrsAre us ss := by
  intro ss
  induction ss with
  | nil => intro us r; rw [List.map_nil] at r; cases r; exact .nil
  | cons x ss ih =>
    intro us r
    rw [List.map_cons] at r
    cases r with
    | cons r1 r2 =>
      obtain ⟨t, e⟩ := r1
      subst e
      exact .cons x t (ih r2)
theorem vals_of_get : ∀ {xs : List V} {us : List Value}, xs.length = us.length → (∀ (i : Nat) x, xs[i]? = some x → ∃ u, us[i]? = some u ∧ RelV x u) → Vals xs us
  | [], [], _, _ => .nil
  | [], _ :: _, h, _ => by simp at h
  | _ :: _, [], h, _ => by simp at h
  | x :: xs, u :: us, h, g => by
    obtain ⟨v, e, r⟩ := g 0 x rfl
    cases e
    exact .cons r (vals_of_get (by simpa using h) fun i y hy => g (i + 1) y hy)
theorem ObjOk.here {P : Program} {w : World} {H : Hp} {h : Heap} {a : Addr} {o : HO} (x : ObjOk P w H h a o) : ∃ u, h.get? a = some u := by
  cases o with
  | lst xs => obtain ⟨_, _, _, _, e⟩ := x; exact ⟨_, e⟩
  | tup xs => obtain ⟨_, _, _, o, e, _⟩ := x; exact ⟨_, e⟩
  | dK kvs => obtain ⟨_, _, _, _, o, _, _, e, _⟩ := x; exact ⟨_, e⟩
  | dT kvs => obtain ⟨_, _, _, _, o, _, _, e, _⟩ := x; exact ⟨_, e⟩
  | set S n => obtain ⟨o, _, _, _, e, _⟩ := x; exact ⟨_, e⟩
  | ins C dx fs => obtain ⟨_, _, _, e, _⟩ := x; exact ⟨_, e⟩
  | own y => obtain ⟨_, e⟩ := x; exact ⟨_, e⟩
  | xd fs => obtain ⟨_, ⟨_, _, _, e, _⟩, _⟩ := x; exact ⟨_, e⟩
  | rng lo hi => obtain ⟨_, _, _, e⟩ := x; exact ⟨_, e⟩
  | frz ob u => obtain ⟨e, _⟩ := x; exact ⟨_, e⟩
  | tbl ps => exact ⟨_, (show h.get? a = some _ from x)⟩
  | met f y => exact ⟨_, (show h.get? a = some _ from x)⟩
  | ext φ => obtain ⟨_, ⟨_, e⟩, _⟩ := x; exact ⟨_, e⟩
theorem Inv.laid2 {pins : List (Addr × Obj)} {σ : St} {H : Hp} {s : Shared} {h' : Heap} {a : Addr} {o : HO} {t' : Nat} (I : Inv X pins σ H s) (k : ∀ b u, s.heap.get? b = some u → h'.get? b = some u) (hp : ∀ b u, s.heap.get? b = some u → b ≠ a) (new : ObjOk X.prog X.w (upd H a o) h' a o) :
    H a = none ∧ Inv X pins σ (upd H a o) { s with heap := h', toks := t' } := by
  have hn : H a = none := by
    cases q : H a with
    | none => rfl
    | some u => obtain ⟨v, e⟩ := (I.hok a u q).here; exact absurd rfl (hp a v e)
  refine ⟨hn, I.un ⟨fun b u e _ _ _ => k b u e, fun b u e _ _ _ => ⟨u.slots, k b u e⟩, fun b u e n _ => by rw [upd_ne (hp b u e)]; exact n, fun b u e _ => ⟨u, k b u e⟩, fun b xs e => by rw [upd_ne (ne_of_none e hn)]; exact e, fun b u xs e => by rw [upd_ne (ne_of_none e hn)]; exact e, fun b ps e => ⟨#[], by rw [upd_ne (ne_of_none e hn), e]; simp⟩⟩ fun b u e => ?_⟩
  by_cases hb : b = a
  · subst hb; rw [upd_same] at e; cases e; exact new
  · rw [upd_ne hb] at e
    exact (I.hok b u e).stay (fun c v _ q => k c v q) (fun c q => by rw [upd_ne (ne_of_none q hn)]; exact q) fun c xs q => by rw [upd_ne (ne_of_none q hn)]; exact q
theorem call_sortedD (hc : X.calm = true) : CallR X (.builtin "sorted") (fun xs H Q => ∃ p kvs ss, xs = [.ref p] ∧ H p = some (.dK kvs) ∧ kvs.map (·.1) = List.map (Sum.inr : Str → Key) ss ∧ kvs.length < 64 ∧
    ∀ l ys, H l = none → List.Perm ys ss → ys.Pairwise (fun a b => Hw.lt b a = false) → Q (.ref l) (upd H l (.lst (ys.map V.str)))) := by
  intro pins s σ H xs us Q I r h
  obtain ⟨p, kvs, ss, rfl, hp, hk, h64, q⟩ := h
  obtain ⟨u, rfl, ru⟩ := vals1 r
  cases ru
  obtain ⟨hz, lo, vs, rel, dd⟩ := dk_rd I.hok (.inl hp)
  obtain ⟨ep, hat⟩ := dd.dictAt
  have hlv := rel.length
  refine Calls.call_function_entry kind_sorted plain_sorted entry_sorted (args_sorted1 _) ?_
  unfold Builtin.«sorted»
  refine wpAny_bind (m := checkCount "sorted" 1 1 _) (wpAny_pure (wpAny_bind (PySem.W.kdu_collect (A := X.A.in1) (PySem.W.kdl_dict (knd := mixKind X.prog X.w) (kvs := vs) (ep := ep) lo) (I.ok.hd hc) hat (by rw [← hlv]; exact hz) fun h' tk acc kp hacc => ?_)))
  have hS : StrsAre acc.toList ss := by
    refine of_vals_str (vals_of_get ?_ fun i x hx => ?_)
    · have : (kvs.map (·.1)).length = (List.map (Sum.inr : Str → Key) ss).length := by rw [hk]
      rw [List.length_map, List.length_map] at this
      have el : acc.toList.length = kvs.length := by rw [Array.length_toList, hacc.1, ← hlv]
      rw [List.length_map, el, this]
    · rw [List.getElem?_map] at hx
      cases e : ss[i]? with
      | none => rw [e] at hx; cases hx
      | some y =>
        rw [e] at hx
        cases hx
        have hi : i < acc.size := by
          have h1 : i < ss.length := (List.getElem?_eq_some_iff.mp e).1
          have : (kvs.map (·.1)).length = (List.map (Sum.inr : Str → Key) ss).length := by rw [hk]
          rw [List.length_map, List.length_map] at this
          rw [hacc.1]; omega
        obtain ⟨k, x, hv, hkk⟩ := hacc.2 i acc[i] (by simp)
        have ek : (vs.map (·.1))[i]? = some (Sum.inr y) := by rw [← rel.keys, hk, List.getElem?_map, e]; rfl
        rw [List.getElem?_map, hv] at ek
        have ek : k = Sum.inr y := Option.some.inj ek
        subst ek
        rcases keyIs_shape (show keyIs (Sum.inr y) acc[i] = true from hkk) with ⟨_, _, z, _⟩ | ⟨z, t, z1, z2⟩
        · cases z
        · cases z1
          exact ⟨acc[i], by simp, t, z2⟩
  have hla : acc.toList.length < 64 := by rw [Array.length_toList, hacc.1, ← hlv]; exact h64
  refine wpAny_bind (wpAny_newList ?_ (by have : 64 ≤ sizeLine := by rw [sizeLine_eq]; decide
                                          omega))
  have ho : (h'.push (seqObj "list" acc.toList.toArray 0)).get? h'.objs.size = some (seqObj "list" acc.toList.toArray 0) := Heap.get?_push_size _ rfl
  refine wpAny_bind (wpAny_holding (wpAny_call_entry slot_list_sort ⟨_, ho, rfl⟩ entry_list_sort (list_sort_treeK (s := { s with heap := h'.push (seqObj "list" acc.toList.toArray 0), toks := tk }) strKind_oneLt ho hS.keysOf (fun v1 v2 rest e => keyKind_strs (by rw [← e]; exact hS)) hla fun st' a1 a2 => ⟨_, rfl, ?_⟩) (args_list_sort _)))
  obtain ⟨ss', b1, b2, b3⟩ := sorted_out_str hS a1 a2
  obtain ⟨e, he⟩ := sortedHeap_at (out := (arrOf st').map (·.2)) ho
  have hss : (ss'.map V.str).length ≤ sizeLine := by
    have h1 : 64 ≤ sizeLine := by rw [sizeLine_eq]; decide
    have h2 : (ss'.map V.str).length = acc.toList.length := by rw [List.length_map, b2.length_eq, ← StrsAre.length hS]
    rw [h2]
    exact Nat.le_trans (Nat.le_of_lt hla) h1
  have L := I.laid2 (h' := sortedHeap (h'.push (seqObj "list" acc.toList.toArray 0)) h'.objs.size acc.toList ((arrOf st').map (·.2))) (a := h'.objs.size) (o := .lst (ss'.map V.str)) (t' := tk)
    (fun b u q => by
      have l := Heap.lt_size (kp b u q)
      rw [sortedHeap_old (Nat.ne_of_lt l) (by rw [Heap.size_push]; exact Nat.lt_succ_of_lt l)]
      exact Heap.get?_push_of_some _ (kp b u q))
    (fun b u q => Nat.ne_of_lt (Heap.lt_size (kp b u q)))
    ⟨hss, ((arrOf st').map (·.2)).toList, e, strsAre_of b1, by rw [Array.toArray_toList]; exact he⟩
  exact wpAny_pure ⟨_, rfl, .ref h'.objs.size, _, L.2, rfl, q _ ss' L.1 b2 (sortedS_pair _ b3)⟩
def Like (K : PySem.W.Frag) (H : Hp) : Nat → V → V → Prop
  | 0, x, y => flatV x = true ∧ x = y
  | n + 1, x, y => (flatV x = true ∧ x = y) ∨ ∃ a b xs ys, x = .ref a ∧ y = .ref b ∧ ((SqL K H a xs ∧ SqL K H b ys) ∨ (SqT K H a xs ∧ SqT K H b ys)) ∧ Paired (Like K H n) xs ys
theorem eqV_same {x : V} (h : flatV x = true) : eqV x x = true := by
  cases x with
  | non => rfl
  | bl b => simp [eqV]
  | int i => simp [eqV]
  | str z => simp [eqV]
  | _ => cases h
theorem pair_get {F : V → V → Prop} : ∀ {xs ys : List V}, Paired F xs ys → ∀ {i : Nat} {x y : V}, xs[i]? = some x → ys[i]? = some y → F x y
  | _, _, .nil, _, _, _, e, _ => by simp at e
  | _, _, .cons r t, 0, _, _, e, e' => by simp at e e'; rw [← e, ← e']; exact r
  | _, _, .cons r t, i + 1, _, _, e, e' => pair_get t (by simpa using e) (by simpa using e')
theorem like_items {K : PySem.W.Frag} {n : Nat} {H : Hp} {A : Around} {s : Shared} {xs ys : List V} {us vs : List Value} (p : Paired (Like K H n) xs ys) (r : Vals xs us) (r' : Vals ys vs)
    (ih : ∀ x y u v, RelV x u → RelV y v → Like K H n x y → SeqAt.EqAt A s u v true) : ∀ (j : Nat) (h1 : j < us.toArray.size) (h2 : j < vs.toArray.size), SeqAt.EqAt A s us.toArray[j] vs.toArray[j] true := by
  intro j h1 h2
  have l1 := r.length
  have l2 := r'.length
  simp only [List.size_toArray] at h1 h2
  have e1 : xs[j]? = some xs[j] := List.getElem?_eq_getElem (by omega)
  have e2 : ys[j]? = some ys[j] := List.getElem?_eq_getElem (by omega)
  obtain ⟨u, hu, ru⟩ := r.get e1
  obtain ⟨v, hv, rv⟩ := r'.get e2
  have hu' : us.toArray[j] = u := by
    rw [List.getElem?_eq_getElem h1] at hu; simpa using hu
  have hv' : vs.toArray[j] = v := by
    rw [List.getElem?_eq_getElem h2] at hv; simpa using hv
  rw [hu', hv']
  exact ih _ _ u v ru rv (pair_get p e1 e2)
theorem all_tt (n : Nat) : ((List.range n).all fun _ => true) = true := by rw [List.all_eq_true]; intro _ _; rfl
theorem like_eq {pins : List (Addr × Obj)} {σ : St} {H : Hp} {s : Shared} (I : Inv X pins σ H s) : ∀ (n : Nat) (A : Around), A.units + n < cLine → ∀ x y u v, RelV x u → RelV y v → Like X.K H n x y → SeqAt.EqAt A s u v true := by
  intro n
  have flat : ∀ (A : Around) (x y : V) (u v : Value), RelV x u → RelV y v → flatV x = true ∧ x = y → SeqAt.EqAt A s u v true := by
    rintro A x y u v ru rv ⟨f, rfl⟩
    have := eqAt_V (A := A) (s := s) ru rv f f
    rw [eqV_same f] at this
    exact this
  induction n with
  | zero => intro A hu x y u v ru rv h; exact flat A x y u v ru rv h
  | succ n ih =>
    intro A hu x y u v ru rv h
    rcases h with h | ⟨a, b, xs, ys, rfl, rfl, h, p⟩
    · exact flat A x y u v ru rv h
    · cases ru
      cases rv
      have ih' := ih A.in1 (by show A.units + 1 + n < cLine; omega)
      by_cases hab : a = b
      · subst hab; exact SeqAt.EqAt.same _
      · refine .of_refs hab ?_
        have lp : xs.length = ys.length := Paired.length p
        rcases h with ⟨ha, hb⟩ | ⟨ha, hb⟩
        · obtain ⟨us, r1, p1, _⟩ := I.list ha
          obtain ⟨vs, r2, p2, _⟩ := I.list hb
          have l1 := r1.length
          have l2 := r2.length
          have := SeqAt.RcAt.lists (A := A) (e := fun _ => true) p1.isList p2.isList (by simp only [List.size_toArray]; omega) (by omega) (like_items p r1 r2 ih')
          rw [all_tt] at this
          exact this
        · obtain ⟨us, r1, p1, _⟩ := I.tuple ha
          obtain ⟨vs, r2, p2, _⟩ := I.tuple hb
          have l1 := r1.length
          have l2 := r2.length
          have := SeqAt.RcAt.tuples (A := A) (e := fun _ => true) (show s.heap.IsTuple a us.toArray from p1) (show s.heap.IsTuple b vs.toArray from p2) (by omega) (like_items p r1 r2 ih')
          have e : (us.toArray.size == vs.toArray.size) = true := by simp only [List.size_toArray, beq_iff_eq]; omega
          rw [all_tt, e] at this
          exact this
def rLike (K : PySem.W.Frag) (n : Nat) (k : Bool) : R2 := fun x y H Q => ∃ a b xs ys, x = .ref a ∧ y = .ref b ∧ ((SqL K H a xs ∧ SqL K H b ys) ∨ (SqT K H a xs ∧ SqT K H b ys)) ∧ Paired (Like K H n) xs ys ∧ Q (.bl k) H
theorem op_eqL (n : Nat) (hu : X.A.units + 1 + n < cLine) : OpR X (compareOp .Eq) (rLike X.K n true) := by
  intro pins s σ H x y v u Q I rx ry h
  obtain ⟨a, b, xs, ys, rfl, rfl, h, p, q⟩ := h
  cases rx
  cases ry
  have ih' := like_eq I n X.A.in1 (by show X.A.units + 1 + n < cLine; omega)
  have lp : xs.length = ys.length := Paired.length p
  have fin : EP X pins σ Q (.bool true) s := ⟨.bl true, H, I, rfl, q⟩
  rcases h with ⟨ha, hb⟩ | ⟨ha, hb⟩
  · obtain ⟨us, r1, p1, _⟩ := I.list ha
    obtain ⟨vs, r2, p2, _⟩ := I.list hb
    have l1 := r1.length
    have l2 := r2.length
    exact SeqAt.eq_listAt (e := fun _ => true) p1.isList p2.isList (by simp only [List.size_toArray]; omega) (by omega) (like_items p r1 r2 ih') (by rw [all_tt]; exact fin)
  · obtain ⟨us, r1, p1, _⟩ := I.tuple ha
    obtain ⟨vs, r2, p2, _⟩ := I.tuple hb
    have l1 := r1.length
    have l2 := r2.length
    have e : (us.toArray.size == vs.toArray.size) = true := by simp only [List.size_toArray, beq_iff_eq]; omega
    exact SeqAt.eq_tupleAt (e := fun _ => true) (show s.heap.IsTuple a us.toArray from p1) (show s.heap.IsTuple b vs.toArray from p2) (by omega) (like_items p r1 r2 ih') (by rw [all_tt, e]; exact fin)
def rJoin : V → List V → Hp → VK → Prop := fun x vs H Q => ∃ sep p ss, x = .str sep ∧ vs = [.ref p] ∧ H p = some (.lst (List.map V.str ss)) ∧ (ss.map (·.length)).sum + ss.length * sep.length ≤ 16777216 ∧ Q (.str (Txt.join sep ss)) H
theorem mt_join : MtR X "str.join" rJoin := by
  intro pins s σ H x vs v us Q I rx rv h
  obtain ⟨sep, p, ss, rfl, rfl, hp, hz, q⟩ := h
  obtain ⟨t, rfl⟩ := rx
  obtain ⟨u, rfl, ru⟩ := rv.one
  cases ru
  obtain ⟨its, r, pl, _⟩ := I.list (SqL.of hp)
  exact join_list pl.isList (by simpa using of_vals_str r) hz fun t' k => ⟨.str _, H, I.tok _, ⟨_, rfl⟩, q⟩
def rIsi (K : PySem.W.Frag) (c : V) : List V → Hp → VK → Prop := fun vs H Q => ∃ x t u b, vs = [x, c] ∧ TyOf K H x t ∧ RelV c u ∧ PySem.W.kitOne K t u = some b ∧ Q (.bl b) H
theorem RelV.inj2 {c : V} {u u' : Value} (hc : match c with | .ref _ => True | .ty _ => True | _ => False) (r : RelV c u) (r' : RelV c u') : u = u' := by
  cases c with
  | ref a => cases r; cases r'; rfl
  | ty n => cases r; cases r'; rfl
  | _ => exact hc.elim
theorem call_isi {c : V} (hc : match c with | .ref _ => True | .ty _ => True | _ => False) : CallR X (.builtin "isinstance") (rIsi X.K c) := by
  intro pins s σ H xs us Q I r h
  obtain ⟨x, t, u, b, rfl, ty, rc, hb, q⟩ := h
  obtain ⟨w1, w2, rfl, rx, r2⟩ := vals2 r
  rw [RelV.inj2 hc r2 rc]
  exact isinst_ok I rx ty hb fun tk => ⟨.bl b, H, I.tok _, rfl, q⟩
def rCatU (K : PySem.W.Frag) : R2 := fun x y H Q => ∃ a b xs ys, x = .ref a ∧ y = .ref b ∧ SqT K H a xs ∧ SqT K H b ys ∧ xs.length + ys.length ≤ sizeLine ∧
  (xs = [] → Q (.ref b) H) ∧ (xs ≠ [] → ys = [] → Q (.ref a) H) ∧ (xs ≠ [] → ys ≠ [] → ∀ p, H p = none → Q (.ref p) (upd H p (.tup (xs ++ ys))))
theorem op_catU : OpR X (binaryOp .Add) (rCatU X.K) := by
  intro pins s σ H x y v u Q I rx ry h
  obtain ⟨a, b, xs, ys, rfl, rfl, ha, hb, hz, q0, q1, q2⟩ := h
  by_cases hx : xs = []
  · cases rx
    cases ry
    obtain ⟨its, r1, p1, _⟩ := I.tuple ha
    obtain ⟨its2, r2, p2, _⟩ := I.tuple hb
    obtain ⟨⟨cls, dd, data, sl⟩, ho, hc, n, hd⟩ := id p1
    obtain ⟨⟨cls2, dd2, data2, sl2⟩, ho2, hc2, n2, hd2⟩ := id p2
    simp only at hc hd hc2 hd2
    subst hc hd hc2 hd2
    have hi : its = [] := r1.nil_iff.mpr hx
    refine concat_meets ⟨_, ho, rfl⟩ ⟨_, ho2, rfl⟩ noFill_tuple_add seq_tuple_add PySem.F.slot_tuple_add PySem.F.entry_tuple_add (PySem.F.args_tuple_add_2 _ _)
      (tuple_addW0 a b its.toArray its2.toArray n n2 dd dd2 sl sl2 (by simp [hi])) ⟨ho, ho2, ?_⟩
    exact ⟨.ref b, H, I, rfl, q0 hx⟩
  · exact op_catT pins s σ H _ _ v u Q I rx ry ⟨a, b, xs, ys, rfl, rfl, ha, hb, hx, hz, q1 hx, fun hy => q2 hx hy⟩
def rIxN (K : PySem.W.Frag) : R2 := fun x y H Q => ∃ p xs k v, x = .ref p ∧ y = .int (k : Nat) ∧ SqL K H p xs ∧ xs[k]? = some v ∧ Q v H
theorem get_list : PGet X (rIxN X.K) := by
  intro pins s σ H o i ov iv Q I ro ri h
  obtain ⟨p, xs, k, v, rfl, rfl, hq, he, q⟩ := h
  cases ro
  obtain ⟨t, rfl⟩ := ri
  obtain ⟨its, r, pl, hz⟩ := I.list hq
  obtain ⟨w, ew, rw'⟩ := r.get he
  have hk : k < xs.length := (List.getElem?_eq_some_iff.mp he).1
  have hn := line63
  exact wpAny_getItem_list pl.isList (by omega) (by omega) (by simpa using ew) ⟨v, H, I, rw', q⟩
end
end L2
namespace Hw
open PySem L2
theorem new {H : Hp} {p : Addr} {o : HO} (h : H p = none) : Same H (upd H p o) := fun b u e => by rw [upd_ne (ne_of_none e h)]; exact e
def But (d : Addr) (H H' : Hp) : Prop := ∀ b o, H b = some o → b ≠ d → H' b = some o
theorem But.of {d : Addr} {H H' : Hp} (h : Same H H') : But d H H' := fun b o e _ => h b o e
theorem But.trans {d : Addr} {H H1 H2 : Hp} (a : But d H H1) (b : But d H1 H2) : But d H H2 := fun c o e n => b c o (a c o e n) n
theorem But.upd {d : Addr} {H : Hp} {o : HO} : But d H (L2.upd H d o) := fun b u e n => by rw [upd_ne n]; exact e
theorem But.new {d : Addr} {H H1 : Hp} {p : Addr} {o : HO} (a : But d H H1) (h : H1 p = none) : But d H (L2.upd H1 p o) := fun b u e n => Hw.new h b u (a b u e n)
theorem Same.new {H H1 : Hp} {p : Addr} {o : HO} (a : Same H H1) (h : H1 p = none) : Same H (L2.upd H1 p o) := a.trans (Hw.new h)
theorem But.same {d : Addr} {H H1 : Hp} (a : But d H H1) (h : H d = none) : Same H H1 := fun b u e => a b u e (ne_of_none e h)
def Pr (H : Hp) (v : V) (p : Str × Int) : Prop := ∃ a, v = .ref a ∧ H a = some (.tup [.str p.1, .int p.2])
abbrev Prs (H : Hp) : List V → Ps → Prop := Paired (Pr H)
theorem Pr.keep {H H' : Hp} {v : V} {p : Str × Int} (h : ∀ a xs, H a = some (.tup xs) → H' a = some (.tup xs)) (x : Pr H v p) : Pr H' v p := let ⟨a, e, q⟩ := x; ⟨a, e, h _ _ q⟩
theorem Prs.keep {H H' : Hp} {vs : List V} {ps : Ps} (h : ∀ a xs, H a = some (.tup xs) → H' a = some (.tup xs)) (x : Prs H vs ps) : Prs H' vs ps := L2.Paired.mapP x fun _ _ q => q.keep h
def Lp (H : Hp) (a : Addr) (ps : Ps) : Prop := ∃ vs, H a = some (.lst vs) ∧ Prs H vs ps
def Tp (H : Hp) (a : Addr) (ps : Ps) : Prop := ∃ vs, H a = some (.tup vs) ∧ Prs H vs ps
theorem Lp.same {H H' : Hp} {a : Addr} {ps : Ps} (h : Lp H a ps) (s : Same H H') : Lp H' a ps := let ⟨vs, e, q⟩ := h; ⟨vs, s _ _ e, q.keep fun _ _ z => s _ _ z⟩
theorem Tp.same {H H' : Hp} {a : Addr} {ps : Ps} (h : Tp H a ps) (s : Same H H') : Tp H' a ps := let ⟨vs, e, q⟩ := h; ⟨vs, s _ _ e, q.keep fun _ _ z => s _ _ z⟩
theorem But.tups {d : Addr} {H H' : Hp} (b : But d H H') {xs : List V} (hd : H d = some (.lst xs)) : ∀ a ys, H a = some (.tup ys) → H' a = some (.tup ys) := fun a ys e => b a _ e fun z => by rw [z, hd] at e; cases e
theorem prs_at {H : Hp} : ∀ {vs : List V} {ps : Ps}, Prs H vs ps → ∀ {i : Nat} {v : V}, vs[i]? = some v → ∃ p, ps[i]? = some p ∧ Pr H v p
  | _, _, .nil, _, _, e => by simp at e
  | _, _, .cons r t, 0, _, e => by simp at e; subst e; exact ⟨_, rfl, r⟩
  | _, _, .cons r t, i + 1, _, e => prs_at t (i := i) (by simpa using e)
theorem prs_len {H : Hp} {vs : List V} {ps : Ps} (h : Prs H vs ps) : vs.length = ps.length := Paired.length h
theorem prs_app {H : Hp} : ∀ {vs ws : List V} {ps qs : Ps}, Prs H vs ps → Prs H ws qs → Prs H (vs ++ ws) (ps ++ qs)
  | _, _, _, _, .nil, s => s
  | _, _, _, _, .cons r t, s => .cons r (prs_app t s)
theorem prs_one {H : Hp} {v : V} {p : Str × Int} (h : Pr H v p) : Prs H [v] [p] := .cons h .nil
theorem like_flat {K : PySem.W.Frag} {H : Hp} {n : Nat} : ∀ {vs : List V}, vs.all flatV = true → Paired (Like K H n) vs vs
  | [], _ => .nil
  | x :: r, h => by
    rw [List.all_cons, Bool.and_eq_true] at h
    refine .cons ?_ (like_flat h.2)
    cases n with
    | zero => exact ⟨h.1, rfl⟩
    | succ n => exact .inl ⟨h.1, rfl⟩
def enc (d : Ps) : List (Key × V) := d.map fun p => (Sum.inr p.1, V.int p.2)
theorem enc_keys (d : Ps) : (enc d).map (·.1) = List.map (Sum.inr : Str → Key) (keys d) := by
  unfold enc keys
  rw [List.map_map, List.map_map]; rfl
theorem enc_len (d : Ps) : (enc d).length = d.length := List.length_map ..
theorem enc_val (t : Str) : ∀ d : Ps, valV (enc d) (Sum.inr t) = if t ∈ keys d then some (V.int (get d t)) else none
  | [] => by simp [enc, valV, keys]
  | p :: r => by
    have ih := enc_val t r
    show valV ((Sum.inr p.1, V.int p.2) :: enc r) (Sum.inr t) = _
    by_cases e : p.1 = t
    · rw [valV_pos (by simp [e]), get_cons, if_pos e, if_pos (by simp [keys, e])]
    · have e' : ¬ t = p.1 := fun z => e z.symm
      have hk : t ∈ keys (p :: r) ↔ t ∈ keys r := by
        unfold keys
        rw [List.map_cons, List.mem_cons]
        exact ⟨fun h => h.resolve_left e', .inr⟩
      rw [valV_neg (by simpa using e), ih, get_cons, if_neg e]
      simp only [hk]
theorem enc_getD (d : Ps) (t : Str) : (valV (enc d) (Sum.inr t)).getD (V.int 0) = V.int (get d t) := by
  rw [enc_val]
  by_cases h : t ∈ keys d
  · rw [if_pos h]; rfl
  · rw [if_neg h, get_no h]; rfl
theorem enc_any (d : Ps) (t : Str) : ((enc d).any fun kv => decide (kv.1 = (Sum.inr t : Key))) = d.any fun p => decide (p.1 = t) := by
  unfold enc
  rw [List.any_map]
  congr 1
  funext p
  simp
theorem enc_put (d : Ps) (t : Str) (n : Int) : putK (enc d) (Sum.inr t) (V.int n) = enc (put d t n) := by
  unfold putK put
  rw [enc_any]
  split
  · unfold enc
    rw [List.map_map, List.map_map]
    refine List.map_congr_left fun p _ => ?_
    by_cases e : p.1 = t
    · simp [e]
    · simp [e]
  · unfold enc
    rw [List.map_append]; rfl
def sflds (t : Addr) (n : Int) : List (Str × V) := putF "number" (.int n) (putF "terms" (.ref t) [])
theorem nt : ¬ (("number" : Str) = "terms") := by decide +kernel
theorem tn : ¬ (("terms" : Str) = "number") := by decide +kernel
theorem sflds_terms (t : Addr) (n : Int) : (sflds t n).lookup ("terms" : Str) = some (.ref t) := by
  unfold sflds
  rw [lookup_putF, if_neg tn, lookup_putF, if_pos rfl]
theorem sflds_number (t : Addr) (n : Int) : (sflds t n).lookup ("number" : Str) = some (.int n) := by
  unfold sflds
  rw [lookup_putF, if_pos rfl]
theorem sflds_no (t : Addr) (n : Int) {m : Str} (h1 : ¬ m = "terms") (h2 : ¬ m = "number") : (sflds t n).lookup m = none := by
  unfold sflds
  rw [lookup_putF, if_neg h2, lookup_putF, if_neg h1]
  all_goals rfl
def SumAt (C : Addr) (H : Hp) (p : Addr) (ts : Ps) (n : Int) : Prop := ∃ dx t, H p = some (.ins C dx (sflds t n)) ∧ Tp H t ts ∧ ts.length ≤ 1000
theorem SumAt.same {C : Addr} {H H' : Hp} {p : Addr} {ts : Ps} {n : Int} (h : SumAt C H p ts n) (s : Same H H') : SumAt C H' p ts n := let ⟨dx, t, e, q, z⟩ := h; ⟨dx, t, s _ _ e, q.same s, z⟩
end Hw
namespace Hw
open PySem L2
def Dn (P : Program) (w : World) (K : PySem.W.Frag) (mg : Str → Option Value) (base : Heap) (k : Nat) (x : Str) (ps : List Str) (sp : Sp) : Prop :=
  ∃ (f : Addr) (fd : FuncData), FnOk P w K mg base CX0 k f fd ps sp ∧ mg x = some (.ref f) ∧ PySem.W.keepIn K (.ref f) = true ∧ Binds K fd ps []
def Mt (P : Program) (w : World) (K : PySem.W.Frag) (mg : Str → Option Value) (base : Heap) (k : Nat) (C : Addr) (m : Str) (ps : List Str) (sp : Sp) : Prop :=
  ∃ (f : Addr) (fd : FuncData), FnOk P w K mg base CX0 k f fd ps sp ∧ Meth K C m f ∧ Binds K fd ps []
def Mr (P : Program) (w : World) (K : PySem.W.Frag) (mg : Str → Option Value) (base : Heap) (k : Nat) (C : Addr) (ps : List Str) (sp : Sp) : Prop :=
  ∃ (f : Addr) (fd : FuncData), FnOk P w K mg base CX0 k f fd ps sp ∧ Mk K C f ∧ Binds K fd ps []
structure Txt (K : PySem.W.Frag) (mg : Str → Option Value) (C : Addr) : Prop where
  cl : Cls K C
  nT : NoAttr K C "terms"
  nN : NoAttr K C "number"
  mg_Sum : mg "Sum" = some (.ref C)
  len : mg "len" = none
  sum : mg "sum" = none
  sorted : mg "sorted" = none
  list : mg "list" = none
  tuple : mg "tuple" = none
  isinstance : mg "isinstance" = none
  range : mg "range" = none
  abs : mg "abs" = none
  str : mg "str" = none
  int : mg "int" = none
  dict : mg "dict" = none
  ca : PySem.W.findIn K (.ref C) "__class__" = some (some (.builtin "object.__class__"))
  cg : PySem.W.specialIn K (.builtin "object.__class__") "__get__" = some (some (.builtin "getset_descriptor.__get__"))
  ct : PySem.W.takesIn K (.builtin "object.__class__") = some true
  cm : PySem.W.mroIn K C (.type "object") = some true
  kS : PySem.W.kitOne K (.ref C) (.ref C) = some true
  kT : PySem.W.kitOne K (.type "tuple") (.type "tuple") = some true
theorem Txt.ins {K : PySem.W.Frag} {mg : Str → Option Value} {C : Addr} (T : Txt K mg C) {H : Hp} {a dx : Addr} {fs : List (Str × V)} (e : H a = some (.ins C dx fs)) : TyOf K H (.ref a) (.ref C) := .ins e T.cl T.ca T.cg T.ct T.cm
def Sq (H : Hp) (a : Addr) (ps : Ps) : Prop := Lp H a ps ∨ Tp H a ps
theorem Sq.same {H H' : Hp} {a : Addr} {ps : Ps} (h : Sq H a ps) (s : Same H H') : Sq H' a ps := h.elim (fun z => .inl (z.same s)) fun z => .inr (z.same s)
def spInit (C : Addr) : Sp := fun vs H Q _ => ∃ (p dx l : Addr) (n : Int) (ps : Ps), vs = [.ref p, .ref l, .int n] ∧ H p = some (.ins C dx []) ∧ Sq H l ps ∧ ps.length ≤ 1000 ∧
  ∀ H', But p H H' → SumAt C H' p ps n → Q .non H'
def spSumOf (C : Addr) : Sp := fun vs H Q _ => ∃ (a : Addr) (n : Int) (ps : Ps), vs = [.ref a, .int n] ∧ Sq H a ps ∧ ps.length < 64 ∧
  ∀ (r : Addr) (ts : Ps) (H' : Hp), Same H H' → Gat ps ts → ts.length ≤ ps.length → SumAt C H' r ts n → Q (.ref r) H'
def spPlus (C : Addr) : Sp := fun vs H Q _ => ∃ (p q : Addr) (a b : Ps) (n m : Int), vs = [.ref p, .ref q] ∧ SumAt C H p a n ∧ SumAt C H q b m ∧ a.length + b.length < 64 ∧
  ∀ (r : Addr) (ts : Ps) (H' : Hp), Same H H' → Gat (a ++ b) ts → ts.length ≤ a.length + b.length → SumAt C H' r ts (n + m) → Q (.ref r) H'
def spTimes (C : Addr) : Sp := fun vs H Q _ => ∃ (p : Addr) (a : Ps) (n k : Int), vs = [.ref p, .int k] ∧ SumAt C H p a n ∧ a.length < 64 ∧ (-(2 ^ 64) < k ∧ k < 2 ^ 64) ∧
  ∀ (r : Addr) (ts : Ps) (H' : Hp), Same H H' → Gat (a.map fun p => (p.1, p.2 * k)) ts → ts.length ≤ a.length → SumAt C H' r ts (n * k) → Q (.ref r) H'
def spLess (C : Addr) : Sp := fun vs H Q _ => ∃ (p q : Addr) (a b : Ps) (n m : Int), vs = [.ref p, .ref q] ∧ SumAt C H p a n ∧ SumAt C H q b m ∧ a.length + b.length < 64 ∧
  ∀ (r : Addr) (ts : Ps) (H' : Hp), Same H H' → Gat (a ++ b.map fun p => (p.1, -p.2)) ts → ts.length ≤ a.length + b.length → SumAt C H' r ts (n - m) → Q (.ref r) H'
end Hw
namespace Hw
open PySem L2
structure Kp (H H' : Hp) : Prop where
  l : ∀ b xs, H b = some (.lst xs) → H' b = some (.lst xs)
  t : ∀ b xs, H b = some (.tup xs) → H' b = some (.tup xs)
theorem Kp.refl {H : Hp} : Kp H H := ⟨fun _ _ h => h, fun _ _ h => h⟩
theorem Kp.of {H H' : Hp} (s : Same H H') : Kp H H' := ⟨fun _ _ h => s _ _ h, fun _ _ h => s _ _ h⟩
theorem Kp.but {d : Addr} {H H' : Hp} (s : But d H H') (hl : ∀ xs, H d ≠ some (.lst xs)) (ht : ∀ xs, H d ≠ some (.tup xs)) : Kp H H' :=
  ⟨fun b xs h => s b _ h fun z => hl xs (z ▸ h), fun b xs h => s b _ h fun z => ht xs (z ▸ h)⟩
theorem take_snoc {α : Type} {l : List α} {i : Nat} {x : α} (h : l[i]? = some x) : l.take (i + 1) = l.take i ++ [x] := by
  rw [List.take_add_one, h]; rfl
theorem get_some {H : Hp} {vs : List V} {ps : Ps} (r : Prs H vs ps) {i : Nat} {v : V} (h : vs[i]? = some v) : ∃ p, ps[i]? = some p ∧ Pr H v p := prs_at r h
theorem comp_tp {K : PySem.W.Frag} {a : Addr} {ps : Ps} {g : TG} {tt : TT} {te : TE} {σ0 : St} {H : Hp} {R : List V → Hp → Prop} (h : Tp H a ps) (Pv : Nat → List V → Hp → Prop) (h0 : Pv 0 [] H) (hS : ∀ i ys H', Pv i ys H' → Kp H H')
    (hs : ∀ i v p ys H', ps[i]? = some p → Pr H' v p → Pv i ys H' → g v σ0 H' fun σ2 H2 => Ext σ0 σ2 ∧ tt σ2 H2 fun b H3 => if b = true then te σ2 H3 fun v H4 => ys.length < sizeLine ∧ Pv (i + 1) (ys ++ [v]) H4 else Pv (i + 1) ys H3)
    (hd : ∀ ys H', Pv ps.length ys H' → R ys H') : (∃ xs, SqT K H a xs) ∧ ∃ W : Nat → Nat → List V → Hp → Prop, (∃ m, W 0 m [] H) ∧ cWalk (Itt K a) g tt te σ0 W R := by
  obtain ⟨vs, e, r⟩ := h
  refine ⟨⟨vs, SqT.of e⟩, comp_tup (xs := vs) Pv h0 (fun i ys H' _ p => SqT.of ((hS i ys H' p).t _ _ e)) (fun i v ys H' hi p => ?_) ?_⟩
  · obtain ⟨q, hq, pr⟩ := get_some r hi
    exact hs i v q ys H' hq (pr.keep (hS i ys H' p).t) p
  · rw [prs_len r]; exact hd
theorem comp_sq {K : PySem.W.Frag} {a : Addr} {ps : Ps} {g : TG} {tt : TT} {te : TE} {σ0 : St} {H : Hp} {R : List V → Hp → Prop} (h : Sq H a ps) (Pv : Nat → List V → Hp → Prop) (h0 : Pv 0 [] H) (hS : ∀ i ys H', Pv i ys H' → Kp H H')
    (hs : ∀ i v p ys H', ps[i]? = some p → Pr H' v p → Pv i ys H' → g v σ0 H' fun σ2 H2 => Ext σ0 σ2 ∧ tt σ2 H2 fun b H3 => if b = true then te σ2 H3 fun v H4 => ys.length < sizeLine ∧ Pv (i + 1) (ys ++ [v]) H4 else Pv (i + 1) ys H3)
    (hd : ∀ ys H', Pv ps.length ys H' → R ys H') : ((∃ xs, SqL K H a xs) ∧ ∃ W : Nat → Nat → List V → Hp → Prop, (∃ m, W 0 m [] H) ∧ cWalk (Itl K a) g tt te σ0 W R) ∨ ((∃ xs, SqT K H a xs) ∧ ∃ W : Nat → Nat → List V → Hp → Prop, (∃ m, W 0 m [] H) ∧ cWalk (Itt K a) g tt te σ0 W R) := by
  rcases h with h | h
  · obtain ⟨vs, e, r⟩ := h
    refine .inl ⟨⟨vs, SqL.of e⟩, comp_list (xs := vs) Pv h0 (fun i ys H' _ p => SqL.of ((hS i ys H' p).l _ _ e)) (fun i v ys H' hi p => ?_) ?_⟩
    · obtain ⟨q, hq, pr⟩ := get_some r hi
      exact hs i v q ys H' hq (pr.keep (hS i ys H' p).t) p
    · rw [prs_len r]; exact hd
  · exact .inr (comp_tp h Pv h0 hS hs hd)
abbrev ForW (J : It) (g : TG) (tb : TS) (D : Ends) (σ : St) (H : Hp) : Prop := ∃ W : Nat → Nat → St → Hp → Prop, (∃ m, W 0 m σ H) ∧ ∀ i m σ H, W i m σ H →
  (J.stop i H ∧ D.nx σ H) ∨ (J.go i H ∧ ∃ N : St → Hp → Prop, (∀ σ' H', N σ' H' → ∃ m', m' < m ∧ W (i + 1) m' σ' H') ∧ ∀ x H', J.yld i H x H' → g x σ H' fun σ2 H2 => tb { D with nx := N, ct := N, bk := D.nx } σ2 H2)
theorem for_sq {K : PySem.W.Frag} {a : Addr} {ps : Ps} {g : TG} {tb : TS} {D : Ends} {σ : St} {H : Hp} (h : Sq H a ps) (Pv : Nat → St → Hp → Prop) (h0 : Pv 0 σ H) (hS : ∀ i σ H', Pv i σ H' → Kp H H')
    (hs : ∀ i v p σ H', ps[i]? = some p → Pr H' v p → Pv i σ H' → g v σ H' fun σ2 H2 => tb { D with nx := Pv (i + 1), ct := Pv (i + 1), bk := D.nx } σ2 H2) (hd : ∀ σ H', Pv ps.length σ H' → D.nx σ H') :
    ((∃ xs, SqL K H a xs) ∧ ForW (Itl K a) g tb D σ H) ∨ ((∃ xs, SqT K H a xs) ∧ ForW (Itt K a) g tb D σ H) := by
  rcases h with ⟨vs, e, r⟩ | ⟨vs, e, r⟩
  · refine .inl ⟨⟨vs, SqL.of e⟩, for_list (xs := vs) Pv h0 (fun i σ H' _ p => SqL.of ((hS i σ H' p).l _ _ e)) (fun i v σ H' hi p => ?_) ?_⟩
    · obtain ⟨q, hq, pr⟩ := get_some r hi
      exact hs i v q σ H' hq (pr.keep (hS i σ H' p).t) p
    · rw [prs_len r]; exact hd
  · refine .inr ⟨⟨vs, SqT.of e⟩, for_tup (xs := vs) Pv h0 (fun i σ H' _ p => SqT.of ((hS i σ H' p).t _ _ e)) (fun i v σ H' hi p => ?_) ?_⟩
    · obtain ⟨q, hq, pr⟩ := get_some r hi
      exact hs i v q σ H' hq (pr.keep (hS i σ H' p).t) p
    · rw [prs_len r]; exact hd
theorem line (n : Nat) (h : n ≤ 100000) : n < sizeLine := by rw [sizeLine_eq]; omega
theorem upd_upd {H : Hp} {d : Addr} {x y : HO} : upd (upd H d x) d y = upd H d y := by
  funext b
  by_cases e : b = d
  · subst e; rw [upd_same, upd_same]
  · rw [upd_ne e, upd_ne e, upd_ne e]
theorem Kp.dict {H : Hp} {d : Addr} {x y : List (Key × V)} : Kp (upd H d (.dK x)) (upd H d (.dK y)) := by
  constructor
  · intro b xs h
    by_cases e : b = d
    · subst e; rw [upd_same] at h; cases h
    · rw [upd_ne e] at h ⊢; exact h
  · intro b xs h
    by_cases e : b = d
    · subst e; rw [upd_same] at h; cases h
    · rw [upd_ne e] at h ⊢; exact h
theorem lin_sum (f : Str → Int) : ∀ ts : Ps, (ts.map fun q => q.2 * f q.1).sum = lin ts f
  | [] => rfl
  | p :: r => by rw [List.map_cons, List.sum_cons, lin_sum f r, lin]
theorem nums_get {H : Hp} {d : Addr} {e : Ps} {t : Str} (h : H d = some (.dK (enc e))) (m : t ∈ keys e) : DGet H d (.str t) (some (.int (get e t))) := by
  have q := DGet.k (k := (Sum.inr t : Key)) h
  rw [enc_val, if_pos m] at q
  exact q
theorem outs_snoc (e : Ps) (ys : List Str) (y : Str) : outs e (ys ++ [y]) = outs e ys ++ if get e y = 0 then [] else [(y, get e y)] := by
  unfold outs
  rw [List.map_append, List.filter_append]
  congr 1
  by_cases h : get e y = 0
  · rw [if_pos h]; simp [h]
  · rw [if_neg h]; simp [h]
theorem outs_len (e : Ps) (ys : List Str) : (outs e ys).length ≤ ys.length := by
  unfold outs
  exact Nat.le_trans (List.length_filter_le _ _) (by rw [List.length_map]; exact Nat.le_refl _)
end Hw
namespace L2
open PySem PySem.Spec PyProof.Rows
section
variable {X : Cx} {K : PySem.W.Frag}
theorem ix_listK (h : X.K = K) : IxR X (rIxL K) := h ▸ ix_list
theorem ix_tupK (h : X.K = K) : IxR X (rIxT K) := h ▸ ix_tup
theorem call_tuple_ofK (h : X.K = K) : CallR X (.type "tuple") (fun xs H Q => ∃ p ys, xs = [.ref p] ∧ ((SqL K H p ys ∧ ∀ l, H l = none → Q (.ref l) (upd H l (.tup ys))) ∨ (SqT K H p ys ∧ Q (.ref p) H))) := h ▸ call_tuple_of
theorem call_len_seqK (h : X.K = K) : CallR X (.builtin "len") (fun xs H Q => ∃ p ys, xs = [.ref p] ∧ (SqL K H p ys ∨ SqT K H p ys) ∧ Q (.int ys.length) H) := h ▸ call_len_seq
theorem op_catUK (h : X.K = K) : OpR X (binaryOp .Add) (rCatU K) := h ▸ op_catU
theorem pe_fldK {e : Expr} {f : Str} {pos : Pos} {ta : TE} (h : X.K = K) (he : PE X e ta) (hb : attributeBase e f X.env (eval e X.env) = eval e X.env) : PE X (.Attribute e f pos) (tFld K ta f) := h ▸ pe_fld he hb
theorem pg_tupK {es : List Expr} {k : Nat} {t : TGs} {n : Nat} {pos : Pos} (hK : X.K = K) (hc : X.calm = true) (h : PGs X es t) (hn : (assignEach es X.env).length = n := by rfl) (hst : (assignEach es X.env).findIdx? (·.1) = none := by rfl) :
    PG X (.Tuple es k pos) (gTup K n t) := hK ▸ pg_tup hc h hn hst
theorem alwT {σ : St} {H : Hp} {F G : Hp → Prop} (h : F H) : tAlways σ H (fun b H3 => if b = true then F H3 else G H3) := by
  show if true = true then F H else G H
  exact iteT h
def strsOf : List Expr → Option (List Str)
  | [] => some []
  | .Constant (.str x) _ _ :: r => (strsOf r).map (x :: ·)
  | _ => none
def tStrs (xs : List Str) : TA := fun _ H Q => Q (xs.map V.str) H
theorem pa_strs : ∀ {es : List Expr} {xs : List Str}, strsOf es = some xs → PA X es (tStrs xs)
  | [], xs, h => by
    cases h
    exact pa_nil
  | e :: r, xs, h => by
    unfold strsOf at h
    split at h
    · rename_i he; cases he
    · rename_i x j pos r' he
      cases he
      cases q : strsOf r with
      | none => rw [q] at h; cases h
      | some ys =>
        rw [q] at h
        cases h
        have ih := pa_strs q
        exact pa_cons pe_str ih rfl
    · cases h
def lstOf : Expr → Option (List Str)
  | .List es _ => strsOf es
  | _ => none
theorem pe_strs {xs : List Str} : ∀ {e : Expr}, lstOf e = some xs → PE X e (tLst (tStrs xs))
  | .List es pos, h => pe_lst (pa_strs h)
theorem sw_strs {xs : List Str} {t : Option Expr} {n : Nat} {env : Env} : ∀ {e : Expr}, lstOf e = some xs → swapsWith e t n env = pure false
  | .List es pos, h => rfl
def asgE (s : Stmt) : Expr := match s with | .Assign _ e _ => e | _ => .Constant .none 0 ⟨0, 0, 0, 0⟩
def retE (s : Stmt) : Expr := match s with | .Return (some e) _ => e | _ => .Constant .none 0 ⟨0, 0, 0, 0⟩
def rightE (s : Expr) : Expr := match s with | .BinOp _ _ e _ => e | _ => .Constant .none 0 ⟨0, 0, 0, 0⟩
end
end L2
namespace Hw
open PySem L2
theorem uL {A : Around} {k n : Nat} (hr : Room k A) (h : n ≤ 60 := by decide) : A.units + 1 + n < cLine := by have := hr.units; omega
theorem uN {A : Around} {k : Nat} (hr : Room k A) : A.units < cLine := by have := hr.units; omega
def Dr (H : Hp) (d : Addr) : Prop := ∃ a b : Int, H d = some (.lst [.int a, .int b])
theorem Dr.same {H H' : Hp} {d : Addr} (h : Dr H d) (s : Same H H') : Dr H' d := let ⟨a, b, e⟩ := h; ⟨a, b, s _ _ e⟩
def spMixed : Sp := fun vs H Q _ => ∃ c k : Int, vs = [.int c, .int k] ∧ ∀ r : Int, 0 ≤ r → r < 2147483399 → Q (.int r) H
def spCell (K : PySem.W.Frag) : Sp := fun vs H Q _ => ∃ (a : Addr) (ns : List Int) (k : Nat), vs = [.ref a, .int k] ∧ SqL K H a (ns.map V.int) ∧ ∀ r : Int, Q (.int r) H
def spNext : Sp := fun vs H Q _ => ∃ (d : Addr) (n : Int), vs = [.ref d, .int n] ∧ Dr H d ∧ 0 < n ∧ ∀ (r : Nat) (H' : Hp), (r : Int) < n → But d H H' → Dr H' d → Q (.int r) H'
def keptA : List Str := ["helper", "answers", "needs", "gives", "end", "let", "div", "mod", "put", "row", "at", "if", "else"]
def keptB : List Str := ["while", "holds", "falls", "call", "claim", "and", "or", "not"]
def keptL : List Str := keptA ++ keptB
def spKept : Sp := fun vs H Q _ => vs = [] ∧ ∀ (l : Addr) (H' : Hp), Same H H' → H l = none → H' l = some (.lst (keptL.map V.str)) → Q (.ref l) H'
def spLaw (K : PySem.W.Frag) : Sp := fun vs H Q _ => ∃ (a : Addr) (ns : List Int), vs = [.ref a] ∧ SqL K H a (ns.map V.int) ∧ ns.length ≤ 63 ∧ ∀ H', Q (.bl true) H'
end Hw
namespace Hw
open PySem L2
theorem kit_ref (K : PySem.W.Frag) (C : Addr) : PySem.W.kitOne K (.ref C) (.ref C) = some true := by
  unfold PySem.W.kitOne
  rw [if_pos (by simp)]
theorem kit_tup (K : PySem.W.Frag) : PySem.W.kitOne K (.type "tuple") (.type "tuple") = some true := by
  unfold PySem.W.kitOne
  rw [if_pos (by simp)]
end Hw
namespace L2
open PySem PySem.Spec PyProof.Rows
section
variable {X : Cx} {K : PySem.W.Frag}
def rSlS : V → Option Int → Option Int → Hp → VK → Prop := fun x lo hi H Q => ∃ z, x = .str z ∧ z.length ≤ sizeLine ∧ Q (.str (Txt.slice z lo hi)) H
theorem sl_str : SlR X rSlS := by
  intro pins s σ H x v vl vu lo hi sl Q I rx hs pl pu h
  obtain ⟨z, rfl, hz, q⟩ := h
  obtain ⟨t, rfl⟩ := rx
  have fin : (Txt.slice z lo hi).length ≤ sizeLine ∧ ∀ t' k, EP X pins σ Q (.str (Txt.slice z lo hi) t') { s with toks := k } := ⟨Nat.le_trans (Txt.slice_le z _ _) hz, fun t' k => ⟨.str _, H, I.tok _, ⟨_, rfl⟩, q⟩⟩
  refine ⟨"str", _, PySem.F.slot_str_getitem.lookup, typeIs_str _ _ _, ?_⟩
  cases pl with
  | none => cases pu with
    | none => exact wpAny_getItem_str_slice (l := none) (u := none) (st := none) hs rfl (post_val_or_str fin)
    | int j t' => exact wpAny_getItem_str_slice (l := none) (u := some (j, t')) (st := none) hs rfl (post_val_or_str fin)
  | int i ti => cases pu with
    | none => exact wpAny_getItem_str_slice (l := some (i, ti)) (u := none) (st := none) hs rfl (post_val_or_str fin)
    | int j t' => exact wpAny_getItem_str_slice (l := some (i, ti)) (u := some (j, t')) (st := none) hs rfl (post_val_or_str fin)
end
end L2
namespace HT
open PySem PySem.Spec PyProof.Rows
section
variable {prog : Program} {w : World} {A : Around} {E : Value → Shared → Prop} {s : Shared}
end
end HT
namespace L2
open PySem PySem.Spec PyProof.Rows
section
variable {X : Cx} {K : PySem.W.Frag}
theorem vals_rev : ∀ {xs : List V} {us : List Value}, Vals xs us → Vals xs.reverse us.reverse
  | _, _, .nil => .nil
  | _, _, .cons r t => by
    rw [List.reverse_cons, List.reverse_cons]
    exact (vals_rev t).append (.cons r .nil)
end
end L2
namespace L2
open PySem PySem.Spec PyProof.Rows
section
variable {X : Cx} {K : PySem.W.Frag}
variable {o e : Expr} {to : TE} {apos cpos : Pos}
theorem extend_tup (l b : Addr) (xs ys : Array Value) (n m : Nat) (dd : Option Addr) (sl : Array (Option Value)) (h0 : ¬ (!xs.isEmpty && Builtin.List.listTooLong (xs.size + ys.size)) = true) (h1 : xs.size ≤ sizeLine) (h2 : xs.size + ys.size ≤ sizeLine + 1) :
    Meets (Builtin.«list.extend» ⟨[.ref l, .ref b], []⟩) (fun _ R s => s.heap.get? l = some ⟨.type "list", none, .seq xs n, #[]⟩ ∧ s.heap.get? b = some ⟨.type "tuple", dd, .seq ys m, sl⟩ ∧
      R (.ok (.ret Value.none)) { s with heap := s.heap.update l (Obj.mapSeq fun x => x ++ ys), toks := s.toks }) :=
  .of_wp fun prog w A R s h => by
    obtain ⟨hp, g, d, tk, os⟩ := s
    obtain ⟨hl, hb, h⟩ := h
    have q1 := PySem.AutoSeq1.idx_int
    have q2 := PySem.AutoSeq1.sub_tuple_tuple
    have q3 := PySem.AutoSeq1.sub_list_list
    have q4 := PySem.AutoSeq1.sub_tuple_list
    have q5 := PySem.AutoSeq1.sub_list_tuple
    have z : (xs ++ ys).size ≤ sizeLine + 1 := by
      rw [Array.size_append]
      exact h2
    wp_walk using (wpAny_updateSeq hl rfl (hz := h1) (_hz' := z)), PySem.AutoSeq1.wpAny_loadPart' hl, PySem.AutoSeq1.wpAny_loadPart' hb
    exact ⟨_, rfl, h⟩
def rExtendT (K : PySem.W.Frag) : V → List V → Hp → VK → Prop := fun x vs H Q => ∃ l b xs zs, x = .ref l ∧ vs = [.ref b] ∧ H l = some (.lst xs) ∧ SqT K H b zs ∧ xs.length + zs.length ≤ sizeLine ∧ Q .non (upd H l (.lst (xs ++ zs)))
theorem mt_extendT : MtM X "list.extend" (rExtendT X.K) := by
  intro pins s σ H x vs v us Q I rx rv h
  obtain ⟨l, b, xs, zs, rfl, rfl, hH, hB, hz, q⟩ := h
  cases rx
  obtain ⟨u, rfl, ru⟩ := rv.one
  cases ru
  obtain ⟨z, its, n, r, hl, e⟩ := I.lstM hH
  obtain ⟨its2, r2, p2, z2⟩ := I.tuple hB
  have hl2 := r2.length
  have hsz : its.toArray.size + its2.toArray.size ≤ sizeLine := by rw [List.size_toArray, List.size_toArray]; omega
  have hlong : ¬ (!its.toArray.isEmpty && Builtin.List.listTooLong (its.toArray.size + its2.toArray.size)) = true := by
    rw [notLongL hsz, Bool.and_false]
    exact Bool.false_ne_true
  have go : ∀ n2 dd sl, s.heap.get? b = some { cls := .type "tuple", dict := dd, data := .seq its2.toArray n2, slots := sl } → wpAny (model X.prog X.w) X.A (call (.builtin "list.extend") [.ref l, .ref b]) (EP X pins σ Q) X.xe s := fun n2 dd sl e2 => by
    refine call_meets F.slot_list_extend ⟨_, e, rfl⟩ F.entry_list_extend (F.args_list_extend_2 _ _)
      (extend_tup l b its.toArray its2.toArray n n2 dd sl hlong (by rw [List.size_toArray]; omega) (by omega)) ⟨e, e2, ?_⟩
    refine ⟨.non, _, I.lset (its' := its ++ its2) hH e (by simp) (r.append r2) ?_, rfl, q⟩
    rw [List.length_append]
    omega
  obtain ⟨⟨cls, dd, data, sl⟩, ho, hc, n2, hd⟩ := id p2
  simp only at hc hd
  subst hc hd
  exact go n2 dd sl ho
end
end L2
namespace L2
open PySem PySem.Spec PyProof.Rows
section
variable {X : Cx} {e : Expr} {te : TE}
end
end L2
namespace Hw
open PySem L2
def abc : Str := "abcdefghijklmnopqrstuvwxyz"
theorem abc_cps : abc.cps.toList = (List.range 26).map (97 + ·) := by decide +kernel
theorem abc_len : abc.length ≤ sizeLine := Nat.le_of_lt (line _ (by decide +kernel))
theorem abc_at {r : Nat} (h : r < 26) : atI abc.cps.toList (r : Int) = some (97 + r) := atI_nat (by rw [abc_cps, List.getElem?_map, List.getElem?_range h]; rfl)
theorem abc_mod (i : Int) : atI abc.cps.toList (i % 26) = some (97 + (i % 26).toNat) := by
  have h0 := Int.emod_nonneg i (show (26 : Int) ≠ 0 by decide)
  have h1 := Int.emod_lt_of_pos i (show (0 : Int) < 26 by decide)
  have e : i % 26 = ((i % 26).toNat : Int) := (Int.toNat_of_nonneg h0).symm
  have := abc_at (r := (i % 26).toNat) (by omega)
  rw [← e] at this
  exact this
def keptH : List Str := ["lets", "ifs", "order", "rows", "att", "notes", "calls", "ends", "outlet", "bend", "motor", "modes"]
theorem keptH_len : keptH.length = 12 := rfl
theorem keptH_small : ∀ x ∈ keptH, x.length ≤ 8 := by decide +kernel
theorem keptH_mod (i : Int) : ∃ x, x ∈ keptH ∧ atI (keptH.map V.str) (i % 12) = some (V.str x) := by
  have h0 := Int.emod_nonneg i (show (12 : Int) ≠ 0 by decide)
  have h1 := Int.emod_lt_of_pos i (show (0 : Int) < 12 by decide)
  have e : i % 12 = ((i % 12).toNat : Int) := (Int.toNat_of_nonneg h0).symm
  have hl : (i % 12).toNat < keptH.length := by rw [keptH_len]; omega
  refine ⟨keptH[(i % 12).toNat], List.getElem_mem hl, ?_⟩
  have := atI_nat (xs := keptH.map V.str) (j := (i % 12).toNat) (v := V.str keptH[(i % 12).toNat]) (by rw [List.getElem?_map, List.getElem?_eq_getElem hl]; rfl)
  rw [← e] at this
  exact this
abbrev chr1 (c : Nat) : Str := ⟨#[c]⟩
def zw (a b : Nat) : Str := (("z" : Str) ++ chr1 a) ++ chr1 b
theorem app_cps (a b : Str) : (a ++ b).cps.toList = a.cps.toList ++ b.cps.toList := PySem.W.KT.app_list a b
theorem app_len (a b : Str) : (a ++ b).length = a.length + b.length := by
  have h : ∀ x : Str, x.length = x.cps.toList.length := fun x => by simp [Str.length]
  rw [h, h, h, app_cps, List.length_append]
theorem zw_cps (a b : Nat) : (zw a b).cps.toList = [122, a, b] := by
  unfold zw
  rw [app_cps, app_cps]
  rfl
theorem zw_len (a b : Nat) : (zw a b).length = 3 := by
  unfold zw
  rw [app_len, app_len]
  rfl
theorem kept_noz : ∀ x ∈ keptL, x.cps.toList.head? ≠ some 122 := by decide +kernel
theorem zw_notKept (a b : Nat) : zw a b ∉ keptL := fun h => kept_noz _ h (by rw [zw_cps]; rfl)
def zt (k : Int) (t : Nat) : Str := zw (97 + ((t : Int) % 26).toNat) (97 + ((k + t) % 26).toNat)
theorem zt_inj {k : Int} {s t : Nat} (hs : s < 26) (ht : t < 26) (h : zt k s = zt k t) : s = t := by
  have e : (zt k s).cps.toList = (zt k t).cps.toList := by rw [h]
  unfold zt at e
  rw [zw_cps, zw_cps] at e
  have := (List.cons.inj (List.cons.inj e).2).1
  omega
theorem pigeon : ∀ (n : Nat) (f : Nat → Str) (xs : List Str), (∀ s, s < n → f s ∈ xs) → (∀ s t, s < n → t < n → f s = f t → s = t) → n ≤ xs.length
  | 0, _, _, _, _ => Nat.zero_le _
  | n + 1, f, xs, h, inj => by
    have m := h n (Nat.lt_succ_self n)
    have ih := pigeon n f (xs.erase (f n)) (fun s hs => by
      have ne : f s ≠ f n := fun e => Nat.ne_of_lt hs (inj s n (Nat.lt_succ_of_lt hs) (Nat.lt_succ_self n) e)
      exact (List.mem_erase_of_ne ne).mpr (h s (Nat.lt_succ_of_lt hs))) fun s t hs ht => inj s t (Nat.lt_succ_of_lt hs) (Nat.lt_succ_of_lt ht)
    rw [List.length_erase_of_mem m] at ih
    have : 0 < xs.length := List.length_pos_of_mem m
    omega
theorem zt_few {k : Int} {xs : List Str} {n : Nat} (hn : n ≤ 20) (h : ∀ s, s < n → zt k (s + 1) ∈ xs) : n ≤ xs.length :=
  pigeon n (fun s => zt k (s + 1)) xs h fun s t hs ht e => by have := zt_inj (by omega) (by omega) e; omega
theorem inV_str (w : Str) (xs : List Str) : inV (.str w) (xs.map V.str) = decide (w ∈ xs) := by
  unfold inV
  rw [List.any_map]
  by_cases h : w ∈ xs
  · rw [decide_eq_true h, List.any_eq_true]
    exact ⟨w, h, by simp [eqV]⟩
  · rw [decide_eq_false h, List.any_eq_false]
    intro y hy
    simp only [Function.comp, eqV, beq_iff_eq]
    intro e
    exact h (e ▸ hy)
theorem flat_strs (xs : List Str) : (xs.map V.str).all flatV = true := by rw [List.all_map, List.all_eq_true]; intro _ _; rfl
theorem join_len (ss : List Str) (h : ∀ a ∈ ss, a.length = 1) : (Txt.join (Str.ofString "") ss).length = ss.length := PySem.W.KT.join_ones ss h
def MonoT (c : TT) : Prop := ∀ σ H Q Q', (∀ b H1, Q b H1 → Q' b H1) → c σ H Q → c σ H Q'
def MonoE (c : TE) : Prop := ∀ σ H (Q Q' : VK), (∀ b H1, Q b H1 → Q' b H1) → c σ H Q → c σ H Q'
theorem mono_var (i : Nat) : MonoE (tVar i) := fun σ H Q Q' f ⟨v, e, q⟩ => ⟨v, e, f _ _ q⟩
theorem mono_kept {E : XK} : MonoE (tCall spKept [] E tNil) := fun σ H Q Q' f ⟨e, q⟩ => ⟨e, fun l H' a b c => f _ _ (q l H' a b c)⟩
theorem mono_in {K : PySem.W.Frag} {ta tb : TE} (a : MonoE ta) (b : MonoE tb) : MonoT (tTest (tOp (rIn K false) ta tb)) := fun σ H Q Q' f h =>
  a σ H _ _ (fun x H1 q => b σ H1 _ _ (fun y H2 q => let ⟨p, xs, h1, h2, h3, h4, k, h5, h6⟩ := q; ⟨p, xs, h1, h2, h3, h4, k, h5, f _ _ h6⟩) q) h
theorem mono_or {t u : TT} (a : MonoT t) (b : MonoT u) : MonoT (tOr t u) := fun σ H Q Q' f h =>
  a σ H _ _ (fun c H1 q => by
    cases c with
    | true => exact iteT (f _ _ (by simpa using q))
    | false => exact iteF (b σ H1 Q Q' f (by simpa using q))) h
def But2 (a b : Addr) (H H' : Hp) : Prop := ∀ c o, H c = some o → c ≠ a → c ≠ b → H' c = some o
theorem ixN_nat {n k : Nat} (h : k < n) : ixN n (k : Int) = some k := by
  unfold ixN
  rw [if_pos (by omega), if_pos (by omega)]
  simp
theorem sum_ones : ∀ ss : List Str, (∀ a ∈ ss, a.length = 1) → (ss.map (·.length)).sum = ss.length
  | [], _ => rfl
  | a :: r, h => by
    rw [List.map_cons, List.sum_cons, sum_ones r fun b hb => h b (List.mem_cons_of_mem _ hb), List.length_cons, h a (List.mem_cons_self ..)]
    omega
theorem But.free {d l : Addr} {H H' : Hp} (b : But d H H') (h : H' l = none) (n : l ≠ d) : H l = none := by
  cases q : H l with
  | none => rfl
  | some o => rw [b l o q n] at h; cases h
theorem Dr.ne {H : Hp} {d l : Addr} (h : Dr H d) (n : H l = none) : l ≠ d := let ⟨_, _, e⟩ := h; (ne_of_none e n).symm
def mu12 : St → Hp → Nat := fun σ _ => match (σ[12]? : Option (Option V)) with
  | some (some (V.int t)) => 20 - t.toNat
  | _ => 0
end Hw
namespace Hw
open PySem L2
end Hw
namespace Hw
open PySem L2
def Small (i : Int) : Prop := -(2 ^ 60) < i ∧ i < 2 ^ 60
theorem Small.w {i : Int} (h : Small i) : -(2 ^ 64) < i ∧ i < 2 ^ 64 := ⟨by have := h.1; omega, by have := h.2; omega⟩
end Hw
namespace Hw
open PySem L2
section
variable {C : Addr} {H H' : Hp} {tl pq q0 q1 hq du u0 u1 sl sa sb : Addr} {xs : List Str} {ps0 t0 t1 : Ps} {h0 h1 : Int}
end
theorem paired_snoc {α β : Type} {F : α → β → Prop} : ∀ {xs : List α} {ys : List β} {a : α} {b : β}, Paired F xs ys → F a b → Paired F (xs ++ [a]) (ys ++ [b])
  | _, _, _, _, .nil, h => .cons h .nil
  | _, _, _, _, .cons r t, h => .cons r (paired_snoc t h)
theorem Gat.keys {ps ts : Ps} (g : Gat ps ts) {t : Str} (h : t ∈ keys ts) : t ∈ keys ps := by
  obtain ⟨p, hp, rfl⟩ := List.mem_map.mp h
  have e : lin ts (ind p.1) = p.2 := by
    have up := g.1.up
    have nz := g.1.nz
    clear g h
    induction ts with
    | nil => cases hp
    | cons q r ih =>
      rcases List.mem_cons.mp hp with z | z
      · subst z
        exact Canon.head ⟨up, nz⟩
      · have l : lt q.1 p.1 = true := (List.pairwise_cons.mp up).1 p z
        rw [lin, ih z (List.pairwise_cons.mp up).2 fun s hs => nz s (List.mem_cons_of_mem _ hs)]
        simp [ind, lt_ne l]
  refine Classical.byContradiction fun n => ?_
  have z : lin ps (ind p.1) = 0 := lin_none fun q hq e' => n (by rw [← e']; exact List.mem_map.mpr ⟨q, hq, rfl⟩)
  rw [g.2] at e
  rw [z] at e
  exact g.1.nz p hp e.symm
end Hw
namespace Hw
open PySem L2
theorem paired_at {α β : Type} {F : α → β → Prop} : ∀ {vs : List α} {ps : List β}, Paired F vs ps → ∀ {i : Nat} {v : α}, vs[i]? = some v → ∃ p, ps[i]? = some p ∧ F v p
  | _, _, .nil, _, _, e => by simp at e
  | _, _, .cons r t, 0, _, e => by simp at e; subst e; exact ⟨_, rfl, r⟩
  | _, _, .cons r t, i + 1, _, e => paired_at t (i := i) (by simpa using e)
theorem kit_str (K : PySem.W.Frag) : PySem.W.kitOne K (.type "str") (.type "str") = some true := by
  unfold PySem.W.kitOne
  rw [if_pos (by simp)]
end Hw
namespace Hw
open PySem L2
abbrev Sb := List (Str × Ps × Int)
def look : Sb → Str → Option (Ps × Int)
  | [], _ => none
  | p :: r, t => if p.1 = t then some p.2 else look r t
def subO (S : Sb) (p : Str × Int) : Ps := match look S p.1 with
  | some q => q.1.map fun x => (x.1, p.2 * x.2)
  | none => [p]
def subM (S : Sb) (p : Str × Int) : Int := match look S p.1 with
  | some q => p.2 * q.2
  | none => 0
def subP (S : Sb) (ts : Ps) : Ps := (ts.map (subO S)).flatten
def subN (S : Sb) (ts : Ps) : Int := (ts.map (subM S)).sum
theorem subP_snoc (S : Sb) (ts : Ps) (p : Str × Int) : subP S (ts ++ [p]) = subP S ts ++ subO S p := by unfold subP; simp
theorem subN_snoc (S : Sb) (ts : Ps) (p : Str × Int) : subN S (ts ++ [p]) = subN S ts + subM S p := by unfold subN; simp
theorem lin_lmul (k : Int) : ∀ (a : Ps) (f : Str → Int), lin (a.map fun p => (p.1, k * p.2)) f = k * lin a f
  | [], f => by simp [lin]
  | p :: a, f => by
    simp only [List.map_cons, lin, lin_lmul k a f, Int.mul_add]
    rw [Int.mul_assoc]
theorem look_mem : ∀ {S : Sb} {t : Str} {q : Ps × Int}, look S t = some q → (t, q) ∈ S
  | p :: r, t, q, h => by
    unfold look at h
    split at h
    · rename_i e
      cases h
      rw [← e]
      exact List.mem_cons_self ..
    · exact List.mem_cons_of_mem _ (look_mem h)
def Rl (P : Addr → Ps × Int → Prop) (kvs : List (Key × V)) (S : Sb) : Prop := Paired (fun (kv : Key × V) (s : Str × Ps × Int) => kv.1 = Sum.inr s.1 ∧ ∃ u, kv.2 = V.ref u ∧ P u s.2) kvs S
theorem Rl.mono {P P' : Addr → Ps × Int → Prop} {kvs : List (Key × V)} {S : Sb} (h : Rl P kvs S) (f : ∀ u q, P u q → P' u q) : Rl P' kvs S := L2.Paired.mapP h fun _ _ z => let ⟨a, u, b, c⟩ := z; ⟨a, u, b, f _ _ c⟩
theorem Rl.some {P : Addr → Ps × Int → Prop} {t : Str} {q : Ps × Int} : ∀ {kvs : List (Key × V)} {S : Sb}, Rl P kvs S → look S t = .some q → ∃ u, valV kvs (Sum.inr t) = .some (.ref u) ∧ P u q
  | _, _, .nil, e => by cases e
  | (k, v) :: kvs, s :: S, .cons r h, e => by
    obtain ⟨r1, u, r2, r3⟩ := r
    have r1 : k = Sum.inr s.1 := r1
    have r2 : v = V.ref u := r2
    subst r1 r2
    unfold look at e
    by_cases z : s.1 = t
    · rw [if_pos z] at e
      cases e
      exact ⟨u, valV_pos (by simp [z]), r3⟩
    · rw [if_neg z] at e
      obtain ⟨u', h1, h2⟩ := Rl.some (t := t) (q := q) h e
      exact ⟨u', by rw [valV_neg (by simpa using z)]; exact h1, h2⟩
theorem Rl.none {P : Addr → Ps × Int → Prop} {t : Str} : ∀ {kvs : List (Key × V)} {S : Sb}, Rl P kvs S → look S t = .none → valV kvs (Sum.inr t) = .none
  | _, _, .nil, e => rfl
  | (k, v) :: kvs, s :: S, .cons r h, e => by
    obtain ⟨r1, u, r2, r3⟩ := r
    have r1 : k = Sum.inr s.1 := r1
    subst r1
    unfold look at e
    by_cases z : s.1 = t
    · rw [if_pos z] at e; cases e
    · rw [if_neg z] at e
      rw [valV_neg (by simpa using z)]
      exact Rl.none h e
theorem for_tpT {K : PySem.W.Frag} {a : Addr} {ps : Ps} {g : TG} {tb : TS} {D : Ends} {σ : St} {H : Hp} (h : Tp H a ps) (Pv : Nat → St → Hp → Prop) (h0 : Pv 0 σ H) (hS : ∀ i σ H', Pv i σ H' → ∀ b xs, H b = some (.tup xs) → H' b = some (.tup xs))
    (hs : ∀ i v p σ H', ps[i]? = some p → Pr H' v p → Pv i σ H' → g v σ H' fun σ2 H2 => tb { D with nx := Pv (i + 1), ct := Pv (i + 1), bk := D.nx } σ2 H2) (hd : ∀ σ H', Pv ps.length σ H' → D.nx σ H') :
    (∃ xs, SqT K H a xs) ∧ ForW (Itt K a) g tb D σ H := by
  obtain ⟨vs, e, r⟩ := h
  refine ⟨⟨vs, SqT.of e⟩, for_tup (xs := vs) Pv h0 (fun i σ H' _ p => SqT.of (hS i σ H' p _ _ e)) (fun i v σ H' hi p => ?_) ?_⟩
  · obtain ⟨q, hq, pr⟩ := get_some r hi
    exact hs i v q σ H' hq (pr.keep (hS i σ H' p)) p
  · rw [prs_len r]; exact hd
def SumR (C : Addr) (H : Hp) : Addr → Ps × Int → Prop := fun u q => SumAt C H u q.1 q.2
def Few (S : Sb) : Prop := ∀ s ∈ S, s.2.1.length ≤ 3
def Lt3 (ts : Ps) : Prop := ts.length ≤ 3 ∧ ∀ p ∈ ts, Small p.2
def spPutIn (C : Addr) : Sp := fun vs H Q _ => ∃ (p d : Addr) (ts : Ps) (n : Int) (kvs : List (Key × V)) (S : Sb), vs = [.ref p, .ref d] ∧ SumAt C H p ts n ∧ Rd H d (.dK kvs) ∧ Rl (SumR C H) kvs S ∧ Lt3 ts ∧ Few S ∧
  ∀ (r : Addr) (us : Ps) (H' : Hp), Same H H' → Gat (subP S ts) us → SumAt C H' r us (n + subN S ts) → Q (.ref r) H'
end Hw
namespace Hw
open PySem L2
structure Soft (o : HO) : Prop where
  t : ∀ xs, o ≠ .tup xs
  i : ∀ C dx fs, o ≠ .ins C dx fs
theorem soft_l {xs : List V} : Soft (.lst xs) := ⟨fun _ z => (by cases z), fun _ _ _ z => (by cases z)⟩
theorem soft_d {xs : List (Key × V)} : Soft (.dK xs) := ⟨fun _ z => (by cases z), fun _ _ _ z => (by cases z)⟩
section
variable {H H' : Hp} {z : Addr} {o : HO}
theorem But.tupS (b : But z H H') (hz : H z = some o) (so : Soft o) : ∀ a xs, H a = some (.tup xs) → H' a = some (.tup xs) := fun a xs e => b a _ e fun q => by rw [q, hz] at e; exact so.t xs (Option.some.inj e)
end
section
variable {H0 H H' : Hp} {d tl ro : Addr} {xs : List Str} {t0 : Ps} {n0 : Int}
end
theorem get_app (t : Str) (n : Int) (t' : Str) : ∀ e : Ps, get (e ++ [(t, n)]) t' = if t' ∈ keys e then get e t' else if t = t' then n else 0
  | [] => by
    rw [if_neg (by simp [keys])]
    show get [(t, n)] t' = _
    rw [get_cons]
    rfl
  | p :: r => by
    have ih := get_app t n t' r
    have mk : t' ∈ keys (p :: r) ↔ t' = p.1 ∨ t' ∈ keys r := by unfold keys; rw [List.map_cons, List.mem_cons]
    rw [List.cons_append, get_cons, get_cons, ih]
    by_cases z : p.1 = t'
    · have : t' ∈ keys (p :: r) := mk.mpr (.inl z.symm)
      simp only [z, if_true, this]
    · by_cases m : t' ∈ keys r
      · have : t' ∈ keys (p :: r) := mk.mpr (.inr m)
        simp only [z, if_false, m, if_true, this]
      · have : ¬ t' ∈ keys (p :: r) := fun w => (mk.mp w).elim (fun y => z y.symm) m
        simp only [z, if_false, m, this]
theorem get_put (e : Ps) (t t' : Str) (n : Int) : get (put e t n) t' = if t = t' then n else get e t' := by
  unfold put
  by_cases h : (e.any fun p => decide (p.1 = t)) = true
  · rw [if_pos h]
    by_cases q : t = t'
    · rw [if_pos q]
      subst q
      have m : t ∈ keys e := (any_iff e t).mp h
      clear h
      induction e with
      | nil => simp [keys] at m
      | cons p r ih =>
        rw [List.map_cons, get_cons]
        by_cases z : p.1 = t
        · simp only [z, if_true]
        · simp only [z, if_false]
          exact ih ((List.mem_cons.mp m).resolve_left fun w => z w.symm)
    · rw [if_neg q]
      clear h
      induction e with
      | nil => rfl
      | cons p r ih =>
        rw [List.map_cons, get_cons, get_cons, ih]
        by_cases z : p.1 = t
        · have z' : ¬ p.1 = t' := fun w => q (z.symm.trans w)
          rw [if_pos z]
          show (if p.1 = t' then n else get r t') = _
          rw [if_neg z', if_neg z']
        · rw [if_neg z]
  · rw [if_neg h, get_app]
    have nm : t ∉ keys e := fun m => h ((any_iff e t).mpr m)
    by_cases q : t = t'
    · subst q
      rw [if_neg nm, if_pos rfl, if_pos rfl]
    · by_cases m : t' ∈ keys e
      · rw [if_pos m, if_neg q]
      · rw [if_neg m, if_neg q, if_neg q, get_no m]
end Hw
namespace Hw
open PySem L2
inductive Cd where
  | cmp (a : Ps) (n : Int) (s : Str) (b : Ps) (m : Int)
  | neg (c : Cd)
  | con (k : Bool) (cs : List Cd)
structure Cz where
  s : Addr
  c : Addr
  t : Addr
  e : Addr
  o : Addr
def cflds (u : Addr) (s : Str) (w : Addr) : List (Str × V) := putF "other" (.ref w) (putF "sign" (.str s) (putF "one" (.ref u) []))
structure Hard (H H' : Hp) : Prop where
  t : ∀ a xs, H a = some (.tup xs) → H' a = some (.tup xs)
  i : ∀ a C dx fs, H a = some (.ins C dx fs) → H' a = some (.ins C dx fs)
theorem Hard.of {H H' : Hp} (s : Same H H') : Hard H H' := ⟨fun _ _ e => s _ _ e, fun _ _ _ _ e => s _ _ e⟩
theorem Hard.soft {H H' : Hp} {z : Addr} {o : HO} (b : But z H H') (hz : H z = some o) (so : Soft o) : Hard H H' :=
  ⟨b.tupS hz so, fun a C dx fs e => b _ _ e fun q => by rw [q, hz] at e; exact so.i _ _ _ (Option.some.inj e)⟩
theorem SumAt.hard {H H' : Hp} {C p : Addr} {ts : Ps} {n : Int} (h : SumAt C H p ts n) (k : Hard H H') : SumAt C H' p ts n := let ⟨dx, t, e, ⟨vs, et, r⟩, l⟩ := h; ⟨dx, t, k.i _ _ _ _ e, ⟨vs, k.t _ _ et, r.keep k.t⟩, l⟩
def cmpB (s : Str) (x y : Int) : Bool :=
  if s = "<" then decide (x < y) else if s = "<=" then decide (x ≤ y) else if s = "=" then decide (x = y) else if s = "!=" then !decide (x = y) else if s = ">=" then decide (y ≤ x) else decide (y < x)
def signs : List Str := ["<", "<=", "=", "!=", ">=", ">"]
def oppS (s : Str) : Str := if s = "<" then ">=" else if s = ">=" then "<" else if s = "<=" then ">" else if s = ">" then "<=" else if s = "=" then "!=" else "="
end Hw
namespace Hw
open PySem L2
theorem lk_c1 (u : Addr) (s : Str) (w : Addr) : (cflds u s w).lookup ("one" : Str) = some (.ref u) := by
  unfold cflds; rw [lookup_putF, if_neg (by decide +kernel), lookup_putF, if_neg (by decide +kernel), lookup_putF, if_pos rfl]
theorem lk_c2 (u : Addr) (s : Str) (w : Addr) : (cflds u s w).lookup ("sign" : Str) = some (.str s) := by
  unfold cflds; rw [lookup_putF, if_neg (by decide +kernel), lookup_putF, if_pos rfl]
theorem lk_c3 (u : Addr) (s : Str) (w : Addr) : (cflds u s w).lookup ("other" : Str) = some (.ref w) := by
  unfold cflds; rw [lookup_putF, if_pos rfl]
end Hw
namespace L2
open PySem PySem.Spec PyProof.Rows Hw
section
variable {X : Cx} {k : Nat} {m : Str} {pos apos : Pos} {o e : Expr} {es : List Expr} {ta : TE} {t : TA} {Z : Cz} {ps : List Str} {sp : Nat → Sp}
end
end L2
namespace Hw
open PySem L2
theorem fn_absurd {P : Program} {w : World} {K : PySem.W.Frag} {mg : Str → Option Value} {base : Heap} {k : Nat} {f : Addr} {fd : FuncData} {ps : List Str} {sp : Sp} (h : ∀ vs H Q E, ¬ sp vs H Q E) : FnOk P w K mg base CX0 k f fd ps sp :=
  ⟨fun vs H Q E z => (h vs H Q E z).elim, fun A outer s H args us vs Q E _ _ _ _ z => (h vs H Q E z).elim⟩
def spCInit (Z : Cz) : Sp := fun vs H Q _ => ∃ (p dx u w : Addr) (s : Str), vs = [.ref p, .ref u, .str s, .ref w] ∧ H p = some (.ins Z.c dx []) ∧ ∀ H', But p H H' → H' p = some (.ins Z.c dx (cflds u s w)) → Q .non H'
end Hw
namespace Hw
open PySem L2
theorem paired_len {α β : Type} {R : α → β → Prop} : ∀ {xs : List α} {ys : List β}, Paired R xs ys → xs.length = ys.length
  | _, _, .nil => rfl
  | _, _, .cons _ t => congrArg (· + 1) (paired_len t)
end Hw
namespace L2
open PySem PySem.Spec PyProof.Rows Hw
section
variable {X : Cx} {K : PySem.W.Frag}
theorem call_all (hc : X.calm = true) : CallR X (.builtin "all") (fun xs H Q => ∃ (p : Addr) (bs : List Bool), xs = [.ref p] ∧ SqL X.K H p (bs.map V.bl) ∧ Q (.bl (bs.all id)) H) := by
  intro pins s σ H xs us Q I r h
  obtain ⟨p, bs, rfl, hq, q⟩ := h
  obtain ⟨u, rfl, ru⟩ := vals1 r
  cases ru
  obtain ⟨its, rv, pl, hz⟩ := I.list hq
  have lp : p < s.heap.objs.size := let ⟨o, _, e, _⟩ := pl; Heap.lt_size e
  have hl := rv.length
  rw [List.length_map] at hl
  refine call_all_walk (wpAny_pyIter_list pl.isList ?_)
  have W := Walks.list (prog := X.prog) (w := X.w) (A := X.A.in1) (I.ok.hd hc) s.heap.objs.size p (Nat.ne_of_lt lp) its.toArray
  refine ⟨s.heap.objs.size, _, _, _, _, _, (fun i => (bs[i]?).getD true), rfl, W, ⟨⟨_, Heap.get?_push_size _ rfl, rfl, rfl⟩, pl.isList.at fun o e => Heap.get?_push_of_some _ e⟩, fun i v s' Q' E' hv hQ => ?_, fun h' tk hk => ?_⟩
  · have hv : its.toArray[i]? = some v := hv
    have hv : its[i]? = some v := by simpa using hv
    have hil : i < its.length := (List.getElem?_eq_some_iff.mp hv).1
    obtain ⟨u, hu, ru⟩ := rv.get (i := i) (x := .bl ((bs[i]?).getD true)) (by rw [List.getElem?_map, List.getElem?_eq_getElem (by omega)]; rfl)
    rw [hv] at hu
    cases hu
    cases ru
    exact wpAny_truthy_bool hQ
  · have kp : ∀ b o, s.heap.get? b = some o → h'.get? b = some o := fun b o e =>
      hk b o (fun hI => absurd (Heap.lt_size e) (by rw [List.mem_singleton.mp hI]; exact Nat.lt_irrefl _)) (Heap.get?_push_of_some _ e)
    have e : ((List.range its.toArray.size).all fun i => (bs[i]?).getD true) = bs.all id := by rw [List.size_toArray, ← hl]; exact LSm.range_all bs
    rw [e]
    exact ⟨.bl (bs.all id), H, I.kept (t' := tk) kp, rfl, q⟩
theorem call_any (hc : X.calm = true) : CallR X (.builtin "any") (fun xs H Q => ∃ (p : Addr) (bs : List Bool), xs = [.ref p] ∧ SqL X.K H p (bs.map V.bl) ∧ Q (.bl (bs.any id)) H) := by
  intro pins s σ H xs us Q I r h
  obtain ⟨p, bs, rfl, hq, q⟩ := h
  obtain ⟨u, rfl, ru⟩ := vals1 r
  cases ru
  obtain ⟨its, rv, pl, hz⟩ := I.list hq
  have lp : p < s.heap.objs.size := let ⟨o, _, e, _⟩ := pl; Heap.lt_size e
  have hl := rv.length
  rw [List.length_map] at hl
  refine call_any_walk (wpAny_pyIter_list pl.isList ?_)
  have W := Walks.list (prog := X.prog) (w := X.w) (A := X.A.in1) (I.ok.hd hc) s.heap.objs.size p (Nat.ne_of_lt lp) its.toArray
  refine ⟨s.heap.objs.size, _, _, _, _, _, (fun i => (bs[i]?).getD false), rfl, W, ⟨⟨_, Heap.get?_push_size _ rfl, rfl, rfl⟩, pl.isList.at fun o e => Heap.get?_push_of_some _ e⟩, fun i v s' Q' E' hv hQ => ?_, fun h' tk hk => ?_⟩
  · have hv : its.toArray[i]? = some v := hv
    have hv : its[i]? = some v := by simpa using hv
    have hil : i < its.length := (List.getElem?_eq_some_iff.mp hv).1
    obtain ⟨u, hu, ru⟩ := rv.get (i := i) (x := .bl ((bs[i]?).getD false)) (by rw [List.getElem?_map, List.getElem?_eq_getElem (by omega)]; rfl)
    rw [hv] at hu
    cases hu
    cases ru
    exact wpAny_truthy_bool hQ
  · have kp : ∀ b o, s.heap.get? b = some o → h'.get? b = some o := fun b o e =>
      hk b o (fun hI => absurd (Heap.lt_size e) (by rw [List.mem_singleton.mp hI]; exact Nat.lt_irrefl _)) (Heap.get?_push_of_some _ e)
    have e : ((List.range its.toArray.size).any fun i => (bs[i]?).getD false) = bs.any id := by rw [List.size_toArray, ← hl]; exact LSm.range_any bs
    rw [e]
    exact ⟨.bl (bs.any id), H, I.kept (t' := tk) kp, rfl, q⟩
end
end L2
namespace Hw
open PySem L2
theorem iteDT {p : Prop} [Decidable p] {F G : Prop} (h : p) (f : F) : if decide p = true then F else G := by rw [if_pos (decide_eq_true h)]; exact f
theorem iteDF {p : Prop} [Decidable p] {F G : Prop} (h : ¬ p) (f : G) : if decide p = true then F else G := by rw [if_neg (by simpa using h)]; exact f
theorem str_ne {s t : Str} (h : ¬ s = t) : ¬ V.str s = V.str t := fun e => h (V.str.inj e)
theorem dec_i {i j : Int} : decide (V.int i = V.int j) = decide (i = j) := by
  by_cases h : i = j
  · subst h; simp
  · rw [decide_eq_false h, decide_eq_false fun e => h (V.int.inj e)]
def spCompares : Sp := fun vs H Q _ => ∃ (x y : Int) (s : Str), vs = [.int x, .str s, .int y] ∧ Q (.bl (cmpB s x y)) H
end Hw
namespace Hw
open PySem L2
theorem made_same {H : Hp} {x dx : Addr} {o o' : HO} (hx : H x = none) (hdx : H dx = none) : Same H (upd (upd H dx o) x o') := fun b u z => by
  rw [upd_ne (ne_of_none z hx), upd_ne (ne_of_none z hdx)]
  exact z
end Hw
namespace Hw
open PySem L2
theorem Dr.soft {H H' : Hp} {d : Addr} (h : Dr H d) (b : But d H H') : Hard H H' := let ⟨x, y, e⟩ := h; Hard.soft b e soft_l
end Hw
namespace Hw
open PySem L2
end Hw
namespace Hw
open PySem L2
theorem ifT {b : Bool} {F G : Prop} (h : b = true) (f : F) : if b = true then F else G := by rw [if_pos h]; exact f
theorem ifF {b : Bool} {F G : Prop} (h : b = false) (g : G) : if b = true then F else G := by rw [h]; exact iteF g
end Hw
namespace L2
open PySem PySem.Spec PyProof.Rows Hw
def KDict (P : Program) (w : World) (K : PySem.W.Frag) (D : Addr) (kvs : List (Key × V)) : Prop := ∀ h : Heap, K.In h → ∃ vs, KV kvs vs ∧ h.DictOf (mixKind P w) D vs
def tKGet (kvs : List (Key × V)) (ty : TE) : TE := fun σ H Q => ty σ H fun y H1 => ∃ k v, y = kV k ∧ valV kvs k = some v ∧ Q v H1
section
variable {X : Cx} {x : Str} {D : Addr} {kvs : List (Key × V)} {i : Expr} {ty : TE} {p pos : Pos}
theorem pe_kget (hg : Gl X x) (hm : X.mg x = some (.ref D)) (kd : KDict X.prog X.w X.K D kvs) (hi : PE X i ty) (hs : NoSl i) (hd : (x == ("__debug__" : Str)) = false := by decide) : PE X (.Subscript (.Name x p) i pos) (tKGet kvs ty) := by
  intro pins s σ H Q I h
  refine subD_of PySem.F.slot_dict_getitem.lookup hs (ld_glob I hg hm (thn (hi pins s σ H _ I h) fun iv s2 ⟨y, H2, I2, ry, k, v, ey, hv, q2⟩ => ?_) hd)
  subst ey
  obtain ⟨vs, rel, dd⟩ := kd _ I2.kIn
  obtain ⟨w', hw, rw'⟩ := RelO.some_of (v := v) (o := valueAt vs k) (by rw [← hv]; exact rel.val k)
  exact ⟨dd.typeIs, wpAny_getItem_of (kV_is ry) dd.mapOf hw ⟨v, H2, I2.tok _, rw', q2⟩⟩
end
abbrev Ent := Str × Tok × Str × Tok
def ent (P : Params) (e : Ent) : DictEntry := ⟨PyData.keyHash P e.1, .str e.1 e.2.1, .str e.2.2.1 e.2.2.2⟩
theorem ent_pairs {P : Program} {w : World} : ∀ es : List Ent, Pairs (mixKind P w) (es.map (ent w.params)) (es.map fun e => ((Sum.inr e.1 : Key), Value.str e.2.2.1 e.2.2.2))
  | [] => .nil
  | e :: r => .cons (mixKind_str P w e.1 e.2.1) rfl (ent_pairs r)
theorem ent_kv : ∀ es : List Ent, KV (es.map fun e => ((Sum.inr e.1 : Key), V.str e.2.2.1)) (es.map fun e => ((Sum.inr e.1 : Key), Value.str e.2.2.1 e.2.2.2))
  | [] => .nil
  | e :: r => .cons ⟨rfl, _, rfl⟩ (ent_kv r)
theorem kdict_mk {P : Program} {w : World} {K : PySem.W.Frag} {D : Addr} {ep : Nat} (es : List Ent) (lD : K.lookup D = some ⟨.type "dict", none, .dict (es.map (ent w.params)).toArray ep, #[]⟩) (nd : (es.map fun e => (Sum.inr e.1 : Key)).Nodup) :
    KDict P w K D (es.map fun e => (Sum.inr e.1, V.str e.2.2.1)) := by
  intro h hk
  refine ⟨_, ent_kv es, _, _, ep, hk D _ lD, ⟨rfl, rfl, rfl⟩, rfl, ?_, ?_, ?_⟩
  · intro e he
    have he : e ∈ es.map (ent w.params) := by simpa using he
    obtain ⟨z, _, rfl⟩ := List.mem_map.mp he
    exact ⟨Sum.inr z.1, mixKind_str P w z.1 z.2.1, rfl⟩
  · exact ent_pairs es
  · rw [List.map_map]
    exact nd
end L2
namespace Hw
open PySem L2
def oppT : List (Key × V) := [(Sum.inr "<", .str ">="), (Sum.inr ">=", .str "<"), (Sum.inr "<=", .str ">"), (Sum.inr ">", .str "<="), (Sum.inr "=", .str "!="), (Sum.inr "!=", .str "=")]
def OppD (P : Program) (w : World) (K : PySem.W.Frag) (mg : Str → Option Value) : Prop := ∃ D, mg "OPPOSITE_SIGNS" = some (.ref D) ∧ KDict P w K D oppT
theorem oppT_at {s : Str} (h : s ∈ signs) : valV oppT (Sum.inr s) = some (V.str (oppS s)) := by
  simp only [signs, List.mem_cons, List.not_mem_nil, or_false] at h
  rcases h with h | h | h | h | h | h <;> subst h <;> decide +kernel
theorem oppD_mk {P : Program} {w : World} {K : PySem.W.Frag} {mg : Str → Option Value} {D : Addr} {ep : Nat} {t1 t2 t3 t4 t5 t6 u1 u2 u3 u4 u5 u6 : Tok} (m : mg "OPPOSITE_SIGNS" = some (.ref D))
    (lD : K.lookup D = some ⟨.type "dict", none, .dict #[⟨PyData.keyHash w.params "<", .str "<" t1, .str ">=" u1⟩, ⟨PyData.keyHash w.params ">=", .str ">=" t2, .str "<" u2⟩, ⟨PyData.keyHash w.params "<=", .str "<=" t3, .str ">" u3⟩,
      ⟨PyData.keyHash w.params ">", .str ">" t4, .str "<=" u4⟩, ⟨PyData.keyHash w.params "=", .str "=" t5, .str "!=" u5⟩, ⟨PyData.keyHash w.params "!=", .str "!=" t6, .str "=" u6⟩] ep, #[]⟩) : OppD P w K mg :=
  ⟨D, m, kdict_mk (ep := ep) [("<", t1, ">=", u1), (">=", t2, "<", u2), ("<=", t3, ">", u3), (">", t4, "<=", u4), ("=", t5, "!=", u5), ("!=", t6, "=", u6)] lD (by show ([Sum.inr "<", Sum.inr ">=", Sum.inr "<=", Sum.inr ">", Sum.inr "=", Sum.inr "!="] : List Key).Nodup; decide +kernel)⟩
end Hw
namespace Hw
open PySem L2
end Hw
namespace L2
open PySem PySem.Spec PyProof.Rows Hw
section
variable {X : Cx}
theorem ps_dead {st : Stmt} : PS X st (fun _ _ _ => False) := fun _ _ _ _ _ _ h => h.elim
end
end L2
namespace Hw
open PySem L2
abbrev Cs := List (List (Ps × Int))
def CaseAt (Z : Cz) (H : Hp) (v : V) (c : List (Ps × Int)) : Prop := ∃ r us, v = .ref r ∧ H r = some (.tup us) ∧ Paired (fun u (q : Ps × Int) => ∃ p, u = V.ref p ∧ SumAt Z.s H p q.1 q.2) us c
def CasesAt (Z : Cz) (H : Hp) (r : Addr) (cs : Cs) : Prop := ∃ us, H r = some (.lst us) ∧ Paired (CaseAt Z H) us cs
theorem CaseAt.hard {Z : Cz} {H H' : Hp} {v : V} {c : List (Ps × Int)} (h : CaseAt Z H v c) (k : Hard H H') : CaseAt Z H' v c :=
  let ⟨r, us, e, er, p⟩ := h; ⟨r, us, e, k.t _ _ er, L2.Paired.mapP p fun _ _ ⟨q, e, s⟩ => ⟨q, e, s.hard k⟩⟩
def spRefuse : Sp := fun vs H Q _ => ∃ k : Nat, vs = [.int k] ∧ k ≤ 64 ∧ Q .non H
def spLessOne (C : Addr) : Sp := fun vs H Q _ => ∃ (p : Addr) (a : Ps) (n : Int), vs = [.ref p] ∧ SumAt C H p a n ∧ a.length ≤ 50 ∧
  ∀ (r : Addr) (ts : Ps) (H' : Hp), Same H H' → Gat a ts → SumAt C H' r ts (n - 1) → Q (.ref r) H'
end Hw
namespace Hw
open PySem L2
def bothC (A B : Cs) : Cs := (A.map fun a => B.map (a ++ ·)).flatten
theorem both_len (B : Cs) : ∀ A : Cs, (bothC A B).length = A.length * B.length
  | [] => by show 0 = 0 * B.length; omega
  | a :: r => by
    have e : bothC (a :: r) B = B.map (a ++ ·) ++ bothC r B := rfl
    rw [e, List.length_append, List.length_map, both_len B r, List.length_cons, Nat.succ_mul]
    omega
def spBoth (Z : Cz) : Sp := fun vs H Q _ => ∃ (o u : Addr) (A B : Cs), vs = [.ref o, .ref u] ∧ CasesAt Z H o A ∧ CasesAt Z H u B ∧ A.length * B.length ≤ 64 ∧ A.length ≤ 64 ∧ B.length ≤ 64 ∧ (∀ a ∈ A, a.length ≤ 1000) ∧ (∀ b ∈ B, b.length ≤ 1000) ∧
  ∀ (r : Addr) (H' : Hp), Same H H' → CasesAt Z H' r (bothC A B) → Q (.ref r) H'
end Hw
namespace Hw
open PySem L2
theorem both_snoc (A B : Cs) (a : List (Ps × Int)) : bothC (A ++ [a]) B = bothC A B ++ B.map (a ++ ·) := by
  unfold bothC
  rw [List.map_append, List.flatten_append]
  show _ ++ (B.map (a ++ ·) ++ []) = _
  rw [List.append_nil]
theorem paired_app {α β : Type} {F : α → β → Prop} : ∀ {xs xs' : List α} {ys ys' : List β}, Paired F xs ys → Paired F xs' ys' → Paired F (xs ++ xs') (ys ++ ys')
  | _, _, _, _, .nil, h => h
  | _, _, _, _, .cons r t, h => .cons r (paired_app t h)
end Hw
namespace Hw
open PySem L2
end Hw
namespace Hw
open PySem L2
end Hw
namespace L2
open PySem PySem.Spec PyProof.Rows Hw
section
variable {X : Cx}
def rEqNilL (K : PySem.W.Frag) : R2 := fun x y H Q => ∃ a b xs, x = .ref a ∧ y = .ref b ∧ SqL K H a xs ∧ SqL K H b [] ∧ Q (.bl (decide (xs = []))) H
theorem op_eqNilL (hu : X.A.units < cLine) : OpR X (compareOp .Eq) (rEqNilL X.K) := by
  intro pins s σ H x y v u Q I rx ry h
  obtain ⟨a, b, xs, rfl, rfl, ha, hb, q⟩ := h
  cases rx
  cases ry
  obtain ⟨us, r1, p1, _⟩ := I.list ha
  obtain ⟨vs, r2, p2, _⟩ := I.list hb
  cases r2
  have l1 := r1.length
  by_cases hx : xs = []
  · rw [decide_eq_true hx] at q
    subst hx
    cases r1
    exact SeqAt.RcAt.lists (A := X.A) (e := fun _ => true) p1.isList p2.isList rfl hu (fun j h1 h2 => absurd h2 (by simp)) _ _ _ _ ⟨.bl true, H, I, rfl, q⟩
  · rw [decide_eq_false hx] at q
    have : us ≠ [] := fun z => hx (by rw [z] at l1; exact List.length_eq_zero_iff.mp l1)
    refine SeqAt.RcAt.lists_lengths (A := X.A) p1.isList p2.isList ?_ hu _ _ _ _ ⟨.bl false, H, I, rfl, q⟩
    cases us with
    | nil => exact absurd rfl this
    | cons _ _ => simp
end
end L2
namespace Hw
open PySem L2
end Hw
namespace Hw
open PySem L2
theorem nodup_le {α : Type} [DecidableEq α] : ∀ {l m : List α}, l.Nodup → (∀ x ∈ l, x ∈ m) → l.length ≤ m.length
  | [], m, _, _ => Nat.zero_le _
  | a :: r, m, h, hs => by
    have ha : a ∈ m := hs a (List.mem_cons_self ..)
    have hn := List.nodup_cons.mp h
    have ih := nodup_le (m := m.erase a) hn.2 fun x hx => by
      have hne : x ≠ a := fun e => hn.1 (e ▸ hx)
      exact (List.mem_erase_of_ne hne).mpr (hs x (List.mem_cons_of_mem _ hx))
    rw [List.length_erase_of_mem ha] at ih
    have : 0 < m.length := List.length_pos_of_mem ha
    show r.length + 1 ≤ m.length
    omega
theorem canon_nd {ts : Ps} (c : Canon ts) : (keys ts).Nodup := by
  unfold keys List.Nodup
  rw [List.pairwise_map]
  exact c.up.imp fun {p q} h e => by rw [e, lt_irr] at h; cases h
theorem gat_len {ps ts : Ps} (g : Gat ps ts) : ts.length ≤ ps.length := by
  have h := nodup_le (l := keys ts) (m := keys ps) (canon_nd g.1) fun t ht => g.keys ht
  unfold keys at h
  rw [List.length_map, List.length_map] at h
  exact h
end Hw
namespace Hw
open PySem L2
theorem dn_rec {P : Program} {w : World} {K : PySem.W.Frag} {mg : Str → Option Value} {base : Heap} {x : Str} {ps : List Str} {sp : Nat → Sp} {lv : Nat → Nat} {f : Addr} {fd : FuncData}
    (hm : mg x = some (.ref f)) (hk : PySem.W.keepIn K (.ref f) = true) (hb : Binds K fd ps []) (h0 : ∀ vs H Q E, ¬ sp 0 vs H Q E)
    (hs : ∀ n, Dn P w K mg base (lv n) x ps (sp n) → FnOk P w K mg base CX0 (lv (n + 1)) f fd ps (sp (n + 1))) : ∀ n, Dn P w K mg base (lv n) x ps (sp n)
  | 0 => ⟨f, fd, fn_absurd h0, hm, hk, hb⟩
  | n + 1 => ⟨f, fd, hs n (dn_rec hm hk hb h0 hs n), hm, hk, hb⟩
end Hw
namespace L2
open PySem PySem.Spec PyProof.Rows
section
variable {X : Cx} {tg : Expr}
end
end L2
namespace PySem
open L2
theorem lay_led (t : SetTable) (es : Array (Int × Value)) (h : Int) (x : Value) : (layNew t es h x).2.1.led = t.led := by
  unfold layNew
  split
  · dsimp only
    rename_i slot wd _
    have e : ((t.put slot).1).led = t.led := rfl
    have o : ∀ (u : SetTable) (n : Nat), (u.orStandIn n).led = u.led := fun u n => by
      unfold SetTable.orStandIn
      split <;> rfl
    exact (o _ _).trans e
  · rfl
theorem relay_led (t : SetTable) (es : Array (Int × Value)) (k : Nat) : (relayAll t es k).2.1.led = t.led ∧ (t.plain = false → (relayAll t es k).2.1.plain = false) := by
  unfold relayAll
  split
  · rename_i t' order hr
    dsimp only
    have e : t'.led = t.led ∧ t'.plain = t.plain := by
      unfold SetTable.relaid SetTable.laid at hr
      simp only [Option.bind_eq_bind, Option.bind_eq_some_iff, Option.pure_def, Option.some.injEq, Prod.mk.injEq] at hr
      obtain ⟨owner, _, rfl, _⟩ := hr
      exact ⟨rfl, rfl⟩
    split
    · exact ⟨e.1, fun z => e.2.trans z⟩
    · exact ⟨rfl, fun _ => rfl⟩
  · exact ⟨rfl, fun _ => rfl⟩
def strOf : Value → Str
  | .str z _ => z
  | _ => Str.empty
def SetW (prog : Program) (w : World) (h : Heap) (a : Addr) (zs : List Str) : Prop :=
  ∃ o es ep t, h.get? a = some o ∧ o.ExactSet ∧ o.data = .set es ep t ∧ ElemsOf (mixKind prog w) es.toList ∧ (∀ e ∈ es.toList, ∃ z k, e.2 = Value.str z k) ∧ es.toList.map (fun e => strOf e.2) = zs ∧ zs.Nodup ∧
    es.size < scanBound ∧ t.fits es.size = true ∧ t.led = !w.params.followText "set-order" ∧ (t.plain = false ∨ es.size = 0)
section
variable {prog : Program} {w : World} {A : Around} {E : Value → Shared → Prop} {s : Shared}
theorem SetW.store {h : Heap} {a : Addr} {o : Obj} {es : Array (Int × Value)} {ep : Nat} {t : SetTable} (ho : h.get? a = some o) (hex : o.ExactSet) (hd : o.data = .set es ep t) {es' : Array (Int × Value)} {t' : SetTable}
    (h1 : ElemsOf (mixKind prog w) es'.toList) (h2 : ∀ e ∈ es'.toList, ∃ z k, e.2 = Value.str z k) (h3 : (es'.toList.map fun e => strOf e.2).Nodup) (h4 : es'.size < scanBound) (h5 : t'.fits es'.size = true) (h6 : t'.led = !w.params.followText "set-order") (h7 : t'.plain = false) :
    (h.update a (Obj.putSet es' t')).get? a = some { o with data := .set es' (ep + 1) t' } ∧ SetW prog w (h.update a (Obj.putSet es' t')) a (es'.toList.map fun e => strOf e.2) := by
  have hg : (h.update a (Obj.putSet es' t')).get? a = some { o with data := .set es' (ep + 1) t' } := by
    have := Heap.get?_update_self (Obj.putSet es' t') ho (by rw [putSet_of es' t' hd]; rfl)
    rw [putSet_of es' t' hd] at this; exact this
  exact ⟨hg, _, es', ep + 1, t', hg, hex, rfl, h1, h2, rfl, h3, h4, h5, h6, .inl h7⟩
theorem is_str {x z : Str} {k : Tok} : (mixKind prog w).is (Sum.inr x) (.str z k) = decide (z = x) := by
  by_cases e : z = x
  · subst e
    rw [mixKind_str, decide_eq_true rfl]
  · rw [decide_eq_false e]
    cases q : (mixKind prog w).is (Sum.inr x) (.str z k) with
    | false => rfl
    | true => exact absurd (Sum.inr.inj ((mixKind prog w).inj _ _ _ q (mixKind_str prog w z k))) fun z => e z.symm
theorem set_add {a : Addr} {zs : List Str} {x : Str} {k : Tok} {Q : Bool → Shared → Prop} (hS : SetW prog w s.heap a zs) (hroom : zs.length + 1 < scanBound)
    (h : ∀ h' zs', Heap.SameBut a s.heap h' → SetW prog w h' a zs' → (x ∈ zs → zs' = zs) → (x ∉ zs → List.Perm zs' (zs ++ [x])) → Q (!decide (x ∈ zs)) { s with heap := h' }) :
    wpAny (model prog w) A (setAddHashed a (.str x k) ((mixKind prog w).hash (Sum.inr x))) Q E s := by
  obtain ⟨o, es, ep, t, ho, hex, hd, hel, hst, hzs, hnd, hb, hf, hled, hpl⟩ := id hS
  have hn : es.size = zs.length := by rw [← hzs, List.length_map, Array.length_toList]
  have hsc : (Value.str x k).scannable = true := rfl
  have hkey := mixKind_str prog w x k
  unfold setAddHashed setAddHashedIn
  refine wpAny_holding (wpAny_bind (wpAny_setState_of ho hd hf ?_))
  dsimp only
  rw [byScan_of hsc hb hel]
  simp only [↓reduceIte]
  unfold setAddByScan
  refine wpAny_bind ?_
  refine wpAny_bind (wpAny_rule ?_)
  refine wpAny_bind (wpAny_setScan_of hkey ho hd hf hel ?_)
  have mem : x ∈ zs ↔ ∃ e ∈ es.toList, (mixKind prog w).is (Sum.inr x) e.2 = true := by
    rw [← hzs, List.mem_map]
    constructor
    · rintro ⟨e, he, q⟩
      obtain ⟨z, k', e2⟩ := hst e he
      refine ⟨e, he, ?_⟩
      rw [e2] at q ⊢
      rw [is_str]
      exact decide_eq_true q
    · rintro ⟨e, he, q⟩
      obtain ⟨z, k', e2⟩ := hst e he
      refine ⟨e, he, ?_⟩
      rw [e2] at q ⊢
      rw [is_str] at q
      exact of_decide_eq_true q
  cases hr : List.findIdx? (fun e => (mixKind prog w).is (Sum.inr x) e.2) es.toList with
  | some j =>
    dsimp only
    obtain ⟨hj, hpj, _⟩ := List.findIdx?_eq_some_iff_getElem.mp hr
    have hm : x ∈ zs := mem.mpr ⟨es.toList[j], List.getElem_mem hj, hpj⟩
    refine wpAny_pure (wpAny_pure ?_)
    have e : s = { s with heap := s.heap } := by cases s; rfl
    have := h s.heap zs (Heap.SameBut.refl a s.heap) hS (fun _ => rfl) (fun z => absurd hm z)
    rw [decide_eq_true hm] at this
    rw [e]; exact this
  | none =>
    dsimp only
    have hm : x ∉ zs := fun z => by
      obtain ⟨e, he, q⟩ := mem.mp z
      have := List.findIdx?_eq_none_iff.mp hr e he
      rw [q] at this; exact Bool.noConfusion this
    have hgw : ∀ (b : Bool) {s₁ : Shared} {Q' : Unit → Shared → Prop}, Q' () s₁ → wpAny (model prog w) A (match b with | true => rule "set.scan.the-table-gave-way" | false => pure ()) Q' E s₁ :=
      fun b s₁ Q' hq => by cases b <;> first | exact wpAny_pure hq | exact wpAny_rule hq
    have hperm := layNew_perm t es ((mixKind prog w).hash (Sum.inr x)) (.str x k)
    have hfits := layNew_fits t es ((mixKind prog w).hash (Sum.inr x)) (.str x k)
    have hl := lay_led t es ((mixKind prog w).hash (Sum.inr x)) (.str x k)
    generalize hL : layNew t es ((mixKind prog w).hash (Sum.inr x)) (.str x k) = L at hperm hfits hl ⊢
    obtain ⟨es1, t1, wasDummy, gave⟩ := L
    dsimp only at hperm hfits hl ⊢
    rw [Array.toList_push] at hperm
    have hel1 : ElemsOf (mixKind prog w) es1.toList := (hel.push hkey hsc).perm hperm
    have hst1 : ∀ e ∈ es1.toList, ∃ z k, e.2 = Value.str z k := fun e he => by
      rcases List.mem_append.mp (hperm.mem_iff.mp he) with q | q
      · exact hst e q
      · rw [List.mem_singleton.mp q]; exact ⟨_, _, rfl⟩
    have hz1 : List.Perm (es1.toList.map fun e => strOf e.2) (zs ++ [x]) := by
      have := hperm.map fun e => strOf e.2
      rw [List.map_append, hzs] at this
      exact this
    have hnd1 : (es1.toList.map fun e => strOf e.2).Nodup := hz1.nodup_iff.mpr (by
      rw [List.nodup_append]
      refine ⟨hnd, by simp, fun u hu v hv e => ?_⟩
      rw [List.mem_singleton.mp hv] at e
      exact hm (e ▸ hu))
    have hb1 : es1.size < scanBound := by
      rw [← Array.length_toList, hperm.length_eq, List.length_append, Array.length_toList]
      simpa [hn] using hroom
    refine wpAny_bind (hgw _ ?_)
    have hend : ∀ h' zs', Heap.SameBut a s.heap h' → SetW prog w h' a zs' → List.Perm zs' (zs ++ [x]) → Q true { s with heap := h' } := by
      intro h' zs' hsb hS' hp
      have := h h' zs' hsb hS' (fun z => absurd z hm) (fun _ => hp)
      rw [decide_eq_false hm] at this
      exact this
    have tail : ∀ t2 : SetTable, t2.fits es1.size = true → t2.led = t.led → t2.plain = false → wpAny (model prog w) A (do
        storeSet a es1 t2
        if (!wasDummy && t2.tooFull) = true then do
            (match (relayAll t2 es1 (SetTable.grown es1.size)).2.2 with | true => rule "set.scan.the-table-gave-way" | false => pure ())
            storeSet a (relayAll t2 es1 (SetTable.grown es1.size)).1 (relayAll t2 es1 (SetTable.grown es1.size)).2.1
            pure (some true)
          else pure (some true)) (fun r s' => wpAny (model prog w) A (match r with | some added => pure added | none => setAddHashedIn a (.str x k) ((mixKind prog w).hash (Sum.inr x)) 99999) Q E s') E s := by
      intro t2 hf2 hl2 hp2
      refine wpAny_bind (wpAny_storeSet_of ho hd ?_ (fits_of_scanBound hb1))
      obtain ⟨ho1, hS1⟩ := SetW.store (prog := prog) (w := w) ho hex hd hel1 hst1 hnd1 hb1 hf2 (hl2.trans hled) hp2
      have hsb1 := Heap.SameBut.update s.heap a (Obj.putSet es1 t2)
      split
      · have hp := relayAll_perm t2 es1 (SetTable.grown es1.size)
        have hfr := relayAll_fits t2 es1 (SetTable.grown es1.size)
        have hlr := relay_led t2 es1 (SetTable.grown es1.size)
        generalize hRl : relayAll t2 es1 (SetTable.grown es1.size) = Rl at hp hfr hlr ⊢
        obtain ⟨es2, t3, gave2⟩ := Rl
        dsimp only at hp hfr hlr ⊢
        have hsz : es2.size = es1.size := by rw [← Array.length_toList, hp.length_eq, Array.length_toList]
        refine wpAny_bind (hgw _ ?_)
        refine wpAny_bind (wpAny_storeSet_of ho1 rfl ?_ (fits_of_scanBound (by rw [hsz]; exact hb1)))
        obtain ⟨_, hS2⟩ := SetW.store (prog := prog) (w := w) ho1 hex rfl (hel1.perm hp) (fun e he => hst1 e (hp.mem_iff.mp he)) ((hp.map _).nodup_iff.mpr hnd1) (by rw [hsz]; exact hb1) hfr (hlr.1.trans (hl2.trans hled)) (hlr.2 hp2)
        exact wpAny_pure (wpAny_pure (hend _ _ (hsb1.trans (Heap.SameBut.update _ a _)) hS2 ((hp.map _).trans hz1)))
      · exact wpAny_pure (wpAny_pure (hend _ _ hsb1 hS1 hz1))
    split
    · refine wpAny_bind ?_
      rw [hashByValue_scannable 8 hsc]
      refine wpAny_pure ?_
      exact tail { t1 with plain := false } (SetTable.fits_plain_off hfits) hl rfl
    · rename_i hpp
      refine wpAny_bind (wpAny_pure ?_)
      simp only [↓reduceIte]
      exact tail t1 hfits hl (by simpa using hpp)
end
end PySem
namespace PySem
open L2 PyProof.Rows
section
variable {prog : Program} {w : World} {A : Around} {R : Result → Shared → Prop} {I : Addr} {fp wr : List Addr} {G : Array GenState → Array GenState → Prop} {n : Nat} {P : Nat → Value → Prop} {St : Nat → Shared → Prop}
theorem SetW.at {h h' : Heap} {a : Addr} {zs : List Str} (x : SetW prog w h a zs) (k : ∀ o, h.get? a = some o → h'.get? a = some o) : SetW prog w h' a zs := by
  obtain ⟨o, es, ep, t, ho, r⟩ := x
  exact ⟨o, es, ep, t, k o ho, r⟩
theorem set_loop (W : WalksS prog w A.in1 I fp wr G n P St) (S : Addr) (hSf : S ∉ fp) (ss : List Str) (hlen : ss.length = n) (hval : ∀ i v, i < n → P i v → ∃ t, v = .str (ss.getD i Str.empty) t) (hb : n + 1 < scanBound) :
    ∀ (k i : Nat) (s : Shared) (zs : List Str), n - i = k → i ≤ n → St i s → SetW prog w s.heap S zs → zs.length ≤ i → (∀ x, x ∈ zs ↔ x ∈ ss.take i) →
      (∀ s' zs', Moved (S :: wr) G s s' → SetW prog w s'.heap S zs' → zs'.length ≤ n → (∀ x, x ∈ zs' ↔ x ∈ ss) → R (.ok (.ret .none)) s') →
      codeAny (model prog w) A (.builtin "set.update.loop" ⟨[.ref S, .ref I], []⟩) R s := by
  have hSw : S ∉ wr := fun h => hSf (W.sub _ h)
  have hsub : ∀ b ∈ wr, b ∈ S :: wr := fun b hb => List.mem_cons_of_mem _ hb
  intro k
  induction k with
  | zero =>
    intro i s zs hk hi hst hS hl hm hR
    have hin : i = n := by omega
    subst hin
    refine codeAny_builtin F.entry_set_update_loop ?_
    rw [Around.under_plainId F.plain_set_update_loop _]
    show wpAny _ A.in1 (pyNext (.ref I) >>= _) _ _ s
    refine wpAny_bind (W.done s _ _ hst fun s' hmv => ?_)
    show wpAny _ A.in1 (ret Value.none) _ _ s'
    refine wpAny_pure (hR s' zs (hmv.mono hsub) (hS.at fun o ho => hmv.heap S _ hSw ho) hl fun x => ?_)
    rw [hm x, ← hlen, List.take_length]
  | succ k ih =>
    intro i s zs hk hi hst hS hl hm hR
    have hlt : i < n := by omega
    refine codeAny_builtin F.entry_set_update_loop ?_
    rw [Around.under_plainId F.plain_set_update_loop _]
    show wpAny _ A.in1 (pyNext (.ref I) >>= _) _ _ s
    refine wpAny_bind (W.item i s _ _ hlt hst fun v s' hP hst' hmv => ?_)
    obtain ⟨t, rfl⟩ := hval i v hlt hP
    have hS' : SetW prog w s'.heap S zs := hS.at fun o ho => hmv.heap S _ hSw ho
    show wpAny _ A.in1 (holding [Value.str (ss.getD i Str.empty) t] (setAdd S (.str (ss.getD i Str.empty) t)) >>= _) _ _ s'
    refine wpAny_bind (wpAny_holding ?_)
    unfold setAdd
    refine wpAny_holding ?_
    refine wpAny_bind ((mixKind prog w).pyHash (k := Sum.inr (ss.getD i Str.empty)) (mixKind_str _ _ _ _) ?_)
    refine set_add (s := { s' with toks := s'.toks + 1 }) hS' (by omega) fun h' zs' hsb hS2 hin hout => ?_
    have hx : ss[i]? = some (ss.getD i Str.empty) := by
      rw [List.getD_eq_getElem?_getD, List.getElem?_eq_getElem (by omega)]
      rfl
    have hmem : ∀ x, x ∈ zs' ↔ x ∈ ss.take (i + 1) := fun x => by
      rw [List.take_add_one, hx, List.mem_append]
      by_cases q : ss.getD i Str.empty ∈ zs
      · rw [hin q, hm x]
        constructor
        · exact .inl
        · rintro (z | z)
          · exact z
          · have : x = ss.getD i Str.empty := by simpa using z
            rw [this]; exact (hm _).mp q
      · rw [(hout q).mem_iff, List.mem_append, hm x]
        simp
    have hl' : zs'.length ≤ i + 1 := by
      by_cases q : ss.getD i Str.empty ∈ zs
      · rw [hin q]; omega
      · rw [(hout q).length_eq, List.length_append, List.length_singleton]; omega
    refine wpAny_pure ⟨plainId_quiet F.plain_set_update_loop _, ih (i + 1) _ zs' (by omega) hlt (W.frame _ s' _ _ hst' (Nat.le_succ _) fun b hb o e => ?_) hS2 hl' hmem fun s'' zs'' hm'' hS'' hl'' hm2 => ?_⟩
    · rw [hsb.2 b (fun h : b = S => hSf (by rw [← h]; exact hb))]; exact e
    · refine hR s'' zs'' (Moved.trans W.gtrans ((hmv.mono hsub).then_heap (Nat.le_succ _) fun b o hb e => ?_) hm'') hS'' hl'' hm2
      rw [hsb.2 b (fun h : b = S => hb (by rw [h]; exact List.mem_cons_self))]; exact e
end
section
variable {prog : Program} {w : World} {A : Around} {E : Value → Shared → Prop} {s : Shared}
theorem code_set_new_w (a : Value) {Q₁ : Value → Shared → Prop}
    (h : Q₁ (.ref s.heap.objs.size) { s with heap := s.heap.push { cls := .type "set", dict := none, data := .set #[] 0 (.fresh 0 0 (!w.params.followText "set-order")) } }) :
    codeAny (model prog w) A (.call (.builtin "set.__new__") ⟨[.type "set", a], []⟩) (wants Q₁ E) s := by
  refine codeAny_of_tree ?_
  show wpAny _ A.in1 (do checkBuiltinCall "set.__new__" ⟨[.type "set", a], []⟩; again (.builtin "set.__new__" ⟨[.type "set", a], []⟩)) _ _ s
  refine wpAny_bind (wpAny_of_eq (F.newCall_set_1 a) (wpAny_pure ⟨plainId_quiet F.plain_set_new _, codeAny_builtin F.entry_set_new ?_⟩))
  rw [Around.under_plainId F.plain_set_new _]
  unfold Builtin.«set.__new__» Builtin.Frozenset.newClass
  have hsub := sub_set_self
  obtain ⟨hp, g, d, tk, os⟩ := s
  dsimp only
  wp_walk
  refine wpAny_askSetting (wpAny_pure ?_)
  dsimp only
  simp only [newObj]
  refine wpAny_bind (wpAny_alloc (wpAny_pure ?_))
  exact wpAny_pure h
theorem StrsAre.str_at : ∀ {vs : List Value} {ss : List Str}, StrsAre vs ss → ∀ (i : Nat) (v : Value), vs[i]? = some v → ∃ t, v = .str (ss.getD i Str.empty) t := by
  intro vs ss h
  induction h with
  | nil => intro i v e; simp at e
  | cons x t hr ih =>
    intro i v e
    cases i with
    | zero => simp at e; exact ⟨t, e.symm⟩
    | succ i =>
      simp only [List.getElem?_cons_succ] at e
      obtain ⟨t', e'⟩ := ih i v e
      exact ⟨t', by rw [e']; rfl⟩
set_option maxHeartbeats 3200000 in
theorem call_set_strs {l : Addr} {items : Array Value} {ss : List Str} {Q : Value → Shared → Prop} (hh : A.handled = none) (hl : s.heap.IsList l items) (hi : StrsAre items.toList ss) (hb : items.size + 1 < scanBound)
    (h : ∀ (h' : Heap) (tk : Nat) (zs : List Str), SetW prog w h' s.heap.objs.size zs → (∀ x, x ∈ zs ↔ x ∈ ss) → zs.length ≤ items.size →
      (∀ b o, b < s.heap.objs.size → s.heap.get? b = some o → h'.get? b = some o) → Q (.ref s.heap.objs.size) { s with heap := h', toks := tk }) :
    wpAny (model prog w) A (call (.type "set") [.ref l]) Q E s := by
  have hlen : ss.length = items.size := by rw [← StrsAre.length hi, Array.length_toList]
  obtain ⟨c, tl, hmro⟩ := F.called_set.mro
  have hmade := F.called_set.made
  have hsub := F.called_set.sub
  refine wpAny_call (codeAny_of_tree ?_)
  show wpAny _ _ (callAny (.type "set") _) _ _ _
  refine wpAny_pure ⟨Code.quiet_builtin _ (by decide +kernel), codeAny_builtin F.entry_type_call ?_⟩
  rw [Around.under_plain (weight_type_call_type "set" [.ref l] []) rfl]
  have h1 := F.called_set.notType
  have h2 := F.called_set.canCreate
  have hct := F.typeCall_set_1 (.ref l)
  repeat (any_goals (first | assumption | wp_step))
  refine codeAny_mono (code_set_new_w (.ref l) (E := E) (Q₁ := fun obj s₁ => obj = .ref s.heap.objs.size ∧ s₁ = { s with heap := s.heap.push { cls := .type "set", dict := none, data := .set #[] 0 (.fresh 0 0 (!w.params.followText "set-order")) } }) ⟨rfl, rfl⟩) fun r s₁ hr => ?_
  cases r with
  | error e => exact hr
  | ok fl =>
    cases fl with
    | ret obj =>
      obtain ⟨rfl, rfl⟩ := hr
      have hS : (s.heap.push { cls := .type "set", dict := none, data := .set #[] 0 (.fresh 0 0 (!w.params.followText "set-order")) }).get? s.heap.objs.size = some { cls := .type "set", dict := none, data := .set #[] 0 (.fresh 0 0 (!w.params.followText "set-order")) } := Heap.get?_push_size _ rfl
      have hT : Shared.TypeIs { s with heap := s.heap.push { cls := .type "set", dict := none, data := .set #[] 0 (.fresh 0 0 (!w.params.followText "set-order")) } } (.ref s.heap.objs.size) "set" := ⟨_, hS, rfl⟩
      have hli := F.called_set.init.lookup
      have hbi := F.called_set.init.bind (.ref s.heap.objs.size)
      repeat (any_goals (first | assumption | wp_step))
      refine codeAny_mono (codeAny_call_builtin (R := wants (fun r s₂ => r = .none ∧ ∃ h' tk zs, s₂ = { s with heap := h', toks := tk } ∧ SetW prog w h' s.heap.objs.size zs ∧ (∀ x, x ∈ zs ↔ x ∈ ss) ∧ zs.length ≤ items.size ∧
          (∀ b o, b < s.heap.objs.size → s.heap.get? b = some o → h'.get? b = some o)) E) F.called_set.init.plain F.entry_set_init (check_set_init_1 hT ?_)) fun r₂ s₂ hr₂ => ?_
      · obtain ⟨ol, hol, hcl, nl, hdl⟩ := hl
        obtain ⟨ocls, odict, odata, oslots⟩ := ol
        simp only at hcl hdl
        subst hcl; subst hdl
        have hol' : (s.heap.push { cls := .type "set", dict := none, data := .set #[] 0 (.fresh 0 0 (!w.params.followText "set-order")) }).get? l = some { cls := .type "list", dict := odict, data := .seq items nl, slots := oslots } := Heap.get?_push_of_some _ hol
        have hsls := F.sub_list_set
        have hslf := F.sub_list_frozenset
        have hne : (Value.type "list" == Value.type "dict") = false := by decide
        have hl1 : (s.heap.push { cls := .type "set", dict := none, data := .set #[] 0 (.fresh 0 0 (!w.params.followText "set-order")) }).IsList l items := ⟨_, hol', rfl, nl, rfl⟩
        unfold Builtin.«set.__init__» noKeywords Builtin.Frozenset.updateFrom
        generalize hPI : pyIter = PI
        wp_walk
        subst hPI
        refine wpAny_pyIter_list hl1 ?_
        refine wpAny_bind (wpAny_runValue ?_)
        have hlS : l < s.heap.objs.size := Heap.lt_size hol
        have hh3 : A.in1.in1.in1.handled = none := by simp [hh]
        have hneI : l ≠ (s.heap.push { cls := .type "set", dict := none, data := .set #[] 0 (.fresh 0 0 (!w.params.followText "set-order")) }).objs.size := by rw [Heap.size_push]; exact Nat.ne_of_lt (Nat.lt_succ_of_lt hlS)
        have hSf : s.heap.objs.size ∉ [(s.heap.push { cls := .type "set", dict := none, data := .set #[] 0 (.fresh 0 0 (!w.params.followText "set-order")) }).objs.size, l] := by
          rw [Heap.size_push]; simp only [List.mem_cons, List.mem_singleton, List.not_mem_nil, or_false, not_or]
          exact ⟨Nat.ne_of_lt (Nat.lt_succ_self _), Nat.ne_of_gt hlS⟩
        refine set_loop ((Walks.list hh3 _ l hneI items).toS) s.heap.objs.size hSf ss hlen (fun i v _ hv => StrsAre.str_at hi i v (by rw [Array.getElem?_toList]; exact hv)) hb (items.size - 0) 0 _ [] (by omega) (Nat.zero_le _)
          ⟨⟨_, Heap.get?_push_size _ rfl, rfl, rfl⟩, (hl1.push _)⟩ ?hS0 (Nat.le_refl _) (fun x => by simp) ?hR
        case hS0 =>
          have hget : ((s.heap.push { cls := .type "set", dict := none, data := .set #[] 0 (.fresh 0 0 (!w.params.followText "set-order")) }).push { cls := .type "list_iterator", data := .fields #[.ref l, .int 0 0] }).get? s.heap.objs.size = some { cls := .type "set", dict := none, data := .set #[] 0 (.fresh 0 0 (!w.params.followText "set-order")) } := Heap.get?_push_of_some _ hS
          exact ⟨_, #[], 0, _, hget, ⟨rfl, rfl, rfl⟩, rfl, (fun e he => by simp at he), (fun e he => by simp at he), rfl, .nil, by decide, by rfl, rfl, .inr rfl⟩
        case hR =>
          intro s' zs hm hS' hzl hmem
          obtain ⟨h', g', d', tk', os'⟩ := s'
          have eg : g' = s.gens := hm.gens
          have ed : d' = s.drawn := hm.drawn
          have eo : os' = s.os := hm.os
          subst eg; subst ed; subst eo
          show wpAny _ _ _ _ _ _
          refine wpAny_pure ?_
          show wpAny _ _ (ret Value.none) _ _ _
          refine wpAny_pure ⟨rfl, h', tk', zs, rfl, hS', hmem, hzl, fun b o hb e => ?_⟩
          have hb1 : b ≠ s.heap.objs.size := Nat.ne_of_lt hb
          have hb2 : b ≠ (s.heap.push { cls := .type "set", dict := none, data := .set #[] 0 (.fresh 0 0 (!w.params.followText "set-order")) }).objs.size := by rw [Heap.size_push]; exact Nat.ne_of_lt (Nat.lt_succ_of_lt hb)
          exact hm.heap b o (by simp only [List.mem_cons, List.mem_singleton, List.not_mem_nil, or_false, not_or]; exact ⟨hb1, hb2⟩) (Heap.get?_push_of_some _ (Heap.get?_push_of_some _ e))
      · cases r₂ with
        | error e => exact hr₂
        | ok fl₂ =>
          cases fl₂ with
          | ret r =>
            obtain ⟨rfl, h', tk, zs, rfl, hS', hmem, hzl, hk'⟩ := hr₂
            repeat (any_goals (first | assumption | wp_step))
            exact h _ _ zs hS' hmem hzl hk'
          | _ => exact hr₂.elim
    | _ => exact hr.elim
end
end PySem
namespace PySem
open L2 PyProof.Rows
namespace F
theorem entry_set_iter' : entryFor table "set.__iter__" = some Builtin.«frozenset.__iter__» := entryFor_alias (id' := "frozenset.__iter__") (by kernel_rfl) rfl (by decide +kernel) (by kernel_rfl)
theorem owner_set_iterator : Manifest.owners.lookup (String.ofList ['r', 'o', 't', 'a', 'r', 'e', 't', 'i', '_', 't', 'e', 's'].reverse) = some Manifest.sig_set_iterator := by kernel_rfl
theorem slot_set_iterator_next : Slot "set_iterator" "__next__" "set_iterator.__next__" :=
  .of (owner := "set_iterator") (n := "__next__") (by rw [typeLookup_type, builtinLookup_eq_fast]; kernel_rfl) (by decide +kernel) (by decide +kernel) (by decide +kernel)
    (by first | exact .inl (by decide +kernel) | exact .inr (by decide +kernel)) (by rw [isSubtype_type]; kernel_rfl)
theorem entry_set_iterator_next : entryFor table "set_iterator.__next__" = some Builtin.«set_iterator.__next__» := entryFor_of_tree (by kernel_rfl)
theorem args_set_iterator_next_1 (a : Value) : argsOk "set_iterator.__next__" ⟨[a], []⟩ := by
  unfold argsOk; rw [signature?_of (id := "set_iterator.__next__") (n := ['_', '_', 't', 'x', 'e', 'n', '_', '_']) (o := ['r', 'o', 't', 'a', 'r', 'e', 't', 'i', '_', 't', 'e', 's']) (by kernel_rfl) owner_set_iterator]; kernel_rfl
theorem slot_set_iterator_iter : Slot "set_iterator" "__iter__" "set_iterator.__iter__" :=
  .of (owner := "set_iterator") (n := "__iter__") (by rw [typeLookup_type, builtinLookup_eq_fast]; kernel_rfl) (by decide +kernel) (by decide +kernel) (by decide +kernel)
    (by first | exact .inl (by decide +kernel) | exact .inr (by decide +kernel)) (by rw [isSubtype_type]; kernel_rfl)
theorem entry_set_iterator_iter : entryFor table "set_iterator.__iter__" = some Builtin.«dict_keyiterator.__iter__» :=
  entryFor_alias (id' := "dict_keyiterator.__iter__") (by kernel_rfl) rfl (by decide +kernel) (by kernel_rfl)
theorem args_set_iterator_iter_1 (a : Value) : argsOk "set_iterator.__iter__" ⟨[a], []⟩ := by unfold argsOk; kernel_rfl
end F
def IsSI (h : Heap) (I : Addr) (first : Value) (i : Nat) (a : Addr) (n ep : Nat) : Prop :=
  ∃ o, h.get? I = some o ∧ o.cls = .type "set_iterator" ∧ o.data = .fields #[first, .int i 0, .ref a, .int n 0, .int ep 0]
def SetTab (h : Heap) (a : Addr) (es : Array (Int × Value)) (ep : Nat) (t : SetTable) : Prop := ∃ o, h.get? a = some o ∧ o.data = .set es ep t ∧ t.fits es.size = true
theorem IsSI.typeIs {s : Shared} {I a : Addr} {first : Value} {i n ep : Nat} (x : IsSI s.heap I first i a n ep) : s.TypeIs (.ref I) "set_iterator" := let ⟨o, ho, hc, _⟩ := x; ⟨o, ho, hc⟩
section
variable {prog : Program} {w : World} {A : Around} {E : Value → Shared → Prop} {s : Shared} {I a tp : Addr} {i n ep : Nat} {es : Array (Int × Value)} {t : SetTable}
theorem pyIter_si {first : Value} {Q : Value → Shared → Prop} (hit : IsSI s.heap I first i a n ep) (h : Q (.ref I) s) : wpAny (model prog w) A (pyIter (.ref I)) Q E s := by
  refine wpAny_pyIter_slot hit.typeIs F.slot_set_iterator_iter (wpAny_call_entry F.slot_set_iterator_iter hit.typeIs F.entry_set_iterator_iter ?_ (F.args_set_iterator_iter_1 _))
  show wpAny _ _ (ret (.ref I)) _ _ s
  exact wpAny_pure ⟨_, rfl, "set_iterator", _, hit.typeIs, F.slot_set_iterator_next.lookup, h⟩
end
end PySem
namespace PySem
open L2 PyProof.Rows
section
variable {prog : Program} {w : World} {A : Around} {E : Value → Shared → Prop} {s : Shared} {I a tp : Addr} {i n ep : Nat} {es : Array (Int × Value)} {t : SetTable}
theorem size_same {es : Array (Int × Value)} {n : Nat} (hn : es.size = n) : (((es.size : Nat) : Int) != ((n : Nat) : Int)) = false := by rw [hn]; simp
theorem next_D {Q : Option Value → Shared → Prop} {ps : List Value} {k p : Nat} {tk : Tok} {ot : Obj} {e : Int × Value} (hit : IsSI s.heap I (.ref tp) i a n ep) (hs : SetTab s.heap a es ep t) (hn : es.size = n) (ht : s.heap.get? tp = some ot) (hd : ot.data = .seq ps.toArray k)
    (hp : ps[i]? = some (.int p tk)) (he : es[p]? = some e) (hQ : ∀ h', IsSI h' I (.ref tp) (i + 1) a n ep → Heap.SameBut I s.heap h' → Q (some e.2) { s with heap := h' }) : wpAny (model prog w) A (pyNext (.ref I)) Q E s := by
  obtain ⟨o, ho, hc, hdo⟩ := id hit
  obtain ⟨os, hos, hds, hf⟩ := hs
  unfold pyNext
  refine wpAny_bind (wpAny_attempt (wpAny_callSpecial?_slot (name := Str.ofString "__next__") hit.typeIs F.slot_set_iterator_next
    (wpAny_call_entry F.slot_set_iterator_next hit.typeIs F.entry_set_iterator_next ?_ (F.args_set_iterator_next_1 _))))
  show wpAny _ _ (fieldsOf (.ref I) >>= _) _ _ s
  refine wpAny_bind (wpAny_fieldsOf ho hdo ?_)
  dsimp only
  refine wpAny_bind (wpAny_setEntries_of hos hds hf ?_)
  rw [size_same hn]
  simp only [Bool.false_eq_true, if_false]
  refine wpAny_bind (wpAny_seqItems ht hd ?_)
  dsimp only
  have hp' : ps.toArray[(i : Int).toNat]? = some (.int p tk) := by rw [Int.toNat_natCast]; simpa using hp
  rw [hp']
  dsimp only
  unfold setNextDrawn
  refine wpAny_bind (wpAny_bind (wpAny_setState_of hos hds hf ?_))
  dsimp only
  simp only [Int.toNat_natCast, bne_self_eq_false, Bool.false_eq_true, if_false, he]
  refine wpAny_pure ?_
  refine wpAny_bind (wpAny_setField ho hdo (by simp) (wpAny_pure ⟨_, rfl, wpAny_pure (hQ _ ?_ (Heap.SameBut.update ..))⟩))
  exact ⟨_, Heap.get?_update_self _ ho (Obj.isFreed_of_fields (Obj.data_mapFields hdo _)), (Obj.cls_mapFields ..).trans hc, by rw [Obj.data_mapFields hdo]; simp [rawInt]⟩
theorem end_D {Q : Option Value → Shared → Prop} {ps : List Value} {k : Nat} {ot : Obj} (hh : A.handled = none) (hit : IsSI s.heap I (.ref tp) i a n ep) (hs : SetTab s.heap a es ep t) (hn : es.size = n) (ht : s.heap.get? tp = some ot) (hd : ot.data = .seq ps.toArray k)
    (hp : ps[i]? = none) (hQ : ∀ h', (∀ b o, b ≠ I → s.heap.get? b = some o → h'.get? b = some o) → Q none { s with heap := h' }) : wpAny (model prog w) A (pyNext (.ref I)) Q E s := by
  obtain ⟨o, ho, hc, hdo⟩ := id hit
  obtain ⟨os, hos, hds, hf⟩ := hs
  unfold pyNext
  refine wpAny_bind (wpAny_attempt (wpAny_callSpecial?_slot (name := Str.ofString "__next__") hit.typeIs F.slot_set_iterator_next
    (wpAny_call_entry F.slot_set_iterator_next hit.typeIs F.entry_set_iterator_next ?_ (F.args_set_iterator_next_1 _))))
  show wpAny _ _ (fieldsOf (.ref I) >>= _) _ _ s
  refine wpAny_bind (wpAny_fieldsOf ho hdo ?_)
  dsimp only
  refine wpAny_bind (wpAny_setEntries_of hos hds hf ?_)
  rw [size_same hn]
  simp only [Bool.false_eq_true, if_false]
  refine wpAny_bind (wpAny_seqItems ht hd ?_)
  dsimp only
  have hp' : ps.toArray[(i : Int).toNat]? = none := by rw [Int.toNat_natCast]; simpa using hp
  rw [hp']
  dsimp only
  refine wpAny_bind (wpAny_setField ho hdo (by simp) ?_)
  have ho1 := Heap.get?_update_self (Obj.mapFields (·.setIfInBounds 0 (rawInt 0))) ho (Obj.isFreed_of_fields (Obj.data_mapFields hdo _))
  refine wpAny_bind (wpAny_setField ho1 (Obj.data_mapFields hdo _) (by simp) ?_)
  show wpAny _ _ (newExc (.type "StopIteration") [] >>= _) _ _ _
  refine wpAny_bind ?_
  simp only [newExc, newTuple]
  refine wpAny_bind (wpAny_newObj_type ?_ (by size_fits))
  refine wpAny_bind (m := firstArgMember _ _) (wpAny_of_eq (a := Value.none) (by first | rfl | (simp only [firstArgMember]; rfl)) ?_)
  refine wpAny_newObj_type ?_ (by size_fits)
  simp only [raiseNew]
  refine wpAny_bind (wpAny_handled ?_)
  rw [show A.in1.handled = none from hh]
  refine wpAny_bind (wpAny_pure (wpAny_throw ?_))
  refine wpAny_bind (wpAny_isInstance (T := "StopIteration") (b := true) ⟨_, Heap.get?_push_size _ rfl, rfl⟩ isSubtype_stop ?_)
  refine wpAny_pure (hQ _ fun b o' hb e => ?_)
  exact Heap.get?_push_of_some _ (Heap.get?_push_of_some _ ((Heap.get?_update_other _ _ (Ne.symm hb)).trans ((Heap.get?_update_other _ _ (Ne.symm hb)).trans e)))
theorem next_S {Q : Option Value → Shared → Prop} {sl : Nat} {r : Option (Value × Nat)} (hh : A.handled = none) (hit : IsSI s.heap I (.int sl 0) i a n ep) (hs : SetTab s.heap a es ep t) (hn : es.size = n)
    (hr : ∀ (A' : Around) (E' : Value → Shared → Prop) (Q' : Option (Value × Nat) → Shared → Prop), Q' r s → wpAny (model prog w) A' (setNext a sl i ep) Q' E' s)
    (hQ : ∀ x nx h', r = some (x, nx) → IsSI h' I (.int nx 0) (i + 1) a n ep → Heap.SameBut I s.heap h' → Q (some x) { s with heap := h' })
    (hE : r = none → ∀ h', (∀ b o, b ≠ I → s.heap.get? b = some o → h'.get? b = some o) → Q none { s with heap := h' }) : wpAny (model prog w) A (pyNext (.ref I)) Q E s := by
  obtain ⟨o, ho, hc, hdo⟩ := id hit
  obtain ⟨os, hos, hds, hf⟩ := hs
  unfold pyNext
  refine wpAny_bind (wpAny_attempt (wpAny_callSpecial?_slot (name := Str.ofString "__next__") hit.typeIs F.slot_set_iterator_next
    (wpAny_call_entry F.slot_set_iterator_next hit.typeIs F.entry_set_iterator_next ?_ (F.args_set_iterator_next_1 _))))
  show wpAny _ _ (fieldsOf (.ref I) >>= _) _ _ s
  refine wpAny_bind (wpAny_fieldsOf ho hdo ?_)
  dsimp only
  refine wpAny_bind (wpAny_setEntries_of hos hds hf ?_)
  rw [size_same hn]
  simp only [Bool.false_eq_true, if_false, Int.toNat_natCast]
  refine wpAny_bind (hr _ _ _ ?_)
  cases r with
  | some q =>
    obtain ⟨x, nx⟩ := q
    dsimp only
    refine wpAny_bind (wpAny_setField ho hdo (by simp) ?_)
    have ho1 := Heap.get?_update_self (Obj.mapFields (·.setIfInBounds 0 (rawInt nx))) ho (Obj.isFreed_of_fields (Obj.data_mapFields hdo _))
    refine wpAny_bind (wpAny_setField ho1 (Obj.data_mapFields hdo _) (by simp) (wpAny_pure ⟨_, rfl, wpAny_pure (hQ x nx _ rfl ?_ ((Heap.SameBut.update ..).trans (Heap.SameBut.update ..)))⟩))
    exact ⟨_, Heap.get?_update_self _ ho1 (Obj.isFreed_of_fields (Obj.data_mapFields (Obj.data_mapFields hdo _) _)), ((Obj.cls_mapFields ..).trans (Obj.cls_mapFields ..)).trans hc, by rw [Obj.data_mapFields (Obj.data_mapFields hdo _)]; simp [rawInt]⟩
  | none =>
    dsimp only
    refine wpAny_bind (wpAny_setField ho hdo (by simp) ?_)
    show wpAny _ _ (newExc (.type "StopIteration") [] >>= _) _ _ _
    refine wpAny_bind ?_
    simp only [newExc, newTuple]
    refine wpAny_bind (wpAny_newObj_type ?_ (by size_fits))
    refine wpAny_bind (m := firstArgMember _ _) (wpAny_of_eq (a := Value.none) (by first | rfl | (simp only [firstArgMember]; rfl)) ?_)
    refine wpAny_newObj_type ?_ (by size_fits)
    simp only [raiseNew]
    refine wpAny_bind (wpAny_handled ?_)
    rw [show A.in1.handled = none from hh]
    refine wpAny_bind (wpAny_pure (wpAny_throw ?_))
    refine wpAny_bind (wpAny_isInstance (T := "StopIteration") (b := true) ⟨_, Heap.get?_push_size _ rfl, rfl⟩ isSubtype_stop ?_)
    refine wpAny_pure (hE rfl _ fun b o' hb e => ?_)
    exact Heap.get?_push_of_some _ (Heap.get?_push_of_some _ ((Heap.get?_update_other _ _ (Ne.symm hb)).trans e))
end
end PySem
namespace PySem
open L2 PyProof.Rows
theorem erase_perm {α : Type} : ∀ {l : List α} {i : Nat} (h : i < l.length), List.Perm (l[i] :: l.eraseIdx i) l
  | x :: r, 0, _ => .refl _
  | x :: r, i + 1, h => by
    have hi : i < r.length := by simpa using h
    show List.Perm (r[i] :: x :: r.eraseIdx i) (x :: r)
    exact (List.Perm.swap ..).trans (.cons _ (erase_perm hi))
theorem pick_perm {α : Type} (next : Nat → Nat) : ∀ (n k : Nat) (l : List α) (out : Array α), l.length = n → List.Perm (pickOrder.go next n k l out).toList (out.toList ++ l)
  | 0, k, l, out, h => by
    have : l = [] := List.length_eq_zero_iff.mp h
    subst this
    unfold pickOrder.go
    simp
  | n + 1, k, l, out, h => by
    unfold pickOrder.go
    have hi : next k % l.length < l.length := Nat.mod_lt _ (by omega)
    rw [List.getElem?_eq_getElem hi]
    dsimp only
    refine (pick_perm next n (k + 1) (l.eraseIdx (next k % l.length)) (out.push l[next k % l.length]) (by rw [List.length_eraseIdx_of_lt hi]; omega)).trans ?_
    rw [Array.toList_push, List.append_assoc]
    refine List.Perm.append_left _ ?_
    show List.Perm (l[next k % l.length] :: l.eraseIdx (next k % l.length)) l
    exact erase_perm hi
theorem pickOrder_perm {α : Type} (next : Nat → Nat) (xs : Array α) : List.Perm (pickOrder next xs).toList xs.toList := by
  unfold pickOrder
  have := pick_perm next xs.size 0 xs.toList #[] (by simp)
  simpa using this
section
variable {M : Model} {A : Around} {E : Value → Shared → Prop} {s : Shared}
theorem wpAny_choose' {src : Source} {n : Nat} {Q : Nat → Shared → Prop} (hn : n ≠ 0) (h : ∀ i d, i < n → Q i { s with drawn := d }) : wpAny M A (choose src n) Q E s := by
  intro Γ p hΓ
  unfold choose
  rw [Sem.wp_choose]
  refine ⟨hn, ?_⟩
  simp only [Sem.wp_pure]
  exact h _ _ (Nat.mod_lt _ (Nat.pos_of_ne_zero hn))
theorem draw_perm {α : Type} : ∀ (n : Nat) (xs : List α) (s : Shared) (Q : List α → Shared → Prop), xs.length = n → (∀ ys d, List.Perm ys xs → Q ys { s with drawn := d }) → wpAny M A (drawOrder n xs) Q E s
  | 0, xs, s, Q, hl, h => by
    have : xs = [] := List.length_eq_zero_iff.mp hl
    subst this
    unfold drawOrder
    have e : s = { s with drawn := s.drawn } := by cases s; rfl
    rw [e]
    exact wpAny_pure (h [] _ .nil)
  | n + 1, xs, s, Q, hl, h => by
    cases xs with
    | nil => cases hl
    | cons x0 r0 =>
      unfold drawOrder
      refine wpAny_bind (wpAny_choose' (by rw [hl]; omega) fun i d hi => ?_)
      rw [List.getElem?_eq_getElem hi]
      dsimp only
      refine wpAny_bind (draw_perm n _ _ _ (by rw [List.length_eraseIdx_of_lt hi, hl]; omega) fun ys d' hp => wpAny_pure ?_)
      exact h _ d' ((List.Perm.cons _ hp).trans (erase_perm hi))
end
section
variable {prog : Program} {w : World} {A : Around} {E : Value → Shared → Prop} {s : Shared} {I a tp : Addr} {i n ep : Nat} {es : Array (Int × Value)} {t : SetTable}
theorem setNext_T {Q : Option (Value × Nat) → Shared → Prop} {sl : Nat} (hT : w.params.followText "set-order" = true) (hs : SetTab s.heap a es ep t)
    (h : Q (((pickOrder (w.params.setOrder a ep) es)[i]?).map fun e => (e.2, sl)) s) : wpAny (model prog w) A (setNext a sl i ep) Q E s := by
  obtain ⟨o, ho, hd, hf⟩ := hs
  unfold setNext
  refine wpAny_bind (wpAny_setState_of ho hd hf ?_)
  dsimp only
  unfold setsByText
  refine wpAny_bind (wpAny_bind (wpAny_askSetting (wpAny_pure ?_)))
  show wpAny _ _ (if (w.params.followText "set-order") = true then _ else _) _ _ _
  rw [hT]
  simp only [if_true, bne_self_eq_false, Bool.false_eq_true, if_false]
  unfold setWalk
  refine wpAny_bind (wpAny_bind (wpAny_setState_of ho hd hf ?_))
  dsimp only
  unfold setsByText
  refine wpAny_bind (wpAny_bind (wpAny_askSetting (wpAny_pure ?_)))
  show wpAny _ _ (if (w.params.followText "set-order") = true then _ else _) _ _ _
  rw [hT]
  simp only [if_true]
  refine wpAny_bind (wpAny_askSetting (wpAny_pure (wpAny_pure ?_)))
  exact h
theorem setNext_1 {Q : Option (Value × Nat) → Shared → Prop} {sl : Nat} (hT : w.params.followText "set-order" = false) (hs : SetTab s.heap a es ep t) (hl : t.led = true) (hn : es.size ≤ 1)
    (h : Q (match es[SetTable.below t.place sl]?, t.place[SetTable.below t.place sl]? with | some (_, x), some j => some (x, j + 1) | _, _ => none) s) : wpAny (model prog w) A (setNext a sl i ep) Q E s := by
  obtain ⟨o, ho, hd, hf⟩ := hs
  unfold setNext
  refine wpAny_bind (wpAny_setState_of ho hd hf ?_)
  dsimp only
  unfold setsByText
  refine wpAny_bind (wpAny_bind (wpAny_askSetting (wpAny_pure ?_)))
  show wpAny _ _ (if (w.params.followText "set-order") = true then _ else _) _ _ _
  rw [hT]
  simp only [Bool.false_eq_true, if_false]
  show wpAny _ _ (if ((!t.plain && decide (es.size > 1)) = true) then _ else _) _ _ _
  rw [show decide (es.size > 1) = false from decide_eq_false (by omega), Bool.and_false]
  simp only [Bool.false_eq_true, if_false]
  refine wpAny_bind ?_
  show wpAny _ _ (if ((!t.led && !es.isEmpty) = true) then _ else _) _ _ _
  rw [hl]
  simp only [Bool.not_true, Bool.false_and, Bool.false_eq_true, if_false]
  exact wpAny_pure (wpAny_pure h)
end
end PySem
namespace PySem
open L2 PyProof.Rows
section
variable {prog : Program} {w : World} {A : Around} {E : Value → Shared → Prop} {s : Shared} {I a tp : Addr} {i n ep : Nat} {es : Array (Int × Value)} {t : SetTable}
theorem SetTab.at {h h' : Heap} (x : SetTab h a es ep t) (k : ∀ o, h.get? a = some o → h'.get? a = some o) : SetTab h' a es ep t := let ⟨o, ho, r⟩ := x; ⟨o, k o ho, r⟩
theorem IsSI.at {h h' : Heap} {first : Value} (x : IsSI h I first i a n ep) (k : ∀ o, h.get? I = some o → h'.get? I = some o) : IsSI h' I first i a n ep := let ⟨o, ho, r⟩ := x; ⟨o, k o ho, r⟩
theorem walks_T (hT : w.params.followText "set-order" = true) (hh : A.handled = none) (hne : a ≠ I) (hn : es.size = n) :
    Walks prog w A I [I, a] [I] n (fun i v => ((pickOrder (w.params.setOrder a ep) es).toList.map (·.2))[i]? = some v) (fun i h => (∃ sl : Nat, IsSI h I (.int sl 0) i a n ep) ∧ SetTab h a es ep t) where
  sub := fun b hb => by simp at hb; simp [hb]
  frame := fun _ _ _ st hk => ⟨let ⟨sl, x⟩ := st.1; ⟨sl, x.at fun o e => hk I (by simp) o e⟩, st.2.at fun o e => hk a (by simp) o e⟩
  item := fun i s Q E hi st hQ => by
    obtain ⟨⟨sl, x⟩, tb⟩ := st
    have hp : (pickOrder (w.params.setOrder a ep) es).size = n := by rw [← Array.length_toList, (pickOrder_perm _ es).length_eq, Array.length_toList, hn]
    have hg : (pickOrder (w.params.setOrder a ep) es)[i]? = some ((pickOrder (w.params.setOrder a ep) es)[i]'(by omega)) := by simp [hp, hi]
    refine next_S hh x tb hn (fun A' E' Q' q => setNext_T hT tb q) (fun v nx h' e x' sb => ?_) (fun e => ?_)
    · rw [hg] at e
      cases e
      refine hQ _ h' s.toks ?_ ⟨⟨_, x'⟩, tb.at fun o e => (sb.2 a hne).trans e⟩ fun b o hb e => (sb.2 b (fun h => hb (by simp [h]))).trans e
      rw [List.getElem?_map, Array.getElem?_toList, hg]
      rfl
    · rw [hg] at e
      cases e
  done := fun s Q E st hQ => by
    obtain ⟨⟨sl, x⟩, tb⟩ := st
    have hp : (pickOrder (w.params.setOrder a ep) es).size = n := by rw [← Array.length_toList, (pickOrder_perm _ es).length_eq, Array.length_toList, hn]
    have hg : (pickOrder (w.params.setOrder a ep) es)[n]? = none := by simp [hp]
    refine next_S hh x tb hn (fun A' E' Q' q => setNext_T hT tb q) (fun v nx h' e x' sb => ?_) (fun e h' kp => ?_)
    · rw [hg] at e
      cases e
    · exact hQ h' s.toks fun b o hb e => kp b o (fun h => hb (by simp [h])) e
  self := fun _ _ _ _ st hQ => let ⟨⟨_, x⟩, _⟩ := st; pyIter_si x hQ
theorem arr1 {α : Type} {l : Array α} (h : l.size = 1) : ∃ j, l = #[j] := by
  obtain ⟨l⟩ := l
  match l, h with
  | [j], _ => exact ⟨j, rfl⟩
theorem below_0 (j : Nat) : SetTable.below #[j] 0 = 0 := by simp [SetTable.below, SetTable.below.go]
theorem below_1 (j : Nat) : SetTable.below #[j] (j + 1) = 1 := by simp [SetTable.below, SetTable.below.go]
def slS (t : SetTable) : Nat → Nat
  | 0 => 0
  | _ + 1 => t.place.getD 0 0 + 1
theorem walks_S (hT : w.params.followText "set-order" = false) (hh : A.handled = none) (hne : a ≠ I) (hn : es.size = n) (h1 : n ≤ 1) (hl : t.led = true) (hf : t.fits es.size = true) :
    Walks prog w A I [I, a] [I] n (fun i v => (es.toList.map (·.2))[i]? = some v) (fun i h => IsSI h I (.int (slS t i) 0) i a n ep ∧ SetTab h a es ep t) where
  sub := fun b hb => by simp at hb; simp [hb]
  frame := fun _ _ _ st hk => ⟨st.1.at fun o e => hk I (by simp) o e, st.2.at fun o e => hk a (by simp) o e⟩
  item := fun i s Q E hi st hQ => by
    obtain ⟨x, tb⟩ := st
    have i0 : i = 0 := by omega
    have n1 : n = 1 := by omega
    subst i0; subst n1
    have hp : t.place.size = 1 := by simp only [SetTable.fits, Bool.and_eq_true, beq_iff_eq] at hf; omega
    obtain ⟨j, hj⟩ := arr1 hp
    refine next_S hh x tb hn (fun A' E' Q' q => setNext_1 hT tb hl (by omega) q) (fun v nx h' e x' sb => ?_) (fun e => ?_)
    · have hz : slS t 0 = 0 := rfl
      rw [hz, hj, below_0] at e
      have h0 : es[0]? = some (es[0]'(by omega)) := by simp [hn]
      rw [h0] at e
      simp at e
      obtain ⟨e1, e2⟩ := e
      refine hQ _ h' s.toks ?_ ⟨?_, tb.at fun o e => (sb.2 a hne).trans e⟩ fun b o hb e => (sb.2 b (fun h => hb (by simp [h]))).trans e
      · rw [List.getElem?_map, Array.getElem?_toList, h0, ← e1]
        rfl
      · have : slS t 1 = nx := by show t.place.getD 0 0 + 1 = nx; rw [hj, ← e2]; rfl
        rw [this]
        exact x'
    · have hz : slS t 0 = 0 := rfl
      rw [hz, hj, below_0] at e
      have h0 : es[0]? = some (es[0]'(by omega)) := by simp [hn]
      rw [h0] at e
      simp at e
  done := fun s Q E st hQ => by
    obtain ⟨x, tb⟩ := st
    have hp : t.place.size = n := by simp only [SetTable.fits, Bool.and_eq_true, beq_iff_eq] at hf; omega
    refine next_S hh x tb hn (fun A' E' Q' q => setNext_1 hT tb hl (by omega) q) (fun v nx h' e x' sb => ?_) (fun e h' kp => ?_)
    · exfalso
      have : n = 0 ∨ n = 1 := by omega
      rcases this with z | z
      · subst z
        have h0 : es = #[] := by simpa using hn
        rw [h0] at e
        simp at e
      · subst z
        obtain ⟨j, hj⟩ := arr1 hp
        have hz : slS t 1 = j + 1 := by show t.place.getD 0 0 + 1 = j + 1; rw [hj]; rfl
        rw [hz, hj, below_1] at e
        have h0 : es[1]? = none := by simp [hn]
        rw [h0] at e
        simp at e
    · exact hQ h' s.toks fun b o hb e => kp b o (fun h => hb (by simp [h])) e
  self := fun _ _ _ _ st hQ => pyIter_si st.1 hQ
theorem walks_D {ps : List Nat} (hh : A.handled = none) (hne : a ≠ I) (htp : tp ≠ I) (hn : es.size = n) (hps : List.Perm ps (List.range n)) :
    Walks prog w A I [I, tp, a] [I] n (fun i v => ((ps.filterMap fun p => es[p]?).map (·.2))[i]? = some v) (fun i h => IsSI h I (.ref tp) i a n ep ∧ (∃ ot k, h.get? tp = some ot ∧ ot.data = .seq (ps.map fun p : Nat => rawInt p).toArray k) ∧ SetTab h a es ep t) where
  sub := fun b hb => by simp at hb; simp [hb]
  frame := fun _ _ _ st hk => ⟨st.1.at fun o e => hk I (by simp) o e, let ⟨ot, k, e, d⟩ := st.2.1; ⟨ot, k, hk tp (by simp) _ e, d⟩, st.2.2.at fun o e => hk a (by simp) o e⟩
  item := fun i s Q E hi st hQ => by
    obtain ⟨x, ⟨ot, k, et, dt⟩, tb⟩ := st
    have hpl : ps.length = n := by rw [hps.length_eq, List.length_range]
    have hpi : ps[i]? = some (ps[i]'(by omega)) := List.getElem?_eq_getElem _
    have hlt : ps[i]'(by omega) < n := List.mem_range.mp (hps.mem_iff.mp (List.getElem_mem _))
    have he : es[ps[i]'(by omega)]? = some (es[ps[i]'(by omega)]'(by omega)) := by simp [hn, hlt]
    have hall : ∀ q : List Nat, (∀ p ∈ q, p < n) → (q.filterMap fun p => es[p]?) = q.map fun p => es.getD p (0, .none) := by
      intro q
      induction q with
      | nil => intro _; rfl
      | cons p r ih =>
        intro hq
        have h1 := hq p (List.mem_cons_self ..)
        rw [List.filterMap_cons_some (b := es.getD p (0, .none)) (by simp [hn, h1]), ih fun p hp => hq p (List.mem_cons_of_mem _ hp)]
        rfl
    refine next_D x tb hn et dt (p := ps[i]'(by omega)) (tk := 0) (by rw [List.getElem?_map, hpi]; rfl) he fun h' x' sb => ?_
    refine hQ _ h' s.toks ?_ ⟨x', ⟨ot, k, (sb.2 tp htp).trans et, dt⟩, tb.at fun o e => (sb.2 a hne).trans e⟩ fun b o hb e => (sb.2 b (fun h => hb (by simp [h]))).trans e
    rw [hall ps (fun p hp => List.mem_range.mp (hps.mem_iff.mp hp)), List.map_map, List.getElem?_map, hpi]
    simp [hn, hlt]
  done := fun s Q E st hQ => by
    obtain ⟨x, ⟨ot, k, et, dt⟩, tb⟩ := st
    have hpl : ps.length = n := by rw [hps.length_eq, List.length_range]
    exact end_D hh x tb hn et dt (by rw [List.getElem?_map, List.getElem?_eq_none (by omega)]; rfl) fun h' kp => hQ h' s.toks fun b o hb e => kp b o (fun h => hb (by simp [h])) e
  self := fun _ _ _ _ st hQ => pyIter_si st.1 hQ
end
end PySem
namespace PySem
open L2 PyProof.Rows
theorem strs_map : ∀ {L : List (Int × Value)}, (∀ e ∈ L, ∃ z k, e.2 = Value.str z k) → StrsAre (L.map (·.2)) (L.map fun e => strOf e.2)
  | [], _ => .nil
  | e :: r, h => by
    obtain ⟨z, k, q⟩ := h e (List.mem_cons_self ..)
    show StrsAre (e.2 :: r.map (·.2)) (strOf e.2 :: r.map fun e => strOf e.2)
    rw [q]
    exact .cons z k (strs_map fun e he => h e (List.mem_cons_of_mem _ he))
section
variable {prog : Program} {w : World} {A : Around} {E : Value → Shared → Prop} {s : Shared} {a : Addr}
theorem iter_set {zs : List Str} {Q : Value → Shared → Prop} (hS : SetW prog w s.heap a zs)
    (hQ : ∀ (I : Addr) (fp : List Addr) (St : Nat → Heap → Prop) (vs : List Value) (zs' : List Str) (h' : Heap) (d : Drawn), (∀ A' : Around, A'.handled = none → Walks prog w A' I fp [I] zs.length (fun i v => vs[i]? = some v) St) → St 0 h' → StrsAre vs zs' → List.Perm zs' zs →
      (∀ b o, s.heap.get? b = some o → h'.get? b = some o) → s.heap.objs.size ≤ I → (∀ b ∈ fp, b = a ∨ s.heap.objs.size ≤ b) → Q (.ref I) { s with heap := h', drawn := d }) : wpAny (model prog w) A (pyIter (.ref a)) Q E s := by
  obtain ⟨o, es, ep, t, ho, hex, hd, hel, hst, hzs, hnd, hb, hf, hled, hpl⟩ := hS
  have hn : es.size = zs.length := by rw [← hzs, List.length_map, Array.length_toList]
  have hTy : s.TypeIs (.ref a) "set" := ⟨o, ho, hex.1⟩
  have hlt : a < s.heap.objs.size := Heap.lt_size ho
  refine wpAny_pyIter_slot hTy F.slot_set_iter (wpAny_call_entry F.slot_set_iter hTy F.entry_set_iter' ?_ (F.args_set_iter_1 _))
  show wpAny _ _ (Builtin.Frozenset.sizeOf a >>= _) _ _ s
  unfold Builtin.Frozenset.sizeOf
  refine wpAny_bind (wpAny_bind (wpAny_setEntries_of ho hd hf (wpAny_pure ?_)))
  unfold setDrawn
  refine wpAny_bind ?_
  refine wpAny_bind (wpAny_setState_of ho hd hf ?_)
  dsimp only
  unfold setsByText
  refine wpAny_bind (wpAny_bind (wpAny_askSetting (wpAny_pure (wpAny_pure ?_))))
  show wpAny _ _ (if (!(w.params.followText "set-order") && (!t.plain && decide (es.size > 1))) = true then _ else _) _ _ _
  cases hT : w.params.followText "set-order" with
  | true =>
    simp only [Bool.not_true, Bool.false_and, Bool.false_eq_true, if_false]
    refine wpAny_bind (wpAny_pure ?_)
    unfold setEpoch
    refine wpAny_bind (wpAny_bind (wpAny_setState_of ho hd hf (wpAny_pure ?_)))
    refine wpAny_bind (wpAny_newObj_type (wpAny_pure ⟨_, rfl, "set_iterator", _, ⟨_, Heap.get?_push_size _ rfl, rfl⟩, F.slot_set_iterator_next.lookup, ?_⟩))
    have e : ∀ h' : Heap, ({ s with heap := h' } : Shared) = { s with heap := h', drawn := s.drawn } := fun _ => by cases s; rfl
    rw [e]
    refine hQ _ [s.heap.objs.size, a] _ _ _ _ _ (fun A' hA => walks_T (ep := ep) (t := t) hT hA (Nat.ne_of_lt hlt) hn) ⟨⟨0, _, Heap.get?_push_size _ rfl, rfl, by simp [rawInt, hn]⟩, o, Heap.get?_push_of_some _ ho, hd, hf⟩ (strs_map fun e he => hst e ((pickOrder_perm _ es).mem_iff.mp he)) ?_ (fun b o e => Heap.get?_push_of_some _ e) (Nat.le_refl _) (fun b hb => ?_)
    · rw [← hzs]
      exact (pickOrder_perm _ es).map _
    · rcases List.mem_cons.mp hb with z | z
      · exact .inr (by rw [z]; exact Nat.le_refl _)
      · exact .inl (List.mem_singleton.mp z)
  | false =>
    simp only [Bool.not_false, Bool.true_and]
    by_cases h1 : es.size ≤ 1
    · rw [show decide (es.size > 1) = false from decide_eq_false (by omega), Bool.and_false]
      simp only [Bool.false_eq_true, if_false]
      refine wpAny_bind (wpAny_pure ?_)
      unfold setEpoch
      refine wpAny_bind (wpAny_bind (wpAny_setState_of ho hd hf (wpAny_pure ?_)))
      refine wpAny_bind (wpAny_newObj_type (wpAny_pure ⟨_, rfl, "set_iterator", _, ⟨_, Heap.get?_push_size _ rfl, rfl⟩, F.slot_set_iterator_next.lookup, ?_⟩))
      have e : ∀ h' : Heap, ({ s with heap := h' } : Shared) = { s with heap := h', drawn := s.drawn } := fun _ => by cases s; rfl
      rw [e]
      rw [hT] at hled
      refine hQ _ [s.heap.objs.size, a] _ _ _ _ _ (fun A' hA => walks_S (ep := ep) (t := t) hT hA (Nat.ne_of_lt hlt) hn (by omega) hled hf) ⟨⟨_, Heap.get?_push_size _ rfl, rfl, by simp [rawInt, hn, slS]⟩, o, Heap.get?_push_of_some _ ho, hd, hf⟩ (strs_map hst) (by rw [hzs]) (fun b o e => Heap.get?_push_of_some _ e) (Nat.le_refl _) (fun b hb => ?_)
      rcases List.mem_cons.mp hb with z | z
      · exact .inr (by rw [z]; exact Nat.le_refl _)
      · exact .inl (List.mem_singleton.mp z)
    · have hp : t.plain = false := hpl.resolve_right (by omega)
      rw [show decide (es.size > 1) = true from decide_eq_true (by omega), hp]
      simp only [Bool.not_false, Bool.and_self, if_true]
      refine wpAny_bind (draw_perm _ _ _ _ (List.length_range ..) fun ps d hps => ?_)
      have hpl' : ps.length = es.size := by rw [hps.length_eq, List.length_range]
      refine wpAny_bind (wpAny_newTuple ?_ (by rw [List.length_map, hpl']; exact fits_of_scanBound hb))
      unfold setEpoch
      refine wpAny_bind (wpAny_bind (wpAny_setState_of (Heap.get?_push_of_some _ ho) hd hf (wpAny_pure ?_)))
      refine wpAny_bind (wpAny_newObj_type (wpAny_pure ⟨_, rfl, "set_iterator", _, ⟨_, Heap.get?_push_size _ rfl, rfl⟩, F.slot_set_iterator_next.lookup, ?_⟩))
      dsimp only
      rw [Heap.size_push]
      have hall : ∀ q : List Nat, (∀ p ∈ q, p < es.size) → ∀ e ∈ (q.filterMap fun p => es[p]?), e ∈ es.toList := fun q _ e he => by
        obtain ⟨p, _, z⟩ := List.mem_filterMap.mp he
        exact Array.mem_toList_iff.mpr (Array.mem_of_getElem? z)
      have hpe : List.Perm (ps.filterMap fun p => es[p]?) es.toList := by
        refine (hps.filterMap _).trans ?_
        have := List.filterMap_getElem?_range_length es.toList
        rw [Array.length_toList] at this
        have e2 : (fun p : Nat => es[p]?) = fun p : Nat => es.toList[p]? := by funext p; rw [Array.getElem?_toList]
        rw [e2, this]
      refine hQ (s.heap.objs.size + 1) [s.heap.objs.size + 1, s.heap.objs.size, a] _ _ _ _ d (fun A' hA => walks_D (ep := ep) (t := t) (tp := s.heap.objs.size) hA (Nat.ne_of_lt (Nat.lt_succ_of_lt hlt)) (Nat.ne_of_lt (Nat.lt_succ_self _)) hn (by rw [← hn]; exact hps)) ⟨⟨_, Heap.get?_push_at (by rw [Heap.size_push]) rfl, rfl, by simp [rawInt, hn]⟩, ⟨_, _, Heap.get?_push_of_some _ (Heap.get?_push_size _ rfl), rfl⟩, o, Heap.get?_push_of_some _ (Heap.get?_push_of_some _ ho), hd, hf⟩ (strs_map fun e he => hst e (hpe.mem_iff.mp he)) ?_ (fun b o e => Heap.get?_push_of_some _ (Heap.get?_push_of_some _ e)) (Nat.le_succ _) (fun b hb => ?_)
      · rw [← hzs]
        exact hpe.map _
      · rcases List.mem_cons.mp hb with z | z
        · exact .inr (by rw [z]; exact Nat.le_succ _)
        · rcases List.mem_cons.mp z with z | z
          · exact .inr (by rw [z]; exact Nat.le_refl _)
          · exact .inl (List.mem_singleton.mp z)
end
end PySem
namespace PySem
open L2 PyProof.Rows
section
variable {prog : Program} {w : World} {A : Around} {E : Value → Shared → Prop} {s : Shared} {a : Addr} {zs : List Str}
theorem hint_set {Q : Bool → Shared → Prop} (hT : s.TypeIs (.ref a) "set") (h : Q false s) : wpAny (model prog w) A (Builtin.List.listLengthHint (.ref a)) Q E s := by
  unfold Builtin.List.listLengthHint
  refine wpAny_bind (wpAny_specialOf hT PySem.F.slot_set_len.lookup ?_)
  generalize hid : ("set.__len__" : String) = id0
  wp_delta
  rw [show splitId id0 = some ("set", "__len__") from by subst hid; decide +kernel]
  subst hid
  refine wpAny_bind (wpAny_isInstance (T := "set") (b := true) hT (by rw [isSubtype_type]; kernel_rfl) ?_)
  refine wpAny_ite_split (fun hab => absurd hab (by decide)) (fun _ => ?_)
  refine wpAny_ite_split (fun _ => ?_) (fun hab => absurd (by decide +kernel) hab)
  refine wpAny_bind (wpAny_typeOf hT ?_)
  exact wpAny_pure h
theorem items_eq {vs : List Value} {acc : Array Value} (h : ItemsOf (fun i v => vs[i]? = some v) acc vs.length) : acc.toList = vs := by
  apply List.ext_getElem?
  intro i
  rw [Array.getElem?_toList]
  by_cases hi : i < acc.size
  · rw [Array.getElem?_eq_getElem hi, h.2 i acc[i] (by simp [hi])]
  · have h1 := h.1
    rw [Array.getElem?_eq_none (by omega), List.getElem?_eq_none (by omega)]
theorem ext_set {R : Result → Shared → Prop} (hh : A.handled = none) (hS : SetW prog w s.heap a zs) (S : Addr) (hSa : S ≠ a) (res : Value) (c₀ : Nat) (hL : s.heap.get? S = some { cls := .type "list", data := .seq #[] c₀ })
    (hR : ∀ h' tk d acc' c' zs', (∀ b o, b ≠ S → s.heap.get? b = some o → h'.get? b = some o) → h'.get? S = some { cls := .type "list", dict := none, data := .seq acc' c', slots := #[] } → StrsAre acc'.toList zs' → List.Perm zs' zs →
      R (.ok (.ret res)) { s with heap := h', toks := tk, drawn := d }) (hn : zs.length ≤ sizeLine) :
    wpAny (model prog w) A.in1 (Builtin.List.listExtendWith (.ref S) (.ref a) res)
      (fun fin s' => match fin with | .done f => R (.ok f) s' | .again c' => c'.quiet = true ∧ codeAny (model prog w) A c' R s') (fun e s' => R (.error e) s') s := by
  have hTy : s.TypeIs (.ref a) "set" := let ⟨o, _, _, _, ho, hex, _⟩ := hS; ⟨o, ho, hex.1⟩
  have hSl : S < s.heap.objs.size := Heap.lt_size hL
  unfold Builtin.List.listExtendWith
  refine wpAny_bind (wpAny_typeOf (T := "set") hTy ?_)
  have h1 : Builtin.List.listSameRef (.ref S) (.ref a) = false := by simp [Builtin.List.listSameRef, hSa]
  have nl : (Value.type "set" == Value.type "list") = false := by decide
  have nt : (Value.type "set" == Value.type "tuple") = false := by decide
  simp only [h1, nl, nt, Bool.or_false, Bool.false_eq_true, if_false]
  refine wpAny_bind (iter_set hS fun I fp St vs zs' hI d W st hvs hp kp hIl hfp => ?_)
  have hvl : vs.length = zs.length := by rw [StrsAre.length hvs, hp.length_eq]
  have hSf : S ∉ fp := fun hm => (hfp S hm).elim hSa fun z => absurd hSl (Nat.not_lt.mpr z)
  have key : ∀ (h : Heap) (c₁ tk : Nat), St 0 h → (∀ b o, b ≠ S → s.heap.get? b = some o → h.get? b = some o) →
      h.get? S = some { cls := .type "list", data := .seq #[] c₁ } → codeAny (model prog w) A (.builtin "list.extend.loop" ⟨[.ref S, .ref I, res], []⟩) R { s with heap := h, toks := tk, drawn := d } := by
    intro h c₁ tk hst hk hS₁
    refine codeAny_extend_loopS (W A.in1 hh).toS hn S hSf res zs.length 0 _ #[] c₁ rfl (Nat.zero_le _) hst hS₁ (ItemsOf.nil _) fun s' acc' c' hm hS' hacc => ?_
    rw [Moved.eq_with hm]
    refine hR s'.heap s'.toks d acc' c' zs' (fun b o hb e => hm.heap b o (fun hmem => ?_) (hk b o hb e)) hS' ?_ hp
    · rcases List.mem_cons.mp hmem with e' | hmem
      · exact hb e'
      · exact absurd (Heap.lt_size e) (by rw [List.mem_singleton.mp hmem]; exact Nat.not_lt.mpr hIl)
    · rw [items_eq (by rw [hvl]; exact hacc)]
      exact hvs
  have hS₁ := kp S _ hL
  refine wpAny_bind (wpAny_holding (hint_set (let ⟨o, ho, hc⟩ := hTy; ⟨o, kp _ _ ho, hc⟩) ?_))
  refine wpAny_ite_split (fun _ => ?_) (fun _ => wpAny_pure ⟨plainId_quiet PySem.F.plain_extend_loop _, key _ c₀ _ st (fun b o _ e => kp b o e) hS₁⟩)
  refine wpAny_bind (wpAny_rule ?_)
  refine wpAny_bind ?_
  show wpAny _ _ (updateSeq S (·.push .none) >>= fun _ => updateSeq S (·.pop)) _ _ _
  refine wpAny_bind (wpAny_updateSeq hS₁ rfl ?_)
  have hS₂ := Heap.get?_update_self (Obj.mapSeq (·.push Value.none)) hS₁ rfl
  refine wpAny_updateSeq (hz := by seq_fits) hS₂ rfl ?_
  have hS₃ := Heap.get?_update_self (Obj.mapSeq (·.pop)) hS₂ rfl
  refine wpAny_pure ⟨plainId_quiet PySem.F.plain_extend_loop _, key _ _ _ ?_ (fun b o hb e => ?_) hS₃⟩
  · refine (W A.in1 hh).frame 0 _ _ st fun b hb o e => ?_
    have hbS : b ≠ S := fun h => hSf (h ▸ hb)
    exact (Heap.get?_update_other _ _ (Ne.symm hbS)).trans ((Heap.get?_update_other _ _ (Ne.symm hbS)).trans e)
  · exact (Heap.get?_update_other _ _ (Ne.symm hb)).trans ((Heap.get?_update_other _ _ (Ne.symm hb)).trans (kp b o e))
theorem coll_set {R : List Value → Shared → Prop} (hh : A.handled = none) (hS : SetW prog w s.heap a zs) (hn : zs.length ≤ sizeLine)
    (h : ∀ (h' : Heap) (tk : Nat) (d : Drawn) (acc : Array Value) (zs' : List Str), (∀ b o, s.heap.get? b = some o → h'.get? b = some o) → StrsAre acc.toList zs' → List.Perm zs' zs → R acc.toList { s with heap := h', toks := tk, drawn := d }) :
    wpAny (model prog w) A (collect (.ref a)) R E s := by
  have hlt : a < s.heap.objs.size := let ⟨o, _, _, _, ho, _⟩ := hS; Heap.lt_size ho
  unfold collect
  refine wpAny_bind (wpAny_runValue (codeAny_builtin entry_proto_collect' ?_))
  rw [Around.under_plainId PySem.F.plain_proto_collect _]
  show wpAny _ A.in1 (newList [] >>= fun l => again (.builtin "list.__iadd__" ⟨[l, .ref a], []⟩)) _ _ s
  refine wpAny_bind (wpAny_newObj_type ?_)
  refine wpAny_pure ⟨plainId_quiet PySem.F.plain_list_iadd _, codeAny_builtin entry_list_iadd' ?_⟩
  rw [Around.under_plainId PySem.F.plain_list_iadd _]
  have hS₁ : (s.heap.push { cls := .type "list", data := .seq ([] : List Value).toArray }).get? s.heap.objs.size = some { cls := .type "list", data := .seq #[] } := Heap.get?_push_size _ rfl
  show wpAny _ A.in1 (Builtin.List.listExtendWith (.ref s.heap.objs.size) (.ref a) (.ref s.heap.objs.size)) _ _ _
  have key := ext_set (A := A) (s := { s with heap := s.heap.push { cls := .type "list", data := .seq ([] : List Value).toArray } })
    (R := fun (q : Result) (s' : Shared) => ∃ (h' : Heap) (tk : Nat) (d : Drawn) (acc' : Array Value) (c' : Nat) (zs' : List Str), q = .ok (.ret (.ref s.heap.objs.size)) ∧ s' = { s with heap := h', toks := tk, drawn := d } ∧
      (∀ b o, s.heap.get? b = some o → h'.get? b = some o) ∧ h'.get? s.heap.objs.size = some { cls := .type "list", dict := none, data := .seq acc' c', slots := #[] } ∧ StrsAre acc'.toList zs' ∧ List.Perm zs' zs)
    hh (hS.at fun o e => Heap.get?_push_of_some _ e) s.heap.objs.size (Nat.ne_of_gt hlt) (.ref s.heap.objs.size) 0 hS₁
    (fun h' tk d acc' c' zs' hk hS' hacc hp => ⟨h', tk, d, acc', c', zs', rfl, rfl, fun b o e => hk b o (Nat.ne_of_lt (Heap.lt_size e)) (Heap.get?_push_of_some _ e), hS', hacc, hp⟩) hn
  refine wpAny_mono key (fun fin s' x => ?_) fun e s' x => ?_
  · cases fin with
    | done f =>
      obtain ⟨h', tk, d, acc', c', zs', e, rfl, hk, hS', hacc, hp⟩ := x
      cases e
      show wpAny _ A (load s.heap.objs.size >>= _) _ _ _
      refine wpAny_bind (wpAny_load hS' ?_)
      exact wpAny_pure (h h' tk d acc' zs' hk hacc hp)
    | again c₁ =>
      refine ⟨x.1, codeAny_mono x.2 fun q s₂ y => ?_⟩
      obtain ⟨h', tk, d, acc', c', zs', rfl, rfl, hk, hS', hacc, hp⟩ := y
      show wpAny _ A (load s.heap.objs.size >>= _) _ _ _
      refine wpAny_bind (wpAny_load hS' ?_)
      exact wpAny_pure (h h' tk d acc' zs' hk hacc hp)
  · obtain ⟨_, _, _, _, _, _, e', _⟩ := x
    cases e'
end
end PySem
namespace L2
open PySem PySem.Spec PyProof.Rows Hw
def setH (P : Program) (w : World) (a : Addr) (ss : List Str) : HO := .ext fun h => ∃ zs, SetW P w h a zs ∧ (∀ x, x ∈ zs ↔ x ∈ ss) ∧ zs.length < 64
section
variable {X : Cx}
theorem Inv.drew {pins : List (Addr × Obj)} {σ : St} {H : Hp} {s : Shared} (I : Inv X pins σ H s) (d : Drawn) : Inv X pins σ H { s with drawn := d } := ⟨I.ok, I.os, I.bare, I.base, I.loc, I.cell, I.free, I.freeC, I.pin, I.hok, I.len⟩
theorem call_setS (hc : X.calm = true) : CallR X (.type "set") (fun xs H Q => ∃ (p : Addr) (ss : List Str), xs = [.ref p] ∧ SqL X.K H p (ss.map V.str) ∧ ss.length < 64 ∧ ∀ q, H q = none → Q (.ref q) (upd H q (setH X.prog X.w q ss))) := by
  intro pins s σ H xs us Q I r h
  obtain ⟨p, ss, rfl, hq, hl, q⟩ := h
  obtain ⟨u, rfl, rx⟩ := vals1 r
  cases rx
  obtain ⟨its, r', pl, hz⟩ := I.list hq
  have hlen := r'.length
  rw [List.length_map] at hlen
  refine call_set_strs (I.ok.hd hc) pl.isList (ss := ss) (by simpa using of_vals_str r') (by simp only [List.size_toArray]; unfold scanBound; omega) fun h' tk zs hS hm hzl kp => ?_
  simp only [List.size_toArray] at hzl
  have L := I.laid2 (h' := h') (a := s.heap.objs.size) (o := setH X.prog X.w s.heap.objs.size ss) (t' := tk) (fun b u e => kp b u (Heap.lt_size e) e) (fun b u e => Nat.ne_of_lt (Heap.lt_size e))
    ⟨⟨zs, hS, hm, by omega⟩, let ⟨o, _, _, _, ho, _⟩ := hS; ⟨o, ho⟩, fun h1 h2 ⟨zs, x, y⟩ k => ⟨zs, x.at k, y⟩⟩
  exact ⟨.ref s.heap.objs.size, _, L.2, rfl, q _ L.1⟩
theorem call_sortedS (hc : X.calm = true) : CallR X (.builtin "sorted") (fun xs H Q => ∃ (p : Addr) (ss : List Str), xs = [.ref p] ∧ H p = some (setH X.prog X.w p ss) ∧
    ∀ (l : Addr) (ys : List Str), H l = none → (∀ x, x ∈ ys ↔ x ∈ ss) → ys.Nodup → ys.length < 64 → ys.Pairwise (fun a b => Hw.lt b a = false) → Q (.ref l) (upd H l (.lst (ys.map V.str)))) := by
  intro pins s σ H xs us Q I r h
  obtain ⟨p, ss, rfl, hp, q⟩ := h
  obtain ⟨u, rfl, ru⟩ := vals1 r
  cases ru
  obtain ⟨⟨zs, hS, hm, h64⟩, _, _⟩ := I.hok p _ hp
  have hnd : zs.Nodup := let ⟨_, _, _, _, _, _, _, _, _, _, n, _⟩ := hS; n
  have s64 : 64 ≤ sizeLine := by rw [sizeLine_eq]; decide
  refine Calls.call_function_entry kind_sorted plain_sorted entry_sorted (args_sorted1 _) ?_
  unfold Builtin.«sorted»
  refine wpAny_bind (m := checkCount "sorted" 1 1 _) (wpAny_pure (wpAny_bind (coll_set (A := X.A.in1) (I.ok.hd hc) hS (by omega) fun h' tk d acc zs' kp hS' hpm => ?_)))
  have hla : acc.toList.length < 64 := by rw [StrsAre.length hS', hpm.length_eq]; exact h64
  refine wpAny_bind (wpAny_newList ?_ (by omega))
  have ho : (h'.push (seqObj "list" acc.toList.toArray 0)).get? h'.objs.size = some (seqObj "list" acc.toList.toArray 0) := Heap.get?_push_size _ rfl
  refine wpAny_bind (wpAny_holding (wpAny_call_entry slot_list_sort ⟨_, ho, rfl⟩ entry_list_sort (list_sort_treeK (s := { s with heap := h'.push (seqObj "list" acc.toList.toArray 0), toks := tk, drawn := d }) strKind_oneLt ho hS'.keysOf (fun v1 v2 rest e => keyKind_strs (by rw [← e]; exact hS')) hla fun st' a1 a2 => ⟨_, rfl, ?_⟩) (args_list_sort _)))
  obtain ⟨ss', b1, b2, b3⟩ := sorted_out_str hS' a1 a2
  obtain ⟨e, he⟩ := sortedHeap_at (out := (arrOf st').map (·.2)) ho
  have hss : (ss'.map V.str).length ≤ sizeLine := by
    have h2 : (ss'.map V.str).length = acc.toList.length := by rw [List.length_map, b2.length_eq, ← StrsAre.length hS']
    omega
  have L := I.laid2 (h' := sortedHeap (h'.push (seqObj "list" acc.toList.toArray 0)) h'.objs.size acc.toList ((arrOf st').map (·.2))) (a := h'.objs.size) (o := .lst (ss'.map V.str)) (t' := tk)
    (fun b u q => by
      have l := Heap.lt_size (kp b u q)
      rw [sortedHeap_old (Nat.ne_of_lt l) (by rw [Heap.size_push]; exact Nat.lt_succ_of_lt l)]
      exact Heap.get?_push_of_some _ (kp b u q))
    (fun b u q => Nat.ne_of_lt (Heap.lt_size (kp b u q)))
    ⟨hss, ((arrOf st').map (·.2)).toList, e, strsAre_of b1, by rw [Array.toArray_toList]; exact he⟩
  have hall := b2.trans hpm
  exact wpAny_pure ⟨_, rfl, .ref h'.objs.size, _, L.2.drew d, rfl, q _ ss' L.1 (fun x => (hall.mem_iff).trans (hm x)) (hall.nodup_iff.mpr hnd) (by rw [hall.length_eq]; exact h64) (sortedS_pair _ b3)⟩
end
end L2
namespace Hw
open PySem L2
section
variable {Z : Cz} {H0 H H' : Hp} {d tl sd hd p pf : Addr} {xs : List Str} {vt : V} {c c' : Cd} {kvs kh : List (Key × V)} {S : Sb}
end
theorem Hard.trans {H H1 H2 : Hp} (a : Hard H H1) (b : Hard H1 H2) : Hard H H2 := ⟨fun c xs e => b.t _ _ (a.t _ _ e), fun c C dx fs e => b.i _ _ _ _ (a.i _ _ _ _ e)⟩
end Hw
namespace Hw
open PySem L2
end Hw
namespace L2
open PySem PySem.Spec PyProof.Rows Hw
section
variable {X : Cx}
end
end L2
namespace Hw
open PySem L2
theorem rise_strict {ys : List Str} (h : ys.Pairwise (fun a b => lt b a = false)) (n : ys.Nodup) : ys.Pairwise (fun a b => lt a b = true) := by
  unfold List.Nodup at n
  exact (h.and n).imp fun {a b} ⟨h1, h2⟩ => by
    rcases lt_tri a b with z | z | z
    · exact z
    · exact absurd z h2
    · rw [h1] at z; cases z
theorem rise_same : ∀ {xs ys : List Str}, xs.Pairwise (fun a b => lt a b = true) → ys.Pairwise (fun a b => lt a b = true) → (∀ x, x ∈ xs ↔ x ∈ ys) → xs = ys
  | [], [], _, _, _ => rfl
  | [], y :: _, _, _, h => absurd ((h y).mpr (List.mem_cons_self ..)) (fun z => nomatch z)
  | x :: _, [], _, _, h => absurd ((h x).mp (List.mem_cons_self ..)) (fun z => nomatch z)
  | x :: xs, y :: ys, p, q, h => by
    obtain ⟨px, p'⟩ := List.pairwise_cons.mp p
    obtain ⟨qy, q'⟩ := List.pairwise_cons.mp q
    have e : x = y := by
      rcases List.mem_cons.mp ((h x).mp (List.mem_cons_self ..)) with z | z
      · exact z
      · rcases List.mem_cons.mp ((h y).mpr (List.mem_cons_self ..)) with u | u
        · exact u.symm
        · have := lt_trans (px y u) (qy x z)
          rw [lt_irr] at this; cases this
    subst e
    have t : xs = ys := rise_same p' q' fun z => by
      constructor
      · intro hz
        rcases List.mem_cons.mp ((h z).mp (List.mem_cons_of_mem _ hz)) with u | u
        · subst u
          have := px z hz
          rw [lt_irr] at this; cases this
        · exact u
      · intro hz
        rcases List.mem_cons.mp ((h z).mpr (List.mem_cons_of_mem _ hz)) with u | u
        · subst u
          have := qy z hz
          rw [lt_irr] at this; cases this
        · exact u
    rw [t]
end Hw
namespace Hw
open PySem L2
end Hw
namespace Hw
open PySem L2
end Hw
namespace L2
open PySem PySem.Spec PyProof.Rows Hw
section
variable {X : Cx}
end
end L2
namespace Hw
open PySem L2
end Hw
namespace L2
open PySem PySem.Spec PyProof.Rows Hw
section
variable {X : Cx}
end
end L2
namespace Hw
open PySem L2
inductive Rw where
  | any (x : Str)
  | lt (x : Str) (a : Ps) (n : Int)
  | hold (c : Cd)
def addK (ks : List Str) (x : Str) : List Str := if x ∈ ks then ks else ks ++ [x]
def kn (ks : List Str) : List Rw → List Str
  | [] => ks
  | .any x :: r => kn (addK ks x) r
  | .lt x _ _ :: r => kn (addK ks x) r
  | .hold _ :: r => kn ks r
theorem hard_upd {H : Hp} {l : Addr} {xs ys : List V} (h : H l = some (.lst xs)) : Hard H (upd H l (.lst ys)) :=
  ⟨fun a zs e => by rw [upd_ne (ne_of e h (by intro w; cases w))]; exact e, fun a C dx fs e => by rw [upd_ne (ne_of e h (by intro w; cases w))]; exact e⟩
theorem none_of_new {H : Hp} {a b : Addr} {o : HO} (h : upd H a o b = none) : H b = none := by
  by_cases e : b = a
  · subst e; rw [upd_same] at h; cases h
  · rw [upd_ne e] at h; exact h
end Hw
namespace PySem
open Sem (wp)
section
variable {prog : Program} {w : World} {A : Around} {E : Value → Shared → Prop} {s : Shared}
theorem nxt_tup {j t : Addr} {i : Nat} {its : Array Value} {x : Value} {Q : Value → Shared → Prop} (hj : s.heap.IsTupleIter j t i) (ht : s.heap.IsTuple t its) (hx : its[i]? = some x)
    (hQ : ∀ h', h'.IsTupleIter j t (i + 1) → Heap.SameBut j s.heap h' → Q x { s with heap := h' }) : wpAny (model prog w) A (Builtin.SmallTypes.nextOf (.ref j)) Q E s := by
  obtain ⟨oj, ej, cj, dj⟩ := id hj
  obtain ⟨ot, et, _, nt, dt⟩ := ht
  unfold Builtin.SmallTypes.nextOf
  refine wpAny_bind (wpAny_callSpecial?_slot (name := Str.ofString "__next__") hj.typeIs F.slot_tuple_iterator_next (wpAny_call_entry F.slot_tuple_iterator_next hj.typeIs F.entry_tuple_iterator_next ?_ (F.args_tuple_iterator_next_1 _)))
  show wpAny _ _ (field (Value.ref j) 0 >>= _) _ _ s
  refine wpAny_bind (wpAny_field ej dj (x := .ref t) rfl ?_)
  show wpAny _ _ (if (Value.ref t == Value.none) = true then _ else _) _ _ _
  rw [if_neg (by intro z; cases z)]
  show wpAny _ _ (field (Value.ref j) 1 >>= _) _ _ s
  refine wpAny_bind (wpAny_field ej dj (x := .int i 0) rfl ?_)
  show wpAny _ _ (seqItems? (Value.ref t) >>= _) _ _ s
  refine wpAny_bind (wpAny_seqItems et dt ?_)
  simp only [hx, Int.toNat_natCast]
  refine wpAny_bind (wpAny_setField ej dj (by simp) (wpAny_pure ⟨x, rfl, wpAny_pure (hQ _ ⟨_, Heap.get?_update_self _ ej (Obj.isFreed_of_fields (Obj.data_mapFields dj _)), (Obj.cls_mapFields ..).trans cj, ?_⟩ (Heap.SameBut.update ..))⟩))
  rw [Obj.data_mapFields dj]
  simp [rawInt]
theorem nxt_tupE {j t : Addr} {i : Nat} {its : Array Value} {Q : Value → Shared → Prop} (hh : A.handled = none) (hj : s.heap.IsTupleIter j t i) (ht : s.heap.IsTuple t its) (hx : its[i]? = none)
    (hE : ∀ h' e, Heap.ExtBut j s.heap h' → (∃ o, h'.get? e = some o ∧ o.cls = .type "StopIteration") → E (.ref e) { s with heap := h' }) : wpAny (model prog w) A (Builtin.SmallTypes.nextOf (.ref j)) Q E s := by
  obtain ⟨oj, ej, cj, dj⟩ := id hj
  obtain ⟨ot, et, _, nt, dt⟩ := ht
  unfold Builtin.SmallTypes.nextOf
  refine wpAny_bind (wpAny_callSpecial?_slot (name := Str.ofString "__next__") hj.typeIs F.slot_tuple_iterator_next (wpAny_call_entry F.slot_tuple_iterator_next hj.typeIs F.entry_tuple_iterator_next ?_ (F.args_tuple_iterator_next_1 _)))
  show wpAny _ _ (field (Value.ref j) 0 >>= _) _ _ s
  refine wpAny_bind (wpAny_field ej dj (x := .ref t) rfl ?_)
  show wpAny _ _ (if (Value.ref t == Value.none) = true then _ else _) _ _ _
  rw [if_neg (by intro z; cases z)]
  show wpAny _ _ (field (Value.ref j) 1 >>= _) _ _ s
  refine wpAny_bind (wpAny_field ej dj (x := .int i 0) rfl ?_)
  show wpAny _ _ (seqItems? (Value.ref t) >>= _) _ _ s
  refine wpAny_bind (wpAny_seqItems et dt ?_)
  simp only [hx, Int.toNat_natCast]
  refine wpAny_bind (wpAny_rule (wpAny_bind (wpAny_setField ej dj (by simp) ?_)))
  show wpAny _ _ (newExc (Value.type "StopIteration") [] >>= _) _ _ _
  refine wpAny_bind ?_
  simp only [newExc, newTuple]
  refine wpAny_bind (wpAny_newObj_type ?_ (by size_fits))
  refine wpAny_bind (m := firstArgMember _ _) (wpAny_of_eq (a := Value.none) (by first | rfl | (simp only [firstArgMember] <;> rfl)) ?_)
  refine wpAny_newObj_type ?_ (by size_fits)
  simp only [raiseNew]
  refine wpAny_bind (wpAny_handled ?_)
  first
    | rw [show A.in1.handled = none from hh]
    | rw [hh]
  refine wpAny_bind (wpAny_pure (wpAny_throw (hE _ _ (((Heap.SameBut.update ..).extBut.push _).push _) ⟨_, Heap.get?_push_size _ rfl, rfl⟩)))
theorem drw_tup {B : Around} (hh : B.handled = none) (j t : Addr) (hne : t ≠ j) (its : Array Value) :
    Draws prog w B j [j, t] its.size (fun i v => its[i]? = some v) (fun i h => h.IsTupleIter j t i ∧ h.IsTuple t its) where
  live := fun _ _ st => let ⟨o, ho, _⟩ := st.1; ⟨o, ho⟩
  frame := fun _ _ _ st hk => ⟨let ⟨o, ho, r⟩ := st.1; ⟨o, hk j (by simp) o ho, r⟩, let ⟨o, ho, r⟩ := st.2; ⟨o, hk t (by simp) o ho, r⟩⟩
  item := fun i s Q E hi st hQ => nxt_tup st.1 st.2 (x := its[i]) (by simp [hi]) fun h' a b => hQ _ h' s.toks (by simp [hi]) ⟨a, st.2.extBut b.extBut hne⟩ b
  done := fun s Q E st hE => nxt_tupE hh st.1 st.2 (by simp) hE
set_option maxHeartbeats 4000000 in
theorem enu_newT (t : Addr) (its : Array Value) (n : Nat) (dd : Option Addr) (sl : Array (Option Value)) :
    Meets (Builtin.«enumerate.__new__» ⟨[.type "enumerate", .ref t], []⟩) (fun _ R s => s.heap.get? t = some { cls := .type "tuple", dict := dd, data := .seq its n, slots := sl } ∧
      R (.ok (.ret (.ref (s.heap.push { cls := .type "tuple_iterator", data := .fields #[.ref t, .int 0 0] }).objs.size)))
        { s with heap := (s.heap.push { cls := .type "tuple_iterator", data := .fields #[.ref t, .int 0 0] }).push { cls := .type "enumerate", data := .fields #[.none, .bool false, .ref s.heap.objs.size, rawInt 0, .none, .none] } }) :=
  .of_wp fun prog w A R s h => by
    obtain ⟨hp, g, d, tk, os⟩ := s
    obtain ⟨hl, h⟩ := h
    have hsub := sub_enumerate
    have hT : Heap.IsTuple (Shared.heap ⟨hp, g, d, tk, os⟩) t its := ⟨_, hl, rfl, n, rfl⟩
    wp_walk using AutoSeq1.wpAny_loadPart' hl
    refine wpAny_stack_any fun st => wpAny_pure ?_
    split
    · rename_i c _ _ _ _ _
      cases (c == Value.type "enumerate") <;> (wp_walk using AutoSeq1.wpAny_loadPart' hl, wpAny_pyIter_tuple hT; exact ⟨_, rfl, h⟩)
    · wp_walk using AutoSeq1.wpAny_loadPart' hl, wpAny_pyIter_tuple hT
      exact ⟨_, rfl, h⟩
theorem call_enuT {t : Addr} {its : Array Value} {Q : Value → Shared → Prop} (hT : s.heap.IsTuple t its)
    (h : ∀ h', IsEnum h' (s.heap.objs.size + 1) s.heap.objs.size 0 .none → h'.IsTupleIter s.heap.objs.size t 0 → h'.objs.size = s.heap.objs.size + 2 → (∀ b o, s.heap.get? b = some o → h'.get? b = some o) → Q (.ref (s.heap.objs.size + 1)) { s with heap := h' }) :
    wpAny (model prog w) A (call (.type "enumerate") [.ref t]) Q E s := by
  obtain ⟨⟨c, dd, dt, sl⟩, hl, hc, n, hd⟩ := hT
  replace hc : c = .type "tuple" := hc
  replace hd : dt = .seq its n := hd
  subst hc hd
  refine callType_new F.called_enumerate (by decide) (F.typeCall_enumerate_1 _) (F.newCall_enumerate_1 _) (fun obj => F.args_object_init_2 obj _) F.entry_enumerate_new (enu_newT t its n dd sl) ⟨hl, ?_⟩
  have hz : (s.heap.push { cls := .type "tuple_iterator", data := .fields #[.ref t, .int 0 0] }).objs.size = s.heap.objs.size + 1 := Heap.size_push ..
  show _ ∧ _
  rw [hz]
  have he : IsEnum ((s.heap.push { cls := .type "tuple_iterator", data := .fields #[.ref t, .int 0 0] }).push { cls := .type "enumerate", data := .fields #[.none, .bool false, .ref s.heap.objs.size, rawInt 0, .none, .none] }) (s.heap.objs.size + 1) s.heap.objs.size 0 .none := by
    have q := Heap.get?_push_size (s.heap.push { cls := .type "tuple_iterator", data := .fields #[.ref t, .int 0 0] }) (o := { cls := .type "enumerate", data := .fields #[.none, .bool false, .ref s.heap.objs.size, rawInt 0, .none, .none] }) rfl
    rw [hz] at q
    exact q
  exact ⟨⟨_, he, rfl⟩, h _ he ⟨_, Heap.get?_push_of_some _ (Heap.get?_push_size _ rfl), rfl, rfl⟩ (by rw [Heap.size_push, hz]) fun b o x => Heap.get?_push_of_some _ (Heap.get?_push_of_some _ x)⟩
end
end PySem
namespace L2
open PySem PySem.Spec PyProof.Rows Hw
section
variable {X : Cx}
def SqV (H : Hp) (a : Addr) (xs : List V) : Prop := H a = some (.lst xs) ∨ H a = some (.tup xs)
def rIsiS (K : PySem.W.Frag) : List V → Hp → VK → Prop := fun vs H Q => ∃ (a tp : Addr) (xs : List V), vs = [.ref a, .ref tp] ∧ SqV H a xs ∧ SqT K H tp [.ty "list", .ty "tuple"] ∧ PySem.W.kitOne K (.type "tuple") (.type "list") = some false ∧ Q (.bl true) H
theorem call_isiS : CallR X (.builtin "isinstance") (rIsiS X.K) := by
  intro pins s σ H xs us Q I r h
  obtain ⟨a, tp, ys, rfl, ha, ht, e, q⟩ := h
  obtain ⟨w1, w2, rfl, rx, r2⟩ := vals2 r
  cases rx
  cases r2
  obtain ⟨its, r', pl, hz⟩ := I.tuple ht
  obtain ⟨u1, u2, rfl, q1, q2⟩ := vals2 r'
  cases q1
  cases q2
  obtain ⟨⟨cls, dd, data, sl⟩, ho, hc, n, hd⟩ := pl
  simp only at hc hd
  subst hc hd
  have fin : ∀ tk, EP X pins σ Q (.bool true) { s with toks := tk } := fun tk => ⟨.bl true, H, I.tok _, rfl, q⟩
  have k1 : PySem.W.kitOne X.K (.type "list") (.type "list") = some true := by unfold PySem.W.kitOne; rw [if_pos (beq_self_eq_true _)]
  have k2 : PySem.W.kitOne X.K (.type "tuple") (.type "tuple") = some true := by unfold PySem.W.kitOne; rw [if_pos (beq_self_eq_true _)]
  rcases ha with ha | ha
  · obtain ⟨_, _, m, _, h1⟩ := (show ObjOk X.prog X.w H s.heap a (.lst ys) from I.hok a _ ha)
    exact PySem.W.kia_tup PySem.W.kitx_list I.kIn ⟨_, h1, rfl⟩ ho (by unfold PySem.W.kitAny; rw [k1]) (fun z => nomatch z) fin
  · obtain ⟨_, _, _, p⟩ := (show ObjOk X.prog X.w H s.heap a (.tup ys) from I.hok a _ ha)
    obtain ⟨o, h1, h2, _⟩ := p
    exact PySem.W.kia_tup PySem.W.kitx_tuple I.kIn ⟨o, h1, h2⟩ ho (by unfold PySem.W.kitAny; rw [e]; unfold PySem.W.kitAny; rw [k2]) (fun z => nomatch z) fin
theorem Inv.turned2 {pins : List (Addr × Obj)} {σ : St} {H : Hp} {s : Shared} {h' : Heap} {t' : Nat} {a b : Addr} (I : Inv X pins σ H s) (k : ∀ c o, c ≠ a → c ≠ b → s.heap.get? c = some o → h'.get? c = some o) (fa : FpOk X pins H a) (fb : FpOk X pins H b) : Inv X pins σ H { s with heap := h', toks := t' } := by
  have na : ∀ c u, H c = some u → c ≠ a := fun c u e z => by rw [z, fa.1] at e; cases e
  have nb : ∀ c u, H c = some u → c ≠ b := fun c u e z => by rw [z, fb.1] at e; cases e
  have k2 : ∀ c o, c ∉ [a, b] → s.heap.get? c = some o → h'.get? c = some o := fun c o hc e => k c o (fun z => hc (by simp [z])) (fun z => hc (by simp [z])) e
  refine I.step (g' := s.gens) (d' := s.drawn) (ch := [a, b]) (fun c hc => ?_) (fun c o _ _ hc e _ => k2 c o hc e) (fun c o _ _ hc e _ => ⟨o.slots, k2 c o hc e⟩) (fun _ _ _ _ n => n)
    (fun c o hc e => ⟨o, k2 c o hc e⟩) (fun _ _ e => e) (fun _ _ _ e => e) (fun c ps e => ⟨#[], by rw [e]; simp⟩) (fun m hm => ?_) (fun c u e => ?_) I.bare
  · obtain ⟨_, a1, _, a3, a4, a5⟩ := fa
    obtain ⟨_, b1, _, b3, b4, b5⟩ := fb
    have e : c = a ∨ c = b := by simpa using hc
    rcases e with e | e <;> subst e
    · exact ⟨a3, a1, a4, a5⟩
    · exact ⟨b3, b1, b4, b5⟩
  · obtain ⟨o, es, ep, ho, r⟩ := hm
    exact ⟨o, es, ep, k _ o (Ne.symm fa.2.1) (Ne.symm fb.2.1) ho, r⟩
  · refine (I.hok c u e).stay (fun d v hd q => k d v ?_ ?_ q) (fun _ q => q) fun _ _ q => q
    · rcases hd with z | z
      · rw [z]; exact na c u e
      · exact na d _ z
    · rcases hd with z | z
      · rw [z]; exact nb c u e
      · exact nb d _ z
end
def SqK (K : PySem.W.Frag) (k : Bool) (H : Hp) (a : Addr) (xs : List V) : Prop := if k then SqL K H a xs else SqT K H a xs
def Ien (K : PySem.W.Frag) (k : Bool) (a : Addr) : It :=
  ⟨fun i H => ∃ xs x, SqK K k H a xs ∧ xs[i]? = some x, fun i H x H' => ∃ t y, H t = none ∧ x = .ref t ∧ (∀ xs, SqK K k H a xs → xs[i]? = some y) ∧ H' = upd H t (.tup [.int i, y]), fun i H => ∃ xs, SqK K k H a xs ∧ xs.length ≤ i⟩
theorem sqk_inj {X : Cx} {pins : List (Addr × Obj)} {σ : St} {H : Hp} {s : Shared} {k : Bool} {a : Addr} {xs ys : List V} (I : Inv X pins σ H s) (h : SqK X.K k H a xs) (g : SqK X.K k H a ys) : xs = ys := by
  cases k
  · exact I.tuple_inj h g
  · exact I.list_inj h g
def Inn (k : Bool) (j a : Addr) (i : Nat) (h : Heap) : Prop := if k then h.IsListIter j a i else h.IsTupleIter j a i
theorem inn_obj {k : Bool} {j a : Addr} {i : Nat} {h : Heap} (st : Inn k j a i h) : ∃ o, h.get? j = some o ∧ ∀ v, o.data ≠ .cell v := by
  cases k
  · obtain ⟨o, e, c, d⟩ := (show h.IsTupleIter j a i from st)
    exact ⟨o, e, fun v z => by rw [d] at z; cases z⟩
  · obtain ⟨o, e, c, d⟩ := (show h.IsListIter j a i from st)
    exact ⟨o, e, fun v z => by rw [d] at z; cases z⟩
theorem inn_keep {k : Bool} {j a : Addr} {i : Nat} {h h' : Heap} (st : Inn k j a i h) (e : ∀ o, h.get? j = some o → h'.get? j = some o) : Inn k j a i h' := by
  cases k
  · obtain ⟨o, q, r⟩ := (show h.IsTupleIter j a i from st)
    exact ⟨o, e o q, r⟩
  · obtain ⟨o, q, r⟩ := (show h.IsListIter j a i from st)
    exact ⟨o, e o q, r⟩
theorem inn_draw {X : Cx} {pins : List (Addr × Obj)} {σ : St} {H : Hp} {s : Shared} {k : Bool} {j a : Addr} {xs : List V} (hc : X.calm = true) (I : Inv X pins σ H s) (hq : SqK X.K k H a xs) (nja : a ≠ j) :
    ∃ its : List Value, Vals xs its ∧ ∃ St : Nat → Heap → Prop, Draws X.prog X.w X.A.in1 j [j, a] its.length (fun i v => its[i]? = some v) St ∧ (∀ i, Inn k j a i s.heap → St i s.heap) ∧ ∀ i h, St i h → Inn k j a i h := by
  have hh : X.A.in1.handled = none := I.ok.hd hc
  cases k
  · obtain ⟨its, rv, p, _⟩ := I.tuple (show SqT X.K H a xs from hq)
    have D := drw_tup (prog := X.prog) (w := X.w) (B := X.A.in1) hh j a nja its.toArray
    refine ⟨its, rv, fun i h => h.IsTupleIter j a i ∧ h.IsTuple a its.toArray, ?_, fun i st => ⟨st, p⟩, fun i h st => st.1⟩
    simpa using D
  · obtain ⟨its, rv, p, _⟩ := I.list (show SqL X.K H a xs from hq)
    have D := Draws.list (prog := X.prog) (w := X.w) (A := X.A.in1) hh j a nja its.toArray
    refine ⟨its, rv, fun i h => h.IsListIter j a i ∧ h.IsList a its.toArray, ?_, fun i st => ⟨st, p.isList⟩, fun i h st => st.1⟩
    simpa using D
theorem turn_enum {P : Program} {w : World} {K : PySem.W.Frag} {elts : List Expr} {x1 : Nat} {pos : Pos} (k : Bool) (a e j : Addr) (nej : e ≠ j) (nae : a ≠ e) (naj : a ≠ j) :
    Turn P w K (.Tuple elts x1 pos) (Ien K k a) [e, j] e (fun i h => (∃ old, IsEnum h e j i old) ∧ Inn k j a i h) where
  mem := by simp
  obj := fun i h st b hb => by
    obtain ⟨⟨old, he⟩, hi⟩ := st
    have q : b = e ∨ b = j := by simpa using hb
    rcases q with q | q <;> subst q
    · exact ⟨_, he, fun v z => by
        have z' : Data.fields _ = Data.cell v := z
        cases z'⟩
    · exact inn_obj hi
  keep := fun i h h' st q => ⟨let ⟨old, he⟩ := st.1; ⟨old, q e (by simp) _ he⟩, inn_keep st.2 fun o z => q j (by simp) o z⟩
  item := by
    intro X hP hw hK hc i pins s σ H E I hf st hg
    subst hP hw hK
    obtain ⟨⟨old, he⟩, hi⟩ := st
    obtain ⟨xs, x, hq, hx⟩ := hg
    obtain ⟨its, rv, St, D, d1, d2⟩ := inn_draw hc I hq naj
    obtain ⟨u, hu, ru⟩ := rv.get hx
    have fe := hf e (by simp)
    have fj := hf j (by simp)
    have hlt : i < its.length := (List.getElem?_eq_some_iff.mp hu).1
    have hel : e < s.heap.objs.size := Heap.lt_size he
    have hjl : j < s.heap.objs.size := by obtain ⟨o, z, _⟩ := inn_obj hi; exact Heap.lt_size z
    refine wpAny_pyNext_enum_itemD D he (d1 i hi) hlt nej (by simp [nej, Ne.symm nae]) fun y h1 tk hP out st1 ht hsz hk => ?_
    have hyu : y = u := Option.some.inj (hP.symm.trans hu)
    subst hyu
    refine ⟨_, rfl, ?_⟩
    refine wpAny_letOwnedTupleGo_enum out fun h2 he2 sb => ?_
    have hn : H s.heap.objs.size = none := I.hok.fresh (Nat.le_refl _)
    have I1 : Inv X pins σ (upd H s.heap.objs.size (.tup [.int i, x])) { s with heap := s.heap.push { cls := .type "tuple", data := .seq #[.int i tk, y] }, toks := tk + 1 } :=
      I.laid (t' := tk + 1) (o := .tup [.int i, x]) (fun b o q => Heap.get?_push_of_some _ q) (Nat.le_refl _)
        ⟨by show 2 ≤ sizeLine; rw [sizeLine_eq]; omega, [.int i tk, y], .cons ⟨_, rfl⟩ (.cons ru .nil), _, Heap.get?_push_size _ rfl, rfl, _, rfl⟩
    have ne1 : s.heap.objs.size ≠ e := Nat.ne_of_gt hel
    have ne2 : s.heap.objs.size ≠ j := Nat.ne_of_gt hjl
    have up : ∀ {b : Addr}, b ≠ s.heap.objs.size → FpOk X pins H b → FpOk X pins (upd H s.heap.objs.size (.tup [.int i, x])) b := fun nb f => ⟨by rw [upd_ne nb]; exact f.1, f.2⟩
    have I2 : Inv X pins σ (upd H s.heap.objs.size (.tup [.int i, x])) { s with heap := h2, toks := tk + 1 } :=
      Inv.turned2 (s := { s with heap := s.heap.push { cls := .type "tuple", data := .seq #[.int i tk, y] }, toks := tk + 1 }) (t' := tk + 1) (h' := h2) (a := e) (b := j) I1 (fun c o hce hcj q => by
        refine sb.extBut c o hce ?_
        rcases Heap.get?_push_cases (show (s.heap.push { cls := .type "tuple", data := .seq #[.int i tk, y] }).get? c = some o from q) with ⟨e1, e2⟩ | e1
        · rw [e1, e2]; exact ht
        · exact hk c o hce hcj e1) (up ne1.symm fe) (up ne2.symm fj)
    refine ⟨.ref s.heap.objs.size, _, I2, rfl, ⟨_, x, hn, rfl, fun ys hy => by rw [sqk_inj I hy hq]; exact hx, rfl⟩, ⟨⟨y, by simpa using he2⟩, inn_keep (d2 _ _ st1) fun o z => sb.extBut j o (Ne.symm nej) z⟩, fun b hb => ?_⟩
    have q : b = e ∨ b = j := by simpa using hb
    rcases q with q | q <;> subst q
    · exact (up ne1.symm fe).1
    · exact (up ne2.symm fj).1
  done := by
    intro X hP hw hK hc i pins s σ H E I hf st hg
    subst hP hw hK
    obtain ⟨⟨old, he⟩, hi⟩ := st
    obtain ⟨xs, hq, hx⟩ := hg
    obtain ⟨f0, f1, f2, f3, f4, f5⟩ := hf j (by simp)
    have key : ∀ (its : List Value), Vals xs its → (its.toArray)[i]? = none := fun its rv => by
      have := rv.length
      rw [List.getElem?_toArray]
      exact List.getElem?_eq_none_iff.mpr (by omega)
    have fin : ∀ h', Heap.ExtBut j s.heap h' → (none : Option Value) = none ∧ Inv X pins σ H { s with heap := h' } := fun h' eb => ⟨rfl, I.turned (t' := s.toks) (fun b o hb z => eb b o hb z) f0 f1 f3 f4 f5⟩
    have hT : s.TypeIs (.ref e) "enumerate" := ⟨_, he, rfl⟩
    unfold pyNext
    refine wpAny_bind (wpAny_attempt (wpAny_callSpecial?_slot (name := Str.ofString "__next__") hT F.slot_enumerate_next (wpAny_call_entry F.slot_enumerate_next hT F.entry_enumerate_next ?_ (F.args_enumerate_next_1 _))))
    show wpAny _ _ (field (Value.ref e) 2 >>= _) _ _ _
    refine wpAny_bind (wpAny_field he rfl (x := .ref j) rfl ?_)
    have nx : ∀ {Q : Value → Shared → Prop} {E' : Value → Shared → Prop}, (∀ h' z, Heap.ExtBut j s.heap h' → (∃ o, h'.get? z = some o ∧ o.cls = .type "StopIteration") → E' (.ref z) { s with heap := h' }) → wpAny (model X.prog X.w) X.A.in1 (Builtin.SmallTypes.nextOf (.ref j)) Q E' s := fun hE => by
      cases k
      · obtain ⟨its, rv, p, _⟩ := I.tuple (show SqT X.K H a xs from hq)
        exact nxt_tupE (I.ok.hd hc) hi p (key its rv) hE
      · obtain ⟨its, rv, p, _⟩ := I.list (show SqL X.K H a xs from hq)
        exact wpAny_nextOf_list_end (I.ok.hd hc) hi p.isList (key its rv) hE
    refine wpAny_bind (nx fun h' x he' hx' => ?_)
    obtain ⟨o, ho, hcl⟩ := hx'
    refine wpAny_bind (wpAny_isInstance (T := "StopIteration") (b := true) ⟨o, ho, hcl⟩ isSubtype_stop ?_)
    exact wpAny_pure (fin _ he')
  self := fun _ _ _ _ _ st h => let ⟨_, e⟩ := st.1; wpAny_pyIter_enum e h
section
variable {X : Cx} {l : Expr} {tl : TE} {p pos : Pos}
def iEnum (K : PySem.W.Frag) (tl : TA) : TI := fun σ H R => tl σ H fun vs H1 => ∃ a, vs = [.ref a] ∧ (((∃ xs, SqL K H1 a xs) ∧ R (Ien K true a) H1) ∨ ((∃ xs, SqT K H1 a xs) ∧ R (Ien K false a) H1))
theorem pi_enum {elts : List Expr} {x1 : Nat} {tpos : Pos} {ta : TA} (hg : Gl X "enumerate") (hm : X.mg "enumerate" = none) (hv : bootBuiltins "enumerate" = some (.type "enumerate")) (ha : PA X [l] ta) (hs : starEach [l] X.env = [(false, eval l X.env)] := by rfl) : PI X (.Tuple elts x1 tpos) (.Call (.Name "enumerate" p) [l] [] pos) (iEnum X.K ta) := by
  intro pins s σ H R I h
  refine Call_ (ld_blt I hg hm hv (PyProof.Rows.callWith_type1 (thn (ha pos pins s σ H _ I h) fun us s1 ⟨vs, H1, I1, r1, q1⟩ => ?_) hs rfl))
  obtain ⟨a, rfl, q⟩ := q1
  obtain ⟨u, rfl, ru⟩ := vals1 r1
  cases ru
  have fp : ∀ b, s1.heap.objs.size ≤ b → FpOk X pins H1 b := fun b hb => I1.fpOk hb (I1.hok.fresh hb)
  have fps : ∀ b ∈ [s1.heap.objs.size + 1, s1.heap.objs.size], FpOk X pins H1 b := fun b hb => by
    have z : b = s1.heap.objs.size + 1 ∨ b = s1.heap.objs.size := by simpa using hb
    rcases z with z | z <;> subst z
    · exact fp _ (Nat.le_succ _)
    · exact fp _ (Nat.le_refl _)
  rcases q with ⟨⟨xs, hq⟩, q⟩ | ⟨⟨xs, hq⟩, q⟩
  · obtain ⟨its, rv, pl, hz⟩ := I1.list hq
    have hlt : a < s1.heap.objs.size := by obtain ⟨o, e, _⟩ := pl.isList; exact Heap.lt_size e
    refine call_enumerate_list pl.isList fun h' e1 e2 e3 kp => wpAny_pyIter_enum e1 ?_
    exact ⟨_, _, _, _, H1, rfl, I1.kept (t' := s1.toks) kp, turn_enum true a _ _ (Nat.succ_ne_self _) (Nat.ne_of_lt (Nat.lt_succ_of_lt hlt)) (Nat.ne_of_lt hlt), ⟨⟨_, e1⟩, e2⟩, fps, q⟩
  · obtain ⟨its, rv, pl, hz⟩ := I1.tuple hq
    have hlt : a < s1.heap.objs.size := by obtain ⟨o, e, _⟩ := (show s1.heap.IsTuple a its.toArray from pl); exact Heap.lt_size e
    refine call_enuT (show s1.heap.IsTuple a its.toArray from pl) fun h' e1 e2 e3 kp => wpAny_pyIter_enum e1 ?_
    exact ⟨_, _, _, _, H1, rfl, I1.kept (t' := s1.toks) kp, turn_enum false a _ _ (Nat.succ_ne_self _) (Nat.ne_of_lt (Nat.lt_succ_of_lt hlt)) (Nat.ne_of_lt hlt), ⟨⟨_, e1⟩, e2⟩, fps, q⟩
end
abbrev ForX (J : It) (g : TG) (tb : TS) (D : Ends) (σ : St) (H : Hp) : Prop := ∃ W : Nat → Nat → St → Hp → Prop, (∃ m, W 0 m σ H) ∧ ∀ i m σ H, W i m σ H →
  (J.stop i H ∧ D.nx σ H) ∨ (J.go i H ∧ ∃ N : St → Hp → Prop, (∀ σ' H', N σ' H' → ∃ m', m' < m ∧ W (i + 1) m' σ' H') ∧ ∀ x H', J.yld i H x H' → g x σ H' fun σ2 H2 => tb { D with nx := N, ct := N, bk := D.nx } σ2 H2)
theorem for_enumK {K : PySem.W.Frag} {k : Bool} {a : Addr} {xs : List V} {g : TG} {tb : TS} {D : Ends} {σ : St} {H : Hp} (Pv : Nat → St → Hp → Prop) (h0 : Pv 0 σ H) (hl : ∀ i σ H, Pv i σ H → SqK K k H a xs)
    (hs : ∀ i x t σ H, xs[i]? = some x → H t = none → Pv i σ H → g (.ref t) σ (upd H t (.tup [.int i, x])) fun σ2 H2 => tb { D with nx := Pv (i + 1), ct := Pv (i + 1), bk := D.nx } σ2 H2) (hd : ∀ σ H, Pv xs.length σ H → D.nx σ H) : ForX (Ien K k a) g tb D σ H := by
  refine ⟨fun i m σ H => m = xs.length - i ∧ i ≤ xs.length ∧ Pv i σ H, ⟨xs.length, by simp, Nat.zero_le _, h0⟩, ?_⟩
  rintro i m σ H ⟨rfl, hi, p⟩
  have q := hl i σ H p
  by_cases hlt : i < xs.length
  · refine .inr ⟨⟨xs, xs[i], q, by simp [hlt]⟩, Pv (i + 1), fun σ' H' p' => ⟨xs.length - (i + 1), by omega, rfl, hlt, p'⟩, fun x H' y => ?_⟩
    obtain ⟨t, z, ht, ex, hz, eH⟩ := y
    subst ex eH
    exact hs i z t σ H (hz xs q) ht p
  · have e : i = xs.length := by omega
    subst e
    exact .inl ⟨⟨xs, q, Nat.le_refl _⟩, hd σ H p⟩
theorem for_enum {K : PySem.W.Frag} {a : Addr} {xs : List V} {g : TG} {tb : TS} {D : Ends} {σ : St} {H : Hp} (h : SqV H a xs) (Pv : Nat → St → Hp → Prop) (h0 : Pv 0 σ H) (hl : ∀ i σ H', Pv i σ H' → ∀ o, H a = some o → H' a = some o)
    (hs : ∀ i x t σ H, xs[i]? = some x → H t = none → Pv i σ H → g (.ref t) σ (upd H t (.tup [.int i, x])) fun σ2 H2 => tb { D with nx := Pv (i + 1), ct := Pv (i + 1), bk := D.nx } σ2 H2) (hd : ∀ σ H, Pv xs.length σ H → D.nx σ H) :
    (((∃ xs, SqL K H a xs) ∧ ForX (Ien K true a) g tb D σ H) ∨ ((∃ xs, SqT K H a xs) ∧ ForX (Ien K false a) g tb D σ H)) := by
  rcases h with h | h
  · exact .inl ⟨⟨xs, SqL.of h⟩, for_enumK (k := true) Pv h0 (fun i σ H' p => SqL.of (hl i σ H' p _ h)) hs hd⟩
  · exact .inr ⟨⟨xs, SqT.of h⟩, for_enumK (k := false) Pv h0 (fun i σ H' p => SqT.of (hl i σ H' p _ h)) hs hd⟩
end L2
namespace Hw
open PySem L2
abbrev Sm := Ps × Int
def ev (s : Sm) (f : Str → Int) : Int := s.2 + lin s.1 f
def SmV (C : Addr) (H : Hp) (v : V) (s : Sm) : Prop := ∃ p, v = .ref p ∧ SumAt C H p s.1 s.2
theorem SmV.hard {C : Addr} {H H' : Hp} {v : V} {s : Sm} (h : SmV C H v s) (k : Hard H H') : SmV C H' v s := let ⟨p, e, q⟩ := h; ⟨p, e, q.hard k⟩
abbrev Sms (C : Addr) (H : Hp) : List V → List Sm → Prop := Paired (SmV C H)
theorem Sms.hard {C : Addr} {H H' : Hp} {vs : List V} {ss : List Sm} (h : Sms C H vs ss) (k : Hard H H') : Sms C H' vs ss := Paired.mapP h fun _ _ q => q.hard k
def Gm (xs : List Str) (s : Sm) : Prop := Canon s.1 ∧ ∀ t ∈ keys s.1, t ∈ xs
theorem Gm.len {xs : List Str} {s : Sm} (h : Gm xs s) (hx : xs.length ≤ 6) : s.1.length ≤ 6 := by
  have := nodup_le (canon_nd h.1) h.2
  unfold keys at this
  rw [List.length_map] at this
  omega
theorem gat_gm {xs : List Str} {ps ts : Ps} {n : Int} (g : Gat ps ts) (h : ∀ t ∈ keys ps, t ∈ xs) : Gm xs (ts, n) := ⟨g.1, fun t ht => h t (g.keys ht)⟩
theorem keys_ap2 (a b : Ps) : keys (a ++ b) = keys a ++ keys b := List.map_append ..
theorem keys_map (a : Ps) (f : Str × Int → Int) : keys (a.map fun p => (p.1, f p)) = keys a := by unfold keys; rw [List.map_map]; rfl
theorem canon_map {a : Ps} {f : Str × Int → Int} (c : Canon a) (h : ∀ p ∈ a, f p ≠ 0) : Canon (a.map fun p => (p.1, f p)) := by
  refine ⟨?_, fun q hq => ?_⟩
  · rw [List.pairwise_map]
    exact c.up
  · obtain ⟨p, hp, rfl⟩ := List.mem_map.mp hq
    exact h p hp
def opp (s : Sm) : Sm := (s.1.map fun p => (p.1, -p.2), -s.2 - 1)
theorem gm_opp {xs : List Str} {s : Sm} (h : Gm xs s) : Gm xs (opp s) := by
  refine ⟨canon_map (f := fun p => -p.2) h.1 fun p hp z => h.1.nz p hp (by omega), fun t ht => h.2 t ?_⟩
  rw [← keys_map s.1 fun p => -p.2]
  exact ht
inductive Ln where
  | cut (k : Nat) (d : Int)
  | add (ws : List (Int × Nat))
def WkAt (H : Hp) (v : V) (p : Int × Nat) : Prop := ∃ q, v = .ref q ∧ H q = some (.tup [.int p.1, .int p.2])
def LnAt (H : Hp) (v : V) : Ln → Prop
  | .cut k d => ∃ a, v = .ref a ∧ SqV H a [.str "cut", .int k, .int d]
  | .add ws => ∃ a t us, v = .ref a ∧ SqV H a [.str "add", .ref t] ∧ H t = some (.tup us) ∧ Paired (WkAt H) us ws
theorem _root_.L2.SqV.same {H H' : Hp} {a : Addr} {xs : List V} (h : SqV H a xs) (s : Same H H') : SqV H' a xs := h.elim (fun z => .inl (s _ _ z)) fun z => .inr (s _ _ z)
theorem WkAt.same {H H' : Hp} {v : V} {p : Int × Nat} (h : WkAt H v p) (s : Same H H') : WkAt H' v p := let ⟨q, e, z⟩ := h; ⟨q, e, s _ _ z⟩
theorem LnAt.same {H H' : Hp} {v : V} (s : Same H H') : ∀ {l : Ln}, LnAt H v l → LnAt H' v l
  | .cut k d, ⟨a, e, q⟩ => ⟨a, e, q.same s⟩
  | .add ws, ⟨a, t, us, e, q, et, r⟩ => ⟨a, t, us, e, q.same s, s _ _ et, Paired.mapP r fun _ _ z => z.same s⟩
abbrev Lns (H : Hp) : List V → List Ln → Prop := Paired (LnAt H)
theorem Lns.same {H H' : Hp} {vs : List V} {ls : List Ln} (h : Lns H vs ls) (s : Same H H') : Lns H' vs ls := Paired.mapP h fun _ _ z => z.same s
def s0 : Sm := ([], 0)
def catP (ss : List Sm) : List (Int × Nat) → Ps
  | [] => []
  | p :: r => ((ss.getD p.2 s0).1.map fun q => (q.1, p.1 * q.2)) ++ catP ss r
def catN (ss : List Sm) : List (Int × Nat) → Int
  | [] => 0
  | p :: r => p.1 * (ss.getD p.2 s0).2 + catN ss r
theorem catP_snoc (ss : List Sm) (p : Int × Nat) : ∀ ws, catP ss (ws ++ [p]) = catP ss ws ++ ((ss.getD p.2 s0).1.map fun q => (q.1, p.1 * q.2))
  | [] => by simp [catP]
  | x :: r => by rw [List.cons_append, catP, catP, catP_snoc ss p r, List.append_assoc]
theorem catN_snoc (ss : List Sm) (p : Int × Nat) : ∀ ws, catN ss (ws ++ [p]) = catN ss ws + p.1 * (ss.getD p.2 s0).2
  | [] => by simp [catN]
  | x :: r => by rw [List.cons_append, catN, catN, catN_snoc ss p r]; omega
def evW (ss : List Sm) (f : Str → Int) : List (Int × Nat) → Int
  | [] => 0
  | p :: r => p.1 * ev (ss.getD p.2 s0) f + evW ss f r
theorem lin_smulL (k : Int) (a : Ps) (f : Str → Int) : lin (a.map fun q => (q.1, k * q.2)) f = k * lin a f := by
  have e : (a.map fun q => (q.1, k * q.2)) = a.map fun q => (q.1, q.2 * k) := List.map_congr_left fun q _ => by rw [Int.mul_comm]
  rw [e, lin_smul, Int.mul_comm]
theorem cat_ev (ss : List Sm) (f : Str → Int) : ∀ ws, catN ss ws + lin (catP ss ws) f = evW ss f ws
  | [] => rfl
  | p :: r => by
    have ih := cat_ev ss f r
    rw [catN, catP, evW, lin_append, lin_smulL, ← ih]
    unfold ev
    rw [Int.mul_add]; omega
def Rt (ss : List Sm) : Ln → Prop
  | .cut k d => 1 ≤ d ∧ d ≤ 5 ∧ ∃ s, ss[k]? = some s ∧ ∀ p ∈ s.1, p.2 % d = 0
  | .add ws => ws ≠ [] ∧ ws.length ≤ 6 ∧ ∀ p ∈ ws, 1 ≤ p.1 ∧ p.1 ≤ 1000 ∧ p.2 < ss.length
def Is (ss : List Sm) : Ln → Sm → Prop
  | .cut k d, s => ∃ t, ss[k]? = some t ∧ s = (t.1.map fun q => (q.1, q.2 / d), t.2 / d)
  | .add ws, s => Gat (catP ss ws) s.1 ∧ s.2 = catN ss ws
theorem getD_of {ss : List Sm} {k : Nat} {s : Sm} (h : ss[k]? = some s) : ss.getD k s0 = s := by rw [List.getD_eq_getElem?_getD, h]; rfl
theorem catP_in {xs : List Str} {ss : List Sm} (hg : ∀ s ∈ ss, Gm xs s) : ∀ {ws : List (Int × Nat)}, (∀ p ∈ ws, p.2 < ss.length) → ∀ t ∈ keys (catP ss ws), t ∈ xs
  | [], _, t, h => nomatch h
  | p :: r, hw, t, h => by
    rw [catP, keys_ap2, keys_map _ fun q => p.1 * q.2] at h
    rcases List.mem_append.mp h with h | h
    · have hp := hw p (List.mem_cons_self ..)
      rw [getD_of (List.getElem?_eq_getElem hp)] at h
      exact (hg _ (List.getElem_mem hp)).2 t h
    · exact catP_in hg (fun q hq => hw q (List.mem_cons_of_mem _ hq)) t h
theorem catP_len {xs : List Str} {ss : List Sm} (hx : xs.length ≤ 6) (hg : ∀ s ∈ ss, Gm xs s) : ∀ {ws : List (Int × Nat)}, (∀ p ∈ ws, p.2 < ss.length) → (catP ss ws).length ≤ 6 * ws.length
  | [], _ => Nat.le_refl _
  | p :: r, hw => by
    have hp := hw p (List.mem_cons_self ..)
    have ih := catP_len hx hg (ws := r) fun q hq => hw q (List.mem_cons_of_mem _ hq)
    have h3 := (hg _ (List.getElem_mem hp)).len hx
    rw [catP, List.length_append, List.length_map, getD_of (List.getElem?_eq_getElem hp), List.length_cons]
    omega
theorem div_nz {w d : Int} (hd : 1 ≤ d) (hw : w ≠ 0) (hm : w % d = 0) : w / d ≠ 0 := fun z => by
  have := Int.mul_ediv_add_emod w d
  rw [z, hm] at this
  omega
theorem is_gm {xs : List Str} {ss : List Sm} (hg : ∀ s ∈ ss, Gm xs s) : ∀ {l : Ln} {s : Sm}, Rt ss l → Is ss l s → Gm xs s
  | .cut k d, s, ⟨h1, _, a, ea, hm⟩, ⟨t, et, h⟩ => by
    rw [ea] at et
    cases et
    have G := hg a (List.mem_of_getElem? ea)
    rw [h]
    refine ⟨canon_map (f := fun q => q.2 / d) G.1 fun p hp => div_nz h1 (G.1.nz p hp) (hm p hp), fun t ht => G.2 t ?_⟩
    rw [← keys_map a.1 fun q => q.2 / d]
    exact ht
  | .add ws, s, ⟨_, _, hw⟩, ⟨g, h⟩ => gat_gm (n := s.2) g (catP_in hg fun p hp => (hw p hp).2.2)
def Ok : List Ln → List Sm → (List Sm → Prop) → Prop
  | [], ss, F => F ss
  | l :: r, ss, F => Rt ss l ∧ ∀ s, Is ss l s → Ok r (ss ++ [s]) F
theorem Ok.mono {F G : List Sm → Prop} (h : ∀ ss, F ss → G ss) : ∀ {ls : List Ln} {ss : List Sm}, Ok ls ss F → Ok ls ss G
  | [], _, k => h _ k
  | l :: r, _, ⟨a, b⟩ => ⟨a, fun s q => Ok.mono h (b s q)⟩
def Neg (b : Bool) (ss : List Sm) : Prop := ∃ n : Int, ss.getLast? = some ([], n) ∧ decide (n < 0) = b
def PapAt (C : Addr) (xs : List Str) : Bool → Nat → Hp → Addr → List Sm → Prop
  | _, 0, _, _, _ => False
  | b, n + 1, H, pp, ss => ∃ us ls vs, SqV H pp vs ∧ Lns H us ls ∧ ls.length ≤ 8 ∧
      ((vs = us ∧ Ok ls ss (Neg b)) ∨ (b = true ∧ ∃ a p q1 q2 s, vs = us ++ [V.ref a] ∧ SqV H a [.str "split", .ref p, .ref q1, .ref q2] ∧ SumAt C H p s.1 s.2 ∧ Gm xs s ∧ Ok ls ss fun ss' => PapAt C xs true n H q1 (ss' ++ [s]) ∧ PapAt C xs true n H q2 (ss' ++ [opp s])))
theorem PapAt.same {C : Addr} {xs : List Str} {H H' : Hp} (s : Same H H') : ∀ {b : Bool} {n : Nat} {pp : Addr} {ss : List Sm}, PapAt C xs b n H pp ss → PapAt C xs b n H' pp ss
  | _, 0, _, _, h => h
  | b, n + 1, pp, ss, ⟨us, ls, vs, h1, h2, h3, h4⟩ => by
    refine ⟨us, ls, vs, h1.same s, h2.same s, h3, ?_⟩
    rcases h4 with h4 | ⟨eb, a, p, q1, q2, t, e, h5, h6, h7, h8⟩
    · exact .inl h4
    · exact .inr ⟨eb, a, p, q1, q2, t, e, h5.same s, h6.same s, h7, h8.mono fun ss' q => ⟨PapAt.same s q.1, PapAt.same s q.2⟩⟩
structure TxP (K : PySem.W.Frag) (mg : Str → Option Value) : Prop where
  all : mg "all" = none
  set : mg "set" = none
  enumerate : mg "enumerate" = none
  bool : mg "bool" = none
  kIB : PySem.W.kitOne K (.type "int") (.type "bool") = some false
  kTL : PySem.W.kitOne K (.type "tuple") (.type "list") = some false
  most : ∃ t, mg "MOST_SPLITS" = some (.int 20 t)
theorem kit_int (K : PySem.W.Frag) : PySem.W.kitOne K (.type "int") (.type "int") = some true := by unfold PySem.W.kitOne; rw [if_pos (beq_self_eq_true _)]
def spSev : Sp := fun vs H Q _ => ∃ (a : Addr) (xs : List V), vs = [.ref a] ∧ SqV H a xs ∧ ∀ H', Same H H' → Q (.bl true) H'
def spIsNum : Sp := fun vs H Q _ => ∃ i : Int, vs = [.int i] ∧ Q (.bl true) H
def spFrom1 : Sp := fun vs H Q _ => ∃ i : Int, vs = [.int i] ∧ 1 ≤ i ∧ Q (.bl true) H
def spAhd : Sp := fun vs H Q _ => ∃ (L : Addr) (us : List V) (k : Nat), vs = [.ref L, .int k] ∧ H L = some (.lst us) ∧ k < us.length ∧ Q (.bl true) H
def spWeighed : Sp := fun vs H Q _ => ∃ (L q : Addr) (us : List V) (w : Int) (k : Nat), vs = [.ref L, .ref q] ∧ H L = some (.lst us) ∧ H q = some (.tup [.int w, .int k]) ∧ 1 ≤ w ∧ k < us.length ∧ ∀ H', Same H H' → Q (.bl true) H'
def spCanDiv (C : Addr) : Sp := fun vs H Q _ => ∃ (p : Addr) (ts : Ps) (n d : Int), vs = [.ref p, .int d] ∧ SumAt C H p ts n ∧ 1 ≤ d ∧ (∀ q ∈ ts, q.2 % d = 0) ∧ ∀ H', Same H H' → Q (.bl true) H'
def spIsTerm : Sp := fun vs H Q _ => ∃ (q : Addr) (t : Str) (w : Int), vs = [.ref q] ∧ H q = some (.tup [.str t, .int w]) ∧ w ≠ 0 ∧ Q (.bl true) H
def spIsSum (C : Addr) : Sp := fun vs H Q _ => ∃ (p : Addr) (ts : Ps) (n : Int), vs = [.ref p] ∧ SumAt C H p ts n ∧ Canon ts ∧ ts.length ≤ 6 ∧ ∀ H', Same H H' → Q (.bl true) H'
def spNever (C : Addr) : Sp := fun vs H Q _ => ∃ (p : Addr) (ts : Ps) (n : Int), vs = [.ref p] ∧ SumAt C H p ts n ∧ Q (.bl (ts.isEmpty && decide (n < 0))) H
def spIsSplit (C : Addr) : Sp := fun vs H Q _ => ∃ (a : Addr) (xs : List V), vs = [.ref a] ∧ SqV H a xs ∧
  ((xs.length ≠ 4 ∧ ∀ H', Same H H' → Q (.bl false) H') ∨ ∃ (p : Addr) (x y : V) (ts : Ps) (n : Int), xs = [.str "split", .ref p, x, y] ∧ SumAt C H p ts n ∧ Canon ts ∧ ts.length ≤ 6 ∧ ∀ H', Same H H' → Q (.bl true) H')
def spIsRight (C : Addr) : Sp := fun vs H Q _ => ∃ (L : Addr) (v : V) (us : List V) (ss : List Sm) (l : Ln), vs = [.ref L, v] ∧ H L = some (.lst us) ∧ Sms C H us ss ∧ LnAt H v l ∧ Rt ss l ∧ ∀ H', Same H H' → Q (.bl true) H'
def spLineOf (C : Addr) : Sp := fun vs H Q _ => ∃ (xs : List Str) (L : Addr) (v : V) (us : List V) (ss : List Sm) (l : Ln), vs = [.ref L, v] ∧ H L = some (.lst us) ∧ Sms C H us ss ∧ xs.length ≤ 6 ∧ (∀ s ∈ ss, Gm xs s) ∧ LnAt H v l ∧ Rt ss l ∧
  ∀ (r : Addr) (s : Sm) (H' : Hp), Same H H' → Is ss l s → SumAt C H' r s.1 s.2 → Q (.ref r) H'
def spDivided (C : Addr) : Sp := fun vs H Q _ => ∃ (p : Addr) (ts : Ps) (n d : Int), vs = [.ref p, .int d] ∧ SumAt C H p ts n ∧ 1 ≤ d ∧ d ≤ 5 ∧ ∀ (r : Addr) (H' : Hp), Same H H' → SumAt C H' r (ts.map fun q => (q.1, q.2 / d)) (n / d) → Q (.ref r) H'
def spTurnT : Sp := fun vs H Q _ => ∃ (t : Addr) (ts : Ps), vs = [.ref t] ∧ Tp H t ts ∧ ts.length ≤ 1000 ∧ ∀ (r : Addr) (H' : Hp), Same H H' → Tp H' r (ts.map fun q => (q.1, -q.2)) → Q (.ref r) H'
def spOther (C : Addr) : Sp := fun vs H Q _ => ∃ (p : Addr) (s : Sm), vs = [.ref p] ∧ SumAt C H p s.1 s.2 ∧ ∀ (r : Addr) (H' : Hp), Same H H' → SumAt C H' r (opp s).1 (opp s).2 → Q (.ref r) H'
def spEW (C : Addr) (n : Nat) : Sp := fun vs H Q _ => ∃ (b : Bool) (xs : List Str) (L pp : Addr) (m : Int) (H0 : Hp) (us : List V) (ss : List Sm), vs = [.ref L, .ref pp, .int m] ∧ (n : Int) ≤ m + 1 ∧ H L = some (.lst us) ∧ Sms C H us ss ∧ xs.length ≤ 6 ∧ (∀ s ∈ ss, Gm xs s) ∧ us.length + 10 * n ≤ 60 ∧
  H0 L = none ∧ Same H0 H ∧ PapAt C xs b n H0 pp ss ∧ ∀ H', But L H H' → Q (.bl b) H'
def spBoth2 (C : Addr) (n : Nat) : Sp := fun vs H Q _ => ∃ (xs : List Str) (L a p q1 q2 : Addr) (m : Int) (us : List V) (ss : List Sm) (s : Sm), vs = [.ref L, .ref a, .int m] ∧ (n : Int) ≤ m + 1 ∧ H L = some (.lst us) ∧ Sms C H us ss ∧ xs.length ≤ 6 ∧ (∀ s ∈ ss, Gm xs s) ∧ us.length + 1 + 10 * n ≤ 60 ∧
  SqV H a [.str "split", .ref p, .ref q1, .ref q2] ∧ SumAt C H p s.1 s.2 ∧ Gm xs s ∧ PapAt C xs true n H q1 (ss ++ [s]) ∧ PapAt C xs true n H q2 (ss ++ [opp s]) ∧ ∀ H', Same H H' → Q (.bl true) H'
def spRefutes (C : Addr) : Sp := fun vs H Q _ => ∃ (b : Bool) (xs : List Str) (c pp : Addr) (us : List V) (ss : List Sm), vs = [.ref c, .ref pp] ∧ SqV H c us ∧ Sms C H us ss ∧ xs.length ≤ 6 ∧ (∀ s ∈ ss, Gm xs s) ∧ us.length ≤ 12 ∧ PapAt C xs b 2 H pp ss ∧ ∀ H', Same H H' → Q (.bl b) H'
end Hw
namespace Hw
open PySem L2
theorem ixV {K : PySem.W.Frag} {H : Hp} {a : Addr} {xs : List V} {i : Int} {v : V} {Q : VK} (h : SqV H a xs) (e : atI xs i = some v) (q : Q v H) : rIx K (.ref a) (.int i) H Q := by
  rcases h with h | h
  · exact .inl ⟨a, xs, i, v, rfl, rfl, SqL.of h, e, q⟩
  · exact .inr (.inl ⟨a, xs, i, v, rfl, rfl, SqT.of h, e, q⟩)
theorem lenV {K : PySem.W.Frag} {H : Hp} {a : Addr} {xs : List V} (h : SqV H a xs) : SqL K H a xs ∨ SqT K H a xs := h.elim (fun z => .inl (SqL.of z)) fun z => .inr (SqT.of z)
theorem rep_snoc (i : Nat) : (List.replicate i true).map V.bl ++ [V.bl true] = (List.replicate (i + 1) true).map V.bl := by rw [List.replicate_succ', List.map_append]; rfl
theorem rep_all (n : Nat) : (List.replicate n true).all id = true := by rw [List.all_eq_true]; intro x hx; rw [(List.mem_replicate.mp hx).2]; rfl
theorem rep_len (i : Nat) : ((List.replicate i true).map V.bl).length = i := by rw [List.length_map, List.length_replicate]
theorem comp_sqV {K : PySem.W.Frag} {a : Addr} {xs : List V} {g : TG} {tt : TT} {te : TE} {σ0 : St} {H : Hp} {R : List V → Hp → Prop} (h : SqV H a xs) (Pv : Nat → List V → Hp → Prop) (h0 : Pv 0 [] H) (hS : ∀ i ys H', Pv i ys H' → ∀ o, H a = some o → H' a = some o)
    (hs : ∀ i v ys H', xs[i]? = some v → Pv i ys H' → g v σ0 H' fun σ2 H2 => Ext σ0 σ2 ∧ tt σ2 H2 fun b H3 => if b = true then te σ2 H3 fun v H4 => ys.length < sizeLine ∧ Pv (i + 1) (ys ++ [v]) H4 else Pv (i + 1) ys H3)
    (hd : ∀ ys H', Pv xs.length ys H' → R ys H') : ((∃ xs, SqL K H a xs) ∧ ∃ W : Nat → Nat → List V → Hp → Prop, (∃ m, W 0 m [] H) ∧ cWalk (Itl K a) g tt te σ0 W R) ∨ ((∃ xs, SqT K H a xs) ∧ ∃ W : Nat → Nat → List V → Hp → Prop, (∃ m, W 0 m [] H) ∧ cWalk (Itt K a) g tt te σ0 W R) := by
  rcases h with h | h
  · exact .inl ⟨⟨xs, SqL.of h⟩, comp_list (xs := xs) Pv h0 (fun i ys H' _ p => SqL.of (hS i ys H' p _ h)) hs hd⟩
  · exact .inr ⟨⟨xs, SqT.of h⟩, comp_tup (xs := xs) Pv h0 (fun i ys H' _ p => SqT.of (hS i ys H' p _ h)) hs hd⟩
theorem sm_at {C : Addr} {H : Hp} {us : List V} {ss : List Sm} (h : Sms C H us ss) {k : Nat} (hk : k < us.length) : ∃ p s, us[k]? = some (.ref p) ∧ ss[k]? = some s ∧ SumAt C H p s.1 s.2 := by
  have e := List.getElem?_eq_getElem hk
  obtain ⟨s, es, p, ep, S⟩ := paired_at h e
  rw [ep] at e
  exact ⟨p, s, e, es, S⟩
theorem keys_up {ts : Ps} (c : Canon ts) : (keys ts).Pairwise fun a b => lt a b = true := by
  unfold keys
  rw [List.pairwise_map]
  exact c.up
end Hw
namespace Hw
open PySem L2
theorem atI_m1 {α : Type} {xs : List α} {v : α} (h : 0 < xs.length) (e : xs[xs.length - 1]? = some v) : atI xs (-1) = some v := by
  have : xs = xs.dropLast ++ [v] := by
    have hn : xs ≠ [] := fun z => by rw [z] at h; cases h
    rw [List.getElem?_eq_getElem (by omega)] at e
    have e' : xs.getLast hn = v := by rw [List.getLast_eq_getElem]; exact Option.some.inj e
    rw [← e']
    exact (List.dropLast_concat_getLast hn).symm
  rw [this]
  exact atI_last _ _
end Hw
namespace Hw
open PySem L2
theorem none_same {t : Addr} {H H' : Hp} (b : Same H H') (h : H' t = none) : H t = none := by
  cases e : H t with
  | none => rfl
  | some o => rw [b _ _ e] at h; cases h
theorem atI_0 {α : Type} (x : α) (ys : List α) : atI (x :: ys) 0 = some x := atI_nat (j := 0) rfl
theorem atI_z {α : Type} {xs : List α} {j : Nat} {v : α} (h : xs[j]? = some v) : atI xs (0 + (j : Int)) = some v := by rw [Int.zero_add]; exact atI_nat h
end Hw
namespace L2
open PySem PySem.Spec PyProof.Rows Hw
end L2
namespace Hw
open PySem L2
theorem take_nin {xs : List Str} {i : Nat} {x : Str} (nd : xs.Nodup) (h : xs[i]? = some x) : x ∉ xs.take i := fun hm => by
  have := nd.sublist (List.take_sublist (i + 1) xs)
  rw [take_snoc h] at this
  exact (List.nodup_append.mp this).2.2 x hm x (List.mem_singleton.mpr rfl) rfl
end Hw
namespace Hw
open PySem L2
end Hw
namespace Hw
open PySem L2
theorem const_neg {s : Sm} {c : Int} (h : Canon s.1) (e : ∀ f, ev s f = c) : s = ([], c) := by
  have e0 := e fun _ => 0
  have z : ∀ a : Ps, lin a (fun _ => 0) = 0 := fun a => by
    induction a with
    | nil => rfl
    | cons p r ih => rw [lin, ih]; simp
  have e1 : s.2 = c := by
    have : s.2 + lin s.1 (fun _ => 0) = c := e0
    rw [z] at this
    omega
  have e2 : s.1 = [] := Canon.same h Canon.nil fun f => by
    have : s.2 + lin s.1 f = c := e f
    show lin s.1 f = 0
    omega
  exact Prod.ext e2 e1
end Hw
namespace Hw
open PySem L2
end Hw
namespace Hw
open PySem L2
end Hw
namespace Hw
open PySem L2
end Hw
namespace Hw
open PySem L2
def CmpAt (Z : Cz) (H : Hp) (p : Addr) (a : Sm) (s : Str) (b : Sm) : Prop := ∃ dx u w, H p = some (.ins Z.c dx (cflds u s w)) ∧ SumAt Z.s H u a.1 a.2 ∧ SumAt Z.s H w b.1 b.2
theorem CmpAt.hard {Z : Cz} {H H' : Hp} {p : Addr} {a b : Sm} {s : Str} (h : CmpAt Z H p a s b) (k : Hard H H') : CmpAt Z H' p a s b := let ⟨dx, u, w, e, s1, s2⟩ := h; ⟨dx, u, w, k.i _ _ _ _ e, s1.hard k, s2.hard k⟩
theorem CmpAt.same {Z : Cz} {H H' : Hp} {p : Addr} {a b : Sm} {s : Str} (h : CmpAt Z H p a s b) (k : Same H H') : CmpAt Z H' p a s b := h.hard (Hard.of k)
structure Tx4 (K : PySem.W.Frag) (mg : Str → Option Value) (Z : Cz) (Db : Addr) : Prop where
  cc : Cls K Z.c
  n1 : NoAttr K Z.c "one"
  n2 : NoAttr K Z.c "sign"
  n3 : NoAttr K Z.c "other"
  mgC : mg "Compare" = some (.ref Z.c)
  cd : Cls K Db
  nd : ∀ x ∈ (["kind", "at", "ahead", "condition"] : List Str), NoAttr K Db x
  mgD : mg "Debt" = some (.ref Db)
  any : mg "any" = none
def dfl (k : Str) (a : Int) (h c : Addr) : List (Str × V) := putF "condition" (.ref c) (putF "ahead" (.ref h) (putF "at" (.int a) (putF "kind" (.str k) [])))
theorem dfl_ahead (k : Str) (a : Int) (h c : Addr) : (dfl k a h c).lookup ("ahead" : Str) = some (.ref h) := by
  unfold dfl; rw [lookup_putF, if_neg (by decide +kernel), lookup_putF, if_pos rfl]
theorem dfl_cond (k : Str) (a : Int) (h c : Addr) : (dfl k a h c).lookup ("condition" : Str) = some (.ref c) := by
  unfold dfl; rw [lookup_putF, if_pos rfl]
def Sml (ts : Ps) : Prop := ∀ p ∈ ts, Small p.2
def spValueS (C : Addr) : Sp := fun vs H Q _ => ∃ (p d : Addr) (ts ns : Ps) (n : Int), vs = [.ref p, .ref d] ∧ SumAt C H p ts n ∧ H d = some (.dK (enc ns)) ∧ Sml ts ∧ (∀ t ∈ keys ts, t ∈ keys ns) ∧ ∀ H', Same H H' → Q (.int (n + lin ts (get ns))) H'
def spOnce (C : Addr) : Sp := fun vs H Q _ => ∃ x : Str, vs = [.str x] ∧ ∀ (r : Addr) (H' : Hp), Same H H' → SumAt C H' r [(x, 1)] 0 → Q (.ref r) H'
def spCH (Z : Cz) : Sp := fun vs H Q _ => ∃ (p d : Addr) (a b : Sm) (s : Str) (ns : Ps), vs = [.ref p, .ref d] ∧ CmpAt Z H p a s b ∧ H d = some (.dK (enc ns)) ∧ Sml a.1 ∧ Sml b.1 ∧ (∀ t ∈ keys a.1, t ∈ keys ns) ∧ (∀ t ∈ keys b.1, t ∈ keys ns) ∧ ∀ H', Same H H' → Q (.bl (cmpB s (ev a (get ns)) (ev b (get ns)))) H'
def spCPI (Z : Cz) : Sp := fun vs H Q _ => ∃ (p d : Addr) (a b : Sm) (s : Str) (kvs : List (Key × V)) (S : Sb), vs = [.ref p, .ref d] ∧ CmpAt Z H p a s b ∧ H d = some (.dK kvs) ∧ Rl (SumR Z.s H) kvs S ∧ Lt3 a.1 ∧ Lt3 b.1 ∧ Few S ∧
  ∀ (r : Addr) (a' b' : Sm) (H' : Hp), Same H H' → Gat (subP S a.1) a'.1 → a'.2 = a.2 + subN S a.1 → Gat (subP S b.1) b'.1 → b'.2 = b.2 + subN S b.1 → CmpAt Z H' r a' s b' → Q (.ref r) H'
def spCOp (Z : Cz) : Sp := fun vs H Q _ => ∃ (p : Addr) (a b : Sm) (s : Str), vs = [.ref p] ∧ CmpAt Z H p a s b ∧ s ∈ signs ∧ ∀ (r : Addr) (H' : Hp), Same H H' → CmpAt Z H' r a (oppS s) b → Q (.ref r) H'
def cdif (s : Str) (a b : Sm) (f : Str → Int) : Int := if s = "<=" then ev b f - ev a f else ev a f - ev b f - 1
def spCCs (Z : Cz) : Sp := fun vs H Q _ => ∃ (p : Addr) (a b : Sm) (s : Str) (xs : List Str), vs = [.ref p] ∧ CmpAt Z H p a s b ∧ a.1.length ≤ 6 ∧ b.1.length ≤ 6 ∧ (∀ t ∈ keys a.1, t ∈ xs) ∧ (∀ t ∈ keys b.1, t ∈ xs) ∧ (s = "<=" ∨ s = ">") ∧
  ∀ (r : Addr) (c : Sm) (H' : Hp), Same H H' → CasesAt Z H' r [[c]] → Gm xs c → (∀ f, ev c f = cdif s a b f) → Q (.ref r) H'
def nevB (s : Sm) : Bool := s.1.isEmpty && decide (s.2 < 0)
def plnB (s : Sm) : Bool := !s.1.isEmpty
def spNeverMet (C : Addr) : Sp := fun vs H Q _ => ∃ (t : Addr) (us : List V) (ss : List Sm), vs = [.ref t] ∧ H t = some (.tup us) ∧ Sms C H us ss ∧ us.length ≤ 20 ∧ ∀ H', Same H H' → Q (.bl (ss.any nevB)) H'
def spWithout (C : Addr) : Sp := fun vs H Q _ => ∃ (t : Addr) (us : List V) (ss : List Sm), vs = [.ref t] ∧ H t = some (.tup us) ∧ Sms C H us ss ∧ us.length ≤ 20 ∧ ∀ (r : Addr) (ws : List V) (H' : Hp), Same H H' → H' r = some (.tup ws) → Sms C H' ws (ss.filter plnB) → Q (.ref r) H'
def cw (A : Cs) (c : Sm) : Cs := bothC A (if nevB c then [] else [[c].filter plnB])
def spCasesWith (Z : Cz) : Sp := fun vs H Q _ => ∃ (o p : Addr) (a b : Sm) (s : Str) (xs : List Str) (A : Cs), vs = [.ref o, .ref p] ∧ CasesAt Z H o A ∧ A.length ≤ 1 ∧ (∀ k ∈ A, k.length ≤ 20) ∧ CmpAt Z H p a s b ∧ a.1.length ≤ 6 ∧ b.1.length ≤ 6 ∧ (∀ t ∈ keys a.1, t ∈ xs) ∧ (∀ t ∈ keys b.1, t ∈ xs) ∧ (s = "<=" ∨ s = ">") ∧
  ∀ (r : Addr) (c : Sm) (H' : Hp), Same H H' → Gm xs c → (∀ f, ev c f = cdif s a b f) → CasesAt Z H' r (cw A c) → Q (.ref r) H'
def spDbt (Db : Addr) : Sp := fun vs H Q _ => ∃ (p dx h c : Addr) (k : Str) (a : Int), vs = [.ref p, .str k, .int a, .ref h, .ref c] ∧ H p = some (.ins Db dx []) ∧ ∀ H', But p H H' → H' p = some (.ins Db dx (dfl k a h c)) → Q .non H'
end Hw
namespace Hw
open PySem L2
theorem cf_no {u w : Addr} {s m : Str} (h1 : ¬ m = "one") (h2 : ¬ m = "sign") (h3 : ¬ m = "other") : (cflds u s w).lookup m = none := by
  unfold cflds
  rw [lookup_putF, if_neg h3, lookup_putF, if_neg h2, lookup_putF, if_neg h1]
  rfl
theorem CasesAt.same {Z : Cz} {H H' : Hp} {r : Addr} {A : Cs} (h : CasesAt Z H r A) (s : Same H H') : CasesAt Z H' r A := let ⟨us, e, p⟩ := h; ⟨us, s _ _ e, Paired.mapP p fun _ _ z => z.hard (Hard.of s)⟩
end Hw
namespace Hw
open PySem L2
inductive Cr where
  | any (x : Str)
  | lt (x y : Str) (t c : Int)
  | hd (x y : Str) (t c : Int)
def CrAt (Z : Cz) (H : Hp) (v : V) : Cr → Prop
  | .any x => ∃ p, v = .ref p ∧ H p = some (.tup [.str "any", .str x])
  | .lt x y t c => ∃ p q, v = .ref p ∧ H p = some (.tup [.str "let", .str x, .ref q]) ∧ SumAt Z.s H q [(y, t)] c
  | .hd x y t c => ∃ p q, v = .ref p ∧ H p = some (.tup [.str "hold", .ref q]) ∧ CmpAt Z H q ([(x, 1)], 0) "<=" ([(y, t)], c)
theorem CrAt.hard {Z : Cz} {H H' : Hp} {v : V} (k : Hard H H') : ∀ {r : Cr}, CrAt Z H v r → CrAt Z H' v r
  | .any x, ⟨p, e, q⟩ => ⟨p, e, k.t _ _ q⟩
  | .lt x y t c, ⟨p, q, e, h, s⟩ => ⟨p, q, e, k.t _ _ h, s.hard k⟩
  | .hd x y t c, ⟨p, q, e, h, s⟩ => ⟨p, q, e, k.t _ _ h, s.hard k⟩
def uk (n : Nat) : Str := ("?" : Str) ++ (Str.ofString (toString (n : Int)))
def xsN (M : Nat) : List Str := (List.range M).map uk
theorem uk_in {n M : Nat} (h : n < M) : uk n ∈ xsN M := List.mem_map.mpr ⟨n, List.mem_range.mpr h, rfl⟩
theorem xsN_len (M : Nat) : (xsN M).length = M := by unfold xsN; rw [List.length_map, List.length_range]
abbrev Vf := (Str → Int) → Int
def getV : List (Str × Vf) → Str → (Str → Int) → Int
  | [], _, _ => 0
  | p :: r, x, f => if p.1 = x then p.2 f else getV r x f
def dom (e : List (Str × Vf)) : List Str := e.map (·.1)
structure OSt where
  e : List (Str × Vf)
  n : Nat
  gs : List Vf
def oStep (s : OSt) : Cr → OSt
  | .any x => ⟨s.e ++ [(x, (fun f => f (uk s.n) : Vf))], s.n + 1, s.gs⟩
  | .lt x y t c => ⟨s.e ++ [(x, (fun f => t * getV s.e y f + c : Vf))], s.n, s.gs⟩
  | .hd x y t c => ⟨s.e, s.n, s.gs ++ [(fun f => t * getV s.e y f + c - getV s.e x f : Vf)]⟩
def oRun : List Cr → OSt → OSt
  | [], s => s
  | r :: rs, s => oRun rs (oStep s r)
def NC (g : Vf) : Prop := ∃ f f', g f ≠ g f'
def oOk (s : OSt) : Cr → Prop
  | .any x => x ∉ dom s.e ∧ s.n < 6
  | .lt x y t c => x ∉ dom s.e ∧ y ∈ dom s.e ∧ 1 ≤ t ∧ t ≤ 3
  | .hd x y t c => x ∈ dom s.e ∧ y ∈ dom s.e ∧ 1 ≤ t ∧ t ≤ 3 ∧ NC fun f => t * getV s.e y f + c - getV s.e x f
def OWf : List Cr → OSt → Prop
  | [], _ => True
  | r :: rs, s => oOk s r ∧ OWf rs (oStep s r)
def o0 : OSt := ⟨[], 0, []⟩
def SR (M : Nat) (p : Str × Ps × Int) (q : Str × Vf) : Prop := p.1 = q.1 ∧ Gm (xsN M) p.2 ∧ p.2.1.length ≤ 1 ∧ ∀ f, ev p.2 f = q.2 f
def SG (M : Nat) (s : Sm) (g : Vf) : Prop := Gm (xsN M) s ∧ ∀ f, ev s f = g f
theorem sr_look {M : Nat} {S : Sb} {e : List (Str × Vf)} (h : Paired (SR M) S e) {x : Str} (hx : x ∈ dom e) : ∃ q, look S x = some q ∧ Gm (xsN M) q ∧ q.1.length ≤ 1 ∧ ∀ f, ev q f = getV e x f := by
  induction h with
  | nil => cases hx
  | @cons p q l₁ l₂ r t ih =>
    obtain ⟨e1, g, l, hv⟩ := r
    unfold look
    by_cases z : q.1 = x
    · rw [if_pos (e1.trans z)]
      exact ⟨p.2, rfl, g, l, fun f => by rw [getV, if_pos z]; exact hv f⟩
    · rw [if_neg (fun y => z (e1.symm.trans y))]
      obtain ⟨q', a, b, c, d⟩ := ih ((List.mem_cons.mp hx).resolve_left fun y => z y.symm)
      exact ⟨q', a, b, c, fun f => by rw [getV, if_neg z]; exact d f⟩
theorem sr_few {M : Nat} {S : Sb} {e : List (Str × Vf)} (h : Paired (SR M) S e) : Few S := fun s hs => by
  obtain ⟨j, hj⟩ := List.getElem?_of_mem hs
  obtain ⟨q, _, r⟩ := paired_at h hj
  have := r.2.2.1
  omega
theorem sub_one {M : Nat} {S : Sb} {e : List (Str × Vf)} (h : Paired (SR M) S e) {y : Str} {t c : Int} (hy : y ∈ dom e) (ht : t ≠ 0) {us : Ps} (g : Gat (subP S [(y, t)]) us) : Gm (xsN M) (us, c + subN S [(y, t)]) ∧ us.length ≤ 1 ∧ ∀ f, ev (us, c + subN S [(y, t)]) f = t * getV e y f + c := by
  obtain ⟨q, lq, gq, ll, hv⟩ := sr_look h hy
  have e1 : subP S [(y, t)] = q.1.map fun x => (x.1, t * x.2) := by
    unfold subP subO
    simp only [List.map_cons, List.map_nil, List.flatten_cons, List.flatten_nil, List.append_nil, lq]
  have e2 : subN S [(y, t)] = t * q.2 := by
    unfold subN subM
    simp only [List.map_cons, List.map_nil, List.sum_cons, List.sum_nil, lq, Int.add_zero]
  rw [e1] at g
  refine ⟨gat_gm g fun s hs => ?_, ?_, fun f => ?_⟩
  · rw [keys_map q.1 fun x => t * x.2] at hs
    exact gq.2 s hs
  · have := gat_len g
    rw [List.length_map] at this
    omega
  · show c + subN S [(y, t)] + lin us f = _
    rw [e2, g.2, lin_smulL, ← hv f]
    show c + t * q.2 + t * lin q.1 f = t * (q.2 + lin q.1 f) + c
    rw [Int.mul_add]; omega
theorem putK_new {M : Nat} {kvs : List (Key × V)} {S : Sb} {P : Addr → Ps × Int → Prop} {e : List (Str × Vf)} (r : Rl P kvs S) (h : Paired (SR M) S e) {x : Str} (hx : x ∉ dom e) (v : V) : putK kvs (Sum.inr x) v = kvs ++ [(Sum.inr x, v)] := by
  unfold putK
  rw [if_neg]
  intro z
  obtain ⟨kv, hk, e1⟩ := List.any_eq_true.mp z
  obtain ⟨j, hj⟩ := List.getElem?_of_mem hk
  obtain ⟨s, hs, q1, _⟩ := paired_at r hj
  obtain ⟨q, hq, q2, _⟩ := paired_at h hs
  have : kv.1 = Sum.inr x := of_decide_eq_true e1
  rw [q1] at this
  have : s.1 = x := Sum.inr.inj this
  exact hx (List.mem_map.mpr ⟨q, List.mem_of_getElem? hq, q2.symm.trans this⟩)
theorem nc_ne {s : Sm} {g : Vf} (h : ∀ f, ev s f = g f) (n : NC g) : s.1 ≠ [] := fun z => by
  obtain ⟨f, f', hn⟩ := n
  refine hn ?_
  rw [← h f, ← h f']
  unfold ev
  rw [z]; rfl
theorem cw_nc {ss : List Sm} {c : Sm} (h : c.1 ≠ []) : cw [ss] c = [ss ++ [c]] := by
  have e1 : nevB c = false := by
    unfold nevB
    cases q : c.1 with
    | nil => exact absurd q h
    | cons a b => rfl
  have e2 : plnB c = true := by
    unfold plnB
    cases q : c.1 with
    | nil => exact absurd q h
    | cons a b => rfl
  unfold cw
  rw [e1]
  simp [bothC, List.filter, e2]
def spOwed (Z : Cz) (Db : Addr) : Sp := fun vs H Q _ => ∃ (p h c dx : Addr) (k x0 xm : Str) (a T N : Int) (us : List V) (rows : List Cr), vs = [.ref p] ∧ H p = some (.ins Db dx (dfl k a h c)) ∧ H h = some (.tup us) ∧ Paired (CrAt Z H) us rows ∧ rows.length ≤ 12 ∧ OWf rows o0 ∧ CmpAt Z H c ([(xm, 1)], 0) "<=" ([(x0, T)], N) ∧ x0 ∈ dom (oRun rows o0).e ∧ xm ∈ dom (oRun rows o0).e ∧ 1 ≤ T ∧ T ≤ 1000 ∧ (oRun rows o0).n ≤ 6 ∧
  ∀ (r : Addr) (ss : List Sm) (cl : Sm) (H' : Hp), Same H H' → Paired (SG (oRun rows o0).n) ss (oRun rows o0).gs → Gm (xsN (oRun rows o0).n) cl → (∀ f, ev cl f = getV (oRun rows o0).e xm f - (T * getV (oRun rows o0).e x0 f + N) - 1) → CasesAt Z H' r (cw [ss] cl) → Q (.ref r) H'
theorem o_gs : ∀ (rs : List Cr) (s : OSt), s.gs.length ≤ (oRun rs s).gs.length ∧ (oRun rs s).gs.length ≤ s.gs.length + rs.length
  | [], s => ⟨Nat.le_refl _, Nat.le_refl _⟩
  | r :: rs, s => by
    have ih := o_gs rs (oStep s r)
    have : (oStep s r).gs.length ≤ s.gs.length + 1 ∧ s.gs.length ≤ (oStep s r).gs.length := by
      cases r with
      | any x => exact ⟨Nat.le_succ _, Nat.le_refl _⟩
      | lt x y t c => exact ⟨Nat.le_succ _, Nat.le_refl _⟩
      | hd x y t c =>
        show (s.gs ++ [fun f => t * getV s.e y f + c - getV s.e x f]).length ≤ s.gs.length + 1 ∧ s.gs.length ≤ (s.gs ++ [fun f => t * getV s.e y f + c - getV s.e x f]).length
        rw [List.length_append]
        exact ⟨Nat.le_refl _, Nat.le_succ _⟩
    show s.gs.length ≤ (oRun rs (oStep s r)).gs.length ∧ (oRun rs (oStep s r)).gs.length ≤ s.gs.length + (rs.length + 1)
    omega
end Hw
namespace Hw
open PySem L2
def nf (ns : List Int) (t : Str) : Int := match (List.range 6).find? (fun j => decide (uk j = t)) with
  | some j => ns.getD j 0
  | none => 0
theorem nf_uk {ns : List Int} {j : Nat} (h : j < 6) : nf ns (uk j) = ns.getD j 0 := by
  have e : (List.range 6).find? (fun i => decide (uk i = uk j)) = some j := by
    have : j = 0 ∨ j = 1 ∨ j = 2 ∨ j = 3 ∨ j = 4 ∨ j = 5 := by omega
    rcases this with e | e | e | e | e | e <;> subst e <;> decide +kernel
  unfold nf
  rw [e]
def anyC : List Cr → Nat
  | [] => 0
  | .any _ :: r => anyC r + 1
  | .lt .. :: r => anyC r
  | .hd .. :: r => anyC r
theorem anyC_snoc (r : Cr) : ∀ l, anyC (l ++ [r]) = anyC l + anyC [r]
  | [] => by show anyC [r] = 0 + anyC [r]; omega
  | .any x :: l => by show anyC (l ++ [r]) + 1 = anyC l + 1 + anyC [r]; rw [anyC_snoc r l]; omega
  | .lt .. :: l => by show anyC (l ++ [r]) = anyC l + anyC [r]; exact anyC_snoc r l
  | .hd .. :: l => by show anyC (l ++ [r]) = anyC l + anyC [r]; exact anyC_snoc r l
theorem o_n : ∀ (rs : List Cr) (s : OSt), (oRun rs s).n = s.n + anyC rs
  | [], s => rfl
  | .any x :: rs, s => by show (oRun rs (oStep s (.any x))).n = s.n + (anyC rs + 1); rw [o_n rs]; show s.n + 1 + anyC rs = _; omega
  | .lt x y t c :: rs, s => by show (oRun rs (oStep s (.lt x y t c))).n = s.n + anyC rs; rw [o_n rs]; rfl
  | .hd x y t c :: rs, s => by show (oRun rs (oStep s (.hd x y t c))).n = s.n + anyC rs; rw [o_n rs]; rfl
theorem anyC_le : ∀ l : List Cr, anyC l ≤ l.length
  | [] => Nat.le_refl _
  | .any _ :: l => Nat.succ_le_succ (anyC_le l)
  | .lt .. :: l => Nat.le_succ_of_le (anyC_le l)
  | .hd .. :: l => Nat.le_succ_of_le (anyC_le l)
theorem gs_pre : ∀ (rs : List Cr) (s : OSt), ∃ m, (oRun rs s).gs = s.gs ++ m
  | [], s => ⟨[], (List.append_nil _).symm⟩
  | r :: rs, s => by
    obtain ⟨m, e⟩ := gs_pre rs (oStep s r)
    have e : (oRun (r :: rs) s).gs = (oStep s r).gs ++ m := e
    cases r with
    | any x => exact ⟨m, e⟩
    | lt x y t c => exact ⟨m, e⟩
    | hd x y t c => exact ⟨_, e.trans (List.append_assoc ..)⟩
theorem get_new {e : Ps} {x : Str} {n : Int} (h : x ∉ keys e) : keys (put e x n) = keys e ++ [x] := by rw [keys_put, if_neg h]
theorem getV_app {x : Str} {v : Vf} {f : Str → Int} {z : Str} : ∀ {e : List (Str × Vf)}, getV (e ++ [(x, v)]) z f = if z ∈ dom e then getV e z f else if x = z then v f else 0
  | [] => by
    have e : (if z ∈ dom ([] : List (Str × Vf)) then getV [] z f else if x = z then v f else 0) = if x = z then v f else 0 := if_neg (by intro h; cases h)
    rw [e]
    rfl
  | p :: r => by
    show (if p.1 = z then p.2 f else getV (r ++ [(x, v)]) z f) = _
    by_cases h : p.1 = z
    · rw [if_pos h, if_pos (by unfold dom; rw [List.map_cons, h]; exact List.mem_cons_self ..), getV, if_pos h]
    · rw [if_neg h, getV_app (e := r), getV, if_neg h]
      have : (z ∈ dom (p :: r)) ↔ z ∈ dom r := ⟨fun q => (List.mem_cons.mp q).resolve_left fun y => h y.symm, fun q => List.mem_cons_of_mem _ q⟩
      simp only [this]
def NR (f : Str → Int) (e : Ps) (v : List (Str × Vf)) : Prop := keys e = dom v ∧ ∀ x ∈ dom v, get e x = getV v x f
theorem NR.put {f : Str → Int} {e : Ps} {v : List (Str × Vf)} (h : NR f e v) {x : Str} (hx : x ∉ dom v) {n : Int} {g : Vf} (hg : n = g f) : NR f (put e x n) (v ++ [(x, g)]) := by
  have hk : x ∉ keys e := by rw [h.1]; exact hx
  have d1 : dom (v ++ [(x, g)]) = dom v ++ [x] := by unfold dom; rw [List.map_append]; rfl
  refine ⟨by rw [get_new hk, h.1, d1], fun z hz => ?_⟩
  rw [get_put, getV_app]
  rw [d1] at hz
  by_cases q : x = z
  · rw [if_pos q, if_neg (by rw [← q]; exact hx), if_pos q]; exact hg
  · rw [if_neg q]
    have hz2 : z ∈ dom v := (List.mem_append.mp hz).resolve_right fun y => q (List.mem_singleton.mp y).symm
    rw [if_pos hz2]
    exact h.2 z hz2
def spAlongC (Z : Cz) : Sp := fun vs H Q _ => ∃ (h b : Addr) (us : List V) (rows : List Cr) (ns : List Int), vs = [.ref h, .ref b] ∧ H h = some (.tup us) ∧ Paired (CrAt Z H) us rows ∧ rows.length ≤ 12 ∧ OWf rows o0 ∧ H b = some (.lst (ns.map V.int)) ∧ ns.length = (oRun rows o0).n ∧ ns.length ≤ 6 ∧
  (∀ (d : Addr) (e : Ps) (H' : Hp), Same H H' → H' d = some (.dK (enc e)) → NR (nf ns) e (oRun rows o0).e → (∀ g ∈ (oRun rows o0).gs, 0 ≤ g (nf ns)) → Q (.ref d) H') ∧ (∀ H', Same H H' → (∃ g ∈ (oRun rows o0).gs, g (nf ns) < 0) → Q .non H')
end Hw
namespace PySem
open Sem (wp)
theorem noi_int : typeLookup (.type "str") "__int__" = pure none := by rw [typeLookup_type, builtinLookup_eq_fast]; kernel_rfl
theorem noi_ix : typeLookup (.type "str") "__index__" = pure none := by rw [typeLookup_type, builtinLookup_eq_fast]; kernel_rfl
theorem noi_tr : typeLookup (.type "str") "__trunc__" = pure none := by rw [typeLookup_type, builtinLookup_eq_fast]; kernel_rfl
theorem meets_int_d0 (t : Tok) : Meets (Builtin.«int.__new__» ⟨[.type "int", .str "0" t], []⟩) (Made.int 0).spec :=
  Meets.of_wp fun prog w A R s hs => by
    obtain ⟨hp, g, d, tk, os⟩ := s
    have f1 := F.conv_sub_int
    have f2 := F.madeHere_int
    have hT : (⟨hp, g, d, tk, os⟩ : Shared).TypeIs (.str "0" t) "str" := rfl
    have f3 := noi_int
    have f4 := noi_ix
    have f5 := noi_tr
    repeat (any_goals (first | assumption | wp_step))
    rw [if_pos (by decide +kernel)]
    refine wpAny_bind (wpAny_pure ?_)
    with_unfolding_all (show wpAny _ _ (mkInt 0 >>= _) _ _ _)
    refine wpAny_bind (wpAny_mkInt ?_)
    repeat (any_goals (first | assumption | wp_step))
    all_goals first | exact ⟨_, rfl, hs⟩ | skip
theorem meets_int_d1 (t : Tok) : Meets (Builtin.«int.__new__» ⟨[.type "int", .str "1" t], []⟩) (Made.int 1).spec :=
  Meets.of_wp fun prog w A R s hs => by
    obtain ⟨hp, g, d, tk, os⟩ := s
    have f1 := F.conv_sub_int
    have f2 := F.madeHere_int
    have hT : (⟨hp, g, d, tk, os⟩ : Shared).TypeIs (.str "1" t) "str" := rfl
    have f3 := noi_int
    have f4 := noi_ix
    have f5 := noi_tr
    repeat (any_goals (first | assumption | wp_step))
    rw [if_pos (by decide +kernel)]
    refine wpAny_bind (wpAny_pure ?_)
    with_unfolding_all (show wpAny _ _ (mkInt 1 >>= _) _ _ _)
    refine wpAny_bind (wpAny_mkInt ?_)
    repeat (any_goals (first | assumption | wp_step))
    all_goals first | exact ⟨_, rfl, hs⟩ | skip
theorem meets_int_d2 (t : Tok) : Meets (Builtin.«int.__new__» ⟨[.type "int", .str "2" t], []⟩) (Made.int 2).spec :=
  Meets.of_wp fun prog w A R s hs => by
    obtain ⟨hp, g, d, tk, os⟩ := s
    have f1 := F.conv_sub_int
    have f2 := F.madeHere_int
    have hT : (⟨hp, g, d, tk, os⟩ : Shared).TypeIs (.str "2" t) "str" := rfl
    have f3 := noi_int
    have f4 := noi_ix
    have f5 := noi_tr
    repeat (any_goals (first | assumption | wp_step))
    rw [if_pos (by decide +kernel)]
    refine wpAny_bind (wpAny_pure ?_)
    with_unfolding_all (show wpAny _ _ (mkInt 2 >>= _) _ _ _)
    refine wpAny_bind (wpAny_mkInt ?_)
    repeat (any_goals (first | assumption | wp_step))
    all_goals first | exact ⟨_, rfl, hs⟩ | skip
theorem meets_int_d3 (t : Tok) : Meets (Builtin.«int.__new__» ⟨[.type "int", .str "3" t], []⟩) (Made.int 3).spec :=
  Meets.of_wp fun prog w A R s hs => by
    obtain ⟨hp, g, d, tk, os⟩ := s
    have f1 := F.conv_sub_int
    have f2 := F.madeHere_int
    have hT : (⟨hp, g, d, tk, os⟩ : Shared).TypeIs (.str "3" t) "str" := rfl
    have f3 := noi_int
    have f4 := noi_ix
    have f5 := noi_tr
    repeat (any_goals (first | assumption | wp_step))
    rw [if_pos (by decide +kernel)]
    refine wpAny_bind (wpAny_pure ?_)
    with_unfolding_all (show wpAny _ _ (mkInt 3 >>= _) _ _ _)
    refine wpAny_bind (wpAny_mkInt ?_)
    repeat (any_goals (first | assumption | wp_step))
    all_goals first | exact ⟨_, rfl, hs⟩ | skip
theorem meets_int_d4 (t : Tok) : Meets (Builtin.«int.__new__» ⟨[.type "int", .str "4" t], []⟩) (Made.int 4).spec :=
  Meets.of_wp fun prog w A R s hs => by
    obtain ⟨hp, g, d, tk, os⟩ := s
    have f1 := F.conv_sub_int
    have f2 := F.madeHere_int
    have hT : (⟨hp, g, d, tk, os⟩ : Shared).TypeIs (.str "4" t) "str" := rfl
    have f3 := noi_int
    have f4 := noi_ix
    have f5 := noi_tr
    repeat (any_goals (first | assumption | wp_step))
    rw [if_pos (by decide +kernel)]
    refine wpAny_bind (wpAny_pure ?_)
    with_unfolding_all (show wpAny _ _ (mkInt 4 >>= _) _ _ _)
    refine wpAny_bind (wpAny_mkInt ?_)
    repeat (any_goals (first | assumption | wp_step))
    all_goals first | exact ⟨_, rfl, hs⟩ | skip
theorem meets_int_d5 (t : Tok) : Meets (Builtin.«int.__new__» ⟨[.type "int", .str "5" t], []⟩) (Made.int 5).spec :=
  Meets.of_wp fun prog w A R s hs => by
    obtain ⟨hp, g, d, tk, os⟩ := s
    have f1 := F.conv_sub_int
    have f2 := F.madeHere_int
    have hT : (⟨hp, g, d, tk, os⟩ : Shared).TypeIs (.str "5" t) "str" := rfl
    have f3 := noi_int
    have f4 := noi_ix
    have f5 := noi_tr
    repeat (any_goals (first | assumption | wp_step))
    rw [if_pos (by decide +kernel)]
    refine wpAny_bind (wpAny_pure ?_)
    with_unfolding_all (show wpAny _ _ (mkInt 5 >>= _) _ _ _)
    refine wpAny_bind (wpAny_mkInt ?_)
    repeat (any_goals (first | assumption | wp_step))
    all_goals first | exact ⟨_, rfl, hs⟩ | skip
end PySem
namespace L2
open PySem PySem.Spec PyProof.Rows Hw
def dg (j : Nat) : Str := Str.ofString (toString (j : Int))
theorem call_intD {X : Cx} : CallR X (.type "int") (fun xs H Q => ∃ j : Nat, j < 6 ∧ xs = [.str (dg j)] ∧ Q (.int (j : Int)) H) := by
  intro pins s σ H xs us Q I r h
  obtain ⟨j, hj, rfl, q⟩ := h
  obtain ⟨u, rfl, t, rfl⟩ := vals1 r
  have : j = 0 ∨ j = 1 ∨ j = 2 ∨ j = 3 ∨ j = 4 ∨ j = 5 := by omega
  rcases this with e | e | e | e | e | e <;> subst e
  · have e : dg 0 = "0" := by decide +kernel
    rw [e]
    exact call_int_1 (meets_int_d0 t) (show (Made.int 0).post _ s from ⟨rfl, ⟨.int 0, H, I.tok _, ⟨_, rfl⟩, q⟩⟩)
  · have e : dg 1 = "1" := by decide +kernel
    rw [e]
    exact call_int_1 (meets_int_d1 t) (show (Made.int 1).post _ s from ⟨rfl, ⟨.int 1, H, I.tok _, ⟨_, rfl⟩, q⟩⟩)
  · have e : dg 2 = "2" := by decide +kernel
    rw [e]
    exact call_int_1 (meets_int_d2 t) (show (Made.int 2).post _ s from ⟨rfl, ⟨.int 2, H, I.tok _, ⟨_, rfl⟩, q⟩⟩)
  · have e : dg 3 = "3" := by decide +kernel
    rw [e]
    exact call_int_1 (meets_int_d3 t) (show (Made.int 3).post _ s from ⟨rfl, ⟨.int 3, H, I.tok _, ⟨_, rfl⟩, q⟩⟩)
  · have e : dg 4 = "4" := by decide +kernel
    rw [e]
    exact call_int_1 (meets_int_d4 t) (show (Made.int 4).post _ s from ⟨rfl, ⟨.int 4, H, I.tok _, ⟨_, rfl⟩, q⟩⟩)
  · have e : dg 5 = "5" := by decide +kernel
    rw [e]
    exact call_int_1 (meets_int_d5 t) (show (Made.int 5).post _ s from ⟨rfl, ⟨.int 5, H, I.tok _, ⟨_, rfl⟩, q⟩⟩)
theorem uk_cut {j : Nat} (h : j < 6) : Txt.slice (uk j) (some 1) none = dg j := by
  have : j = 0 ∨ j = 1 ∨ j = 2 ∨ j = 3 ∨ j = 4 ∨ j = 5 := by omega
  rcases this with e | e | e | e | e | e <;> subst e <;> decide +kernel
end L2
namespace L2
open PySem PySem.Spec PyProof.Rows
section
variable {X : Cx} {K : PySem.W.Frag}
def tRevL (K : PySem.W.Frag) (te ts : TE) : TE := fun σ H Q => te σ H fun x H1 => ts σ H1 fun y H2 => y = .int (-1) ∧ ∃ a xs, x = .ref a ∧ SqL K H2 a xs ∧ ∀ p, H2 p = none → Q (.ref p) (upd H2 p (.lst xs.reverse))
theorem pe_revL {e st : Expr} {te ts : TE} {p2 pos : Pos} (he : PE X e te) (hs : PE X st ts) : PE X (.Subscript e (.Slice none none (some st) p2) pos) (tRevL X.K te ts) := by
  intro pins s σ H Q I h
  refine Subscript_ (thn (he pins s σ H _ I h) fun v s1 ⟨x, H1, I1, r1, q1⟩ => ?_)
  refine wpAny_Slice ?_
  rw [evalPart_none]
  refine wpAny_pure (wpAny_pure ?_)
  rw [evalPart_some]
  refine thn (hs pins s1 σ H1 _ I1 q1) fun u s3 ⟨y, H3, I3, r3, e3, a, xs, ex, hx, q3⟩ => ?_
  subst e3
  subst ex
  obtain ⟨t, rfl⟩ := r3
  cases r1
  have I4 : Inv X pins σ H3 { s3 with heap := s3.heap.push { cls := .type "slice", data := .fields #[.none, .none, .int (-1) t] } } := I3.kept (t' := s3.toks) fun b ob q => Heap.get?_push_of_some _ q
  obtain ⟨its, r, ht, hz⟩ := I4.list hx
  have hlen := r.length
  refine tail_any (ops := [.ref a, .ref s3.heap.objs.size]) ht.isList.typeIs slot_list_getitem.lookup (wpAny_getItem_list_slice ht.isList (Heap.IsSliceOf.new ..) .none .none (.int (-1) t) (by decide) ?_ (by rw [List.size_toArray]; omega)) (by with_unfolding_all rfl)
  rw [PySem.W.krv_pick]
  refine ⟨.ref _, _, I4.laid (t' := s3.toks) (o := .lst xs.reverse) (fun b ob q => Heap.get?_push_of_some _ q) (Nat.le_refl _) ?_, rfl, q3 _ (I4.hok.fresh (Nat.le_refl _))⟩
  exact ⟨by rw [List.length_reverse]; exact hz, _, 0, vals_rev r, Heap.get?_push_size _ rfl⟩
end
end L2
namespace Hw
open PySem L2
abbrev Stp := Int × Int × Bool
def StAt (H : Hp) (v : V) (s : Stp) : Prop := ∃ p, v = .ref p ∧ H p = some (.tup [.int s.1, .int s.2.1, .bl s.2.2])
theorem StAt.hard {H H' : Hp} {v : V} {s : Stp} (h : StAt H v s) (k : Hard H H') : StAt H' v s := let ⟨p, e, q⟩ := h; ⟨p, e, k.t _ _ q⟩
def SOk (s : Stp) : Prop := 1 ≤ s.1 ∧ s.1 ≤ 3 ∧ -20 ≤ s.2.1 ∧ s.2.1 ≤ 20
def bP : List Stp → Int
  | [] => 1
  | s :: r => s.1 * bP r
def bN : List Stp → Int
  | [] => 0
  | s :: r => s.2.1 * bP r + bN r
theorem bP_snoc (s : Stp) : ∀ l, bP (l ++ [s]) = bP l * s.1
  | [] => by show s.1 * 1 = 1 * s.1; omega
  | a :: l => by show a.1 * bP (l ++ [s]) = a.1 * bP l * s.1; rw [bP_snoc s l, Int.mul_assoc]
theorem bN_snoc (s : Stp) : ∀ l, bN (l ++ [s]) = bN l * s.1 + s.2.1
  | [] => by show s.2.1 * 1 + 0 = 0 * s.1 + s.2.1; omega
  | a :: l => by
    show a.2.1 * bP (l ++ [s]) + bN (l ++ [s]) = (a.2.1 * bP l + bN l) * s.1 + s.2.1
    rw [bP_snoc, bN_snoc s l, Int.add_mul, ← Int.mul_assoc]; omega
def wts : List Stp → List Int
  | [] => []
  | s :: r => if s.2.2 then wts r else bP r :: wts r
def lstV (a : Int) : List Stp → Int
  | [] => a
  | s :: r => lstV (a * s.1 + s.2.1) r
def grt (a : Int) : List Stp → List Int
  | [] => []
  | s :: r => if s.2.2 then grt (a * s.1 + s.2.1) r else (a * s.1 + s.2.1) :: grt (a * s.1 + s.2.1) r
theorem lstV_snoc (s : Stp) : ∀ (l : List Stp) (a : Int), lstV a (l ++ [s]) = lstV a l * s.1 + s.2.1
  | [], a => rfl
  | x :: l, a => lstV_snoc s l _
theorem grt_snoc (s : Stp) : ∀ (l : List Stp) (a : Int), grt a (l ++ [s]) = grt a l ++ (if s.2.2 then [] else [lstV a l * s.1 + s.2.1])
  | [], a => by
    show (if s.2.2 then [] else _) = [] ++ _
    rw [List.nil_append]; rfl
  | x :: l, a => by
    show (if x.2.2 then grt _ (l ++ [s]) else _ :: grt _ (l ++ [s])) = (if x.2.2 then grt _ l else _ :: grt _ l) ++ _
    rw [grt_snoc s l]
    cases x.2.2 with
    | true => rfl
    | false => rfl
def cntS : List Stp → Nat
  | [] => 0
  | s :: r => if s.2.2 then cntS r else cntS r + 1
theorem wts_len : ∀ l, (wts l).length = cntS l
  | [] => rfl
  | s :: l => by
    unfold wts cntS
    cases s.2.2 with
    | true => exact wts_len l
    | false => exact congrArg (· + 1) (wts_len l)
theorem grt_len : ∀ l a, (grt a l).length = cntS l
  | [], _ => rfl
  | s :: l, a => by
    unfold grt cntS
    cases s.2.2 with
    | true => exact grt_len l _
    | false => exact congrArg (· + 1) (grt_len l _)
theorem cnt_le : ∀ l, cntS l ≤ l.length
  | [] => Nat.le_refl _
  | s :: l => by
    unfold cntS
    have := cnt_le l
    cases s.2.2 with
    | true => exact Nat.le_succ_of_le this
    | false => exact Nat.succ_le_succ this
def finF (n : Nat) (A : Vf) : List Stp → Vf
  | [] => A
  | s :: r => if s.2.2 then finF n (fun f => s.1 * A f + s.2.1) r else finF (n + 1) (fun f => f (uk n)) r
def gsF (n : Nat) (A : Vf) : List Stp → List Vf
  | [] => []
  | s :: r => if s.2.2 then gsF n (fun f => s.1 * A f + s.2.1) r else (fun f => s.1 * A f + s.2.1 - f (uk n)) :: gsF (n + 1) (fun f => f (uk n)) r
def wsmF (f : Str → Int) : List Int → List Vf → Int
  | w :: ws, g :: gs => w * g f + wsmF f ws gs
  | _, _ => 0
theorem gsF_len : ∀ l n A, (gsF n A l).length = cntS l
  | [], _, _ => rfl
  | s :: l, n, A => by
    unfold gsF cntS
    cases s.2.2 with
    | true => exact gsF_len l _ _
    | false => exact congrArg (· + 1) (gsF_len l _ _)
theorem tel (f : Str → Int) : ∀ (l : List Stp) (n : Nat) (A : Vf), wsmF f (wts l) (gsF n A l) + finF n A l f = bP l * A f + bN l
  | [], n, A => by show 0 + A f = 1 * A f + 0; omega
  | s :: l, n, A => by
    simp only [wts, gsF, finF, bP, bN]
    cases h : s.2.2 with
    | true =>
      have ih := tel f l n (fun f => s.1 * A f + s.2.1)
      simp only [if_true] at ih ⊢
      rw [ih, Int.mul_add, Int.mul_comm (bP l) (s.1 * A f), Int.mul_comm s.1 (bP l), Int.mul_comm (bP l) s.2.1, Int.mul_comm s.1 (A f), Int.mul_assoc, Int.mul_comm (A f) (s.1 * bP l), Int.mul_comm s.1 (bP l)]
      omega
    | false =>
      have ih := tel f l (n + 1) (fun f => f (uk n))
      simp only [Bool.false_eq_true, if_false] at ih ⊢
      show bP l * (s.1 * A f + s.2.1 - f (uk n)) + wsmF f (wts l) (gsF (n + 1) (fun f => f (uk n)) l) + _ = _
      rw [Int.add_assoc, ih, Int.mul_sub, Int.mul_add, Int.mul_comm (bP l) (s.1 * A f), Int.mul_comm s.1 (A f), Int.mul_assoc, Int.mul_comm (A f) (s.1 * bP l), Int.mul_comm s.2.1 (bP l)]
      omega
theorem bP_pos : ∀ {l : List Stp}, (∀ s ∈ l, SOk s) → 1 ≤ bP l
  | [], _ => Int.le_refl _
  | s :: l, h => by
    have h1 := bP_pos fun x hx => h x (List.mem_cons_of_mem _ hx)
    have h2 := (h s (List.mem_cons_self ..)).1
    show 1 ≤ s.1 * bP l
    have := Int.mul_le_mul h2 h1 (by omega) (by omega)
    omega
theorem bP_le : ∀ {l : List Stp}, (∀ s ∈ l, SOk s) → bP l ≤ 3 ^ l.length
  | [], _ => Int.le_refl _
  | s :: l, h => by
    have h1 := bP_le fun x hx => h x (List.mem_cons_of_mem _ hx)
    have h0 := bP_pos fun x hx => h x (List.mem_cons_of_mem _ hx)
    have h2 := (h s (List.mem_cons_self ..)).2.1
    show s.1 * bP l ≤ 3 ^ (l.length + 1)
    have := Int.mul_le_mul h2 h1 (by omega) (by omega)
    rw [Int.pow_succ]
    omega
theorem wts_pos : ∀ {l : List Stp}, (∀ s ∈ l, SOk s) → ∀ w ∈ wts l, 1 ≤ w ∧ w ≤ 3 ^ l.length
  | [], _ => fun _ h => nomatch h
  | s :: l, h => by
    have hl : ∀ x ∈ l, SOk x := fun x hx => h x (List.mem_cons_of_mem _ hx)
    have h1 := bP_le hl
    have h0 := bP_pos hl
    have ih := wts_pos hl
    have up : ∀ w : Int, w ≤ 3 ^ l.length → 0 ≤ w → w ≤ 3 ^ (l.length + 1) := fun w a b => by rw [Int.pow_succ]; omega
    unfold wts
    cases s.2.2 with
    | true => exact fun w hw => ⟨(ih w hw).1, up w (ih w hw).2 (by have := (ih w hw).1; omega)⟩
    | false =>
      intro w hw
      rcases List.mem_cons.mp hw with e | hw
      · rw [e]; exact ⟨h0, up _ h1 (by omega)⟩
      · exact ⟨(ih w hw).1, up w (ih w hw).2 (by have := (ih w hw).1; omega)⟩
theorem wsmF_nn {f : Str → Int} : ∀ {ws : List Int} {gs : List Vf}, (∀ w ∈ ws, 0 ≤ w) → (∀ g ∈ gs, 0 ≤ g f) → 0 ≤ wsmF f ws gs
  | [], _, _, _ => by unfold wsmF; exact Int.le_refl _
  | _ :: _, [], _, _ => Int.le_refl _
  | w :: ws, g :: gs, a, b => by
    have h1 := Int.mul_nonneg (a w (List.mem_cons_self ..)) (b g (List.mem_cons_self ..))
    have h2 := wsmF_nn (f := f) (fun x hx => a x (List.mem_cons_of_mem _ hx)) (fun x hx => b x (List.mem_cons_of_mem _ hx))
    show 0 ≤ w * g f + wsmF f ws gs
    omega
theorem wsmF_z {f : Str → Int} : ∀ {ws : List Int} {gs : List Vf}, (∀ g ∈ gs, g f = 0) → wsmF f ws gs = 0
  | [], _, _ => by unfold wsmF; rfl
  | _ :: _, [], _ => rfl
  | w :: ws, g :: gs, b => by
    show w * g f + wsmF f ws gs = 0
    rw [b g (List.mem_cons_self ..), wsmF_z (ws := ws) fun x hx => b x (List.mem_cons_of_mem _ hx)]
    omega
theorem gs_zero {ns : List Int} : ∀ (l : List Stp) (n : Nat) (A : Vf) (a : Int) (pre : List Int), pre.length = n → ns = pre ++ grt a l → A (nf ns) = a → n + cntS l ≤ 6 → ∀ g ∈ gsF n A l, g (nf ns) = 0
  | [], _, _, _, _, _, _, _, _ => fun _ h => nomatch h
  | s :: l, n, A, a, pre, hl, e, hA, h6 => by
    unfold gsF
    unfold grt at e
    unfold cntS at h6
    cases q : s.2.2 with
    | true =>
      simp only [q, if_true] at e h6 ⊢
      exact gs_zero l n _ _ pre hl e (by show s.1 * A (nf ns) + s.2.1 = _; rw [hA, Int.mul_comm]) h6
    | false =>
      simp only [q, Bool.false_eq_true, if_false] at e h6 ⊢
      have hu : nf ns (uk n) = a * s.1 + s.2.1 := by
        rw [nf_uk (by omega), e, List.getD_eq_getElem?_getD, List.getElem?_append_right (by omega), hl, Nat.sub_self]
        rfl
      intro g hg
      rcases List.mem_cons.mp hg with z | z
      · rw [z]
        show s.1 * A (nf ns) + s.2.1 - nf ns (uk n) = 0
        rw [hu, hA, Int.mul_comm]; omega
      · exact gs_zero l (n + 1) _ _ (pre ++ [a * s.1 + s.2.1]) (by rw [List.length_append, hl]; rfl) (by rw [e, List.append_assoc]; rfl) hu (by omega) g z
def chR (y x : Str) (s : Stp) : List Cr := if s.2.2 then [.lt x y s.1 s.2.1] else [.any x, .hd x y s.1 s.2.1]
def chN (nm : List Str) : Nat → List Stp → List Cr
  | _, [] => []
  | k, s :: st => chR (nm.getD k "") (nm.getD (k + 1) "") s ++ chN nm (k + 1) st
def rowsN (nm : List Str) (st : List Stp) : List Cr := .any (nm.getD 0 "") :: chN nm 0 st
theorem chN_snoc (nm : List Str) (s : Stp) : ∀ (st : List Stp) (k : Nat), chN nm k (st ++ [s]) = chN nm k st ++ chR (nm.getD (k + st.length) "") (nm.getD (k + st.length + 1) "") s
  | [], k => by show chR _ _ s ++ [] = [] ++ _; rw [List.append_nil]; rfl
  | a :: st, k => by
    show chR _ _ a ++ chN nm (k + 1) (st ++ [s]) = (chR _ _ a ++ chN nm (k + 1) st) ++ _
    rw [chN_snoc nm s st (k + 1), List.append_assoc]
    have e : k + 1 + st.length = k + (st.length + 1) := by omega
    rw [e]; rfl
theorem rowsN_snoc (nm : List Str) (s : Stp) (st : List Stp) : rowsN nm (st ++ [s]) = rowsN nm st ++ chR (nm.getD st.length "") (nm.getD (st.length + 1) "") s := by
  unfold rowsN
  rw [chN_snoc, Nat.zero_add]; rfl
theorem chN_len (nm : List Str) : ∀ (st : List Stp) (k : Nat), (chN nm k st).length ≤ 2 * st.length
  | [], _ => Nat.le_refl _
  | a :: st, k => by
    have := chN_len nm st (k + 1)
    show (chR _ _ a ++ chN nm (k + 1) st).length ≤ 2 * (st.length + 1)
    rw [List.length_append]
    unfold chR
    cases a.2.2 with
    | true => show 1 + _ ≤ _; omega
    | false => show 2 + _ ≤ _; omega
end Hw
namespace Hw
open PySem L2
def spUnk : Sp := fun vs H Q _ => ∃ n0 : Nat, vs = [.int (n0 : Int)] ∧ n0 < 6 ∧ Q (.str (uk n0)) H
def spBnd : Sp := fun vs H Q _ => ∃ (l : Addr) (us : List V) (st : List Stp), vs = [.ref l] ∧ H l = some (.lst us) ∧ Paired (StAt H) us st ∧ (∀ s ∈ st, SOk s) ∧ st.length ≤ 5 ∧ ∀ (r : Addr) (H' : Hp), Same H H' → H' r = some (.tup [.int (bP st), .int (bN st)]) → Q (.ref r) H'
def spWts : Sp := fun vs H Q _ => ∃ (l : Addr) (us : List V) (st : List Stp), vs = [.ref l] ∧ H l = some (.lst us) ∧ Paired (StAt H) us st ∧ (∀ s ∈ st, SOk s) ∧ st.length ≤ 5 ∧ ∀ (r : Addr) (H' : Hp), Same H H' → H' r = some (.lst ((wts st ++ [1]).map V.int)) → Q (.ref r) H'
def spGrt : Sp := fun vs H Q _ => ∃ (l : Addr) (a : Int) (us : List V) (st : List Stp), vs = [.int a, .ref l] ∧ H l = some (.lst us) ∧ Paired (StAt H) us st ∧ (∀ s ∈ st, SOk s) ∧ st.length ≤ 5 ∧ ∀ (r : Addr) (H' : Hp), H r = none → Same H H' → H' r = some (.lst ((a :: grt a st).map V.int)) → Q (.ref r) H'
def spLValC (C : Addr) : Sp := fun vs H Q _ => ∃ (p b : Addr) (s : Sm) (ns : List Int), vs = [.ref p, .ref b] ∧ SumAt C H p s.1 s.2 ∧ Gm (xsN ns.length) s ∧ H b = some (.lst (ns.map V.int)) ∧ ns.length ≤ 6 ∧ (∀ n ∈ ns, Small n) ∧ ∀ H', Same H H' → Q (.int (ev s (nf ns))) H'
def spChain (Z : Cz) : Sp := fun vs H Q _ => ∃ (d l : Addr) (nm : List Str), vs = [.ref d, .ref l] ∧ Dr H d ∧ H l = some (.lst (nm.map V.str)) ∧ l ≠ d ∧ 2 ≤ nm.length ∧ nm.length ≤ 6 ∧
  ∀ (r rw sw : Addr) (us ws : List V) (st : List Stp) (H' : Hp), But d H H' → H' r = some (.tup [.ref rw, .ref sw]) → H' rw = some (.lst us) → H' sw = some (.lst ws) → Paired (CrAt Z H') us (rowsN nm st) → Paired (StAt H') ws st → (∀ s ∈ st, SOk s) → st.length + 1 = nm.length → Q (.ref r) H'
end Hw
namespace Hw
open PySem L2
structure ChI (Z : Cz) (H : Hp) (d rw sw : Addr) (us ws : List V) (rows : List Cr) (st : List Stp) (G : Hp) : Prop where
  b : But d H G
  dr : Dr G d
  er : G rw = some (.lst us)
  es : G sw = some (.lst ws)
  pr : Paired (CrAt Z G) us rows
  ps : Paired (StAt G) ws st
variable {Z : Cz} {H G G' : Hp} {d rw sw : Addr} {us ws : List V} {rows : List Cr} {st : List Stp} {v : V}
theorem ChI.same (h : ChI Z H d rw sw us ws rows st G) (s : Same G G') : ChI Z H d rw sw us ws rows st G' := ⟨h.b.trans (But.of s), h.dr.same s, s _ _ h.er, s _ _ h.es, Paired.mapP h.pr fun _ _ z => z.hard (Hard.of s), Paired.mapP h.ps fun _ _ z => z.hard (Hard.of s)⟩
theorem ChI.but (h : ChI Z H d rw sw us ws rows st G) (n1 : rw ≠ d) (n2 : sw ≠ d) (b : But d G G') (dd : Dr G' d) : ChI Z H d rw sw us ws rows st G' := ⟨h.b.trans b, dd, b _ _ h.er n1, b _ _ h.es n2, Paired.mapP h.pr fun _ _ z => z.hard (h.dr.soft b), Paired.mapP h.ps fun _ _ z => z.hard (h.dr.soft b)⟩
theorem ChI.row (h : ChI Z H d rw sw us ws rows st G) (n1 : rw ≠ d) (n3 : rw ≠ sw) (h0 : H rw = none) {r : Cr} (c : CrAt Z G v r) : ChI Z H d rw sw (us ++ [v]) ws (rows ++ [r]) st (upd G rw (.lst (us ++ [v]))) := by
  have hU := hard_upd (ys := us ++ [v]) h.er
  refine ⟨fun b o e n => ?_, ?_, upd_same, ?_, paired_snoc (Paired.mapP h.pr fun _ _ z => z.hard hU) (c.hard hU), Paired.mapP h.ps fun _ _ z => z.hard hU⟩
  · rw [upd_ne (ne_of_none e h0)]
    exact h.b b o e n
  · obtain ⟨x, y, q⟩ := h.dr
    exact ⟨x, y, by rw [upd_ne n1.symm]; exact q⟩
  · rw [upd_ne n3.symm]
    exact h.es
theorem ChI.stp (h : ChI Z H d rw sw us ws rows st G) (n2 : sw ≠ d) (n3 : rw ≠ sw) (h0 : H sw = none) {s : Stp} (c : StAt G v s) : ChI Z H d rw sw us (ws ++ [v]) rows (st ++ [s]) (upd G sw (.lst (ws ++ [v]))) := by
  have hU := hard_upd (ys := ws ++ [v]) h.es
  refine ⟨fun b o e n => ?_, ?_, ?_, upd_same, Paired.mapP h.pr fun _ _ z => z.hard hU, paired_snoc (Paired.mapP h.ps fun _ _ z => z.hard hU) (c.hard hU)⟩
  · rw [upd_ne (ne_of_none e h0)]
    exact h.b b o e n
  · obtain ⟨x, y, q⟩ := h.dr
    exact ⟨x, y, by rw [upd_ne n2.symm]; exact q⟩
  · rw [upd_ne n3]
    exact h.er
end Hw
namespace Hw
open PySem L2
theorem nodup_snocC {α : Type} {a : α} : ∀ {l : List α}, l.Nodup → a ∉ l → (l ++ [a]).Nodup := fun h n => List.nodup_append.mpr ⟨h, by simp, fun x hx y hy => by rw [List.mem_singleton.mp hy]; exact fun e => n (e ▸ hx)⟩
def spNamesC : Sp := fun vs H Q _ => ∃ (d : Addr) (m : Nat), vs = [.ref d, .int m] ∧ Dr H d ∧ m ≤ 12 ∧
  ∀ (l : Addr) (xs : List Str) (H' : Hp), But d H H' → Dr H' d → H l = none → H' l = some (.lst (xs.map V.str)) → xs.length = m → (∀ x ∈ xs, x.length ≤ 8) → xs.Nodup → Q (.ref l) H'
end Hw
namespace Hw
open PySem L2
theorem uk_ne {j n : Nat} (h : j < n) (h6 : n < 6) : uk j ≠ uk n := fun e => by
  have g : ∀ i, i < 6 → nf [0, 1, 2, 3, 4, 5] (uk i) = (i : Int) := fun i hi => by
    rw [nf_uk hi]
    have : i = 0 ∨ i = 1 ∨ i = 2 ∨ i = 3 ∨ i = 4 ∨ i = 5 := by omega
    rcases this with e | e | e | e | e | e <;> subst e <;> rfl
  have a := g j (by omega)
  have b := g n h6
  rw [e, b] at a
  omega
def LinA (n : Nat) (A : Vf) : Prop := ∃ (a b : Int) (j : Nat), j < n ∧ ∀ f, A f = a * f (uk j) + b
theorem nc_hold {n : Nat} {A : Vf} (h : LinA n A) (h6 : n < 6) (t c : Int) : NC fun f => t * A f + c - f (uk n) := by
  obtain ⟨a, b, j, hj, e⟩ := h
  refine ⟨fun _ => 0, fun z => if z = uk n then 1 else 0, ?_⟩
  have e1 : (if uk j = uk n then (1 : Int) else 0) = 0 := if_neg (uk_ne hj h6)
  have e2 : (if uk n = uk n then (1 : Int) else 0) = 1 := if_pos rfl
  show t * A (fun _ => 0) + c - 0 ≠ t * A (fun z => if z = uk n then 1 else 0) + c - (if uk n = uk n then (1 : Int) else 0)
  rw [e, e, e1, e2]
  show t * (a * 0 + b) + c - 0 ≠ t * (a * 0 + b) + c - 1
  omega
theorem dom_snoc (e : List (Str × Vf)) (x : Str) (v : Vf) : dom (e ++ [(x, v)]) = dom e ++ [x] := by unfold dom; rw [List.map_append]; rfl
theorem ch_run {nm : List Str} (nd : nm.Nodup) : ∀ (st : List Stp) (k : Nat) (s : OSt), (∀ x ∈ st, SOk x) → dom s.e = nm.take (k + 1) → k + st.length + 1 = nm.length → s.n + cntS st ≤ 6 → LinA s.n (fun f => getV s.e (nm.getD k "") f) →
    OWf (chN nm k st) s ∧ (oRun (chN nm k st) s).gs = s.gs ++ gsF s.n (fun f => getV s.e (nm.getD k "") f) st ∧ (∀ f, getV (oRun (chN nm k st) s).e (nm.getD (k + st.length) "") f = finF s.n (fun f => getV s.e (nm.getD k "") f) st f) ∧
    (∀ z ∈ dom s.e, ∀ f, getV (oRun (chN nm k st) s).e z f = getV s.e z f) ∧ (oRun (chN nm k st) s).n = s.n + cntS st ∧ dom (oRun (chN nm k st) s).e = nm.take (k + 1 + st.length)
  | [], k, s, _, hd, _, _, _ => ⟨trivial, (List.append_nil _).symm, fun _ => rfl, fun _ _ _ => rfl, rfl, hd⟩
  | (t, c, m) :: st, k, s, ok, hd, hl, h6, la => by
    have hl : k + (st.length + 1) + 1 = nm.length := hl
    have ok1 : SOk (t, c, m) := ok _ (List.mem_cons_self ..)
    have ok2 : ∀ x ∈ st, SOk x := fun x hx => ok x (List.mem_cons_of_mem _ hx)
    have gx : nm[k + 1]? = some (nm.getD (k + 1) "") := by rw [List.getD_eq_getElem?_getD, List.getElem?_eq_getElem (by omega)]; rfl
    have gy : nm[k]? = some (nm.getD k "") := by rw [List.getD_eq_getElem?_getD, List.getElem?_eq_getElem (by omega)]; rfl
    have hx : nm.getD (k + 1) "" ∉ dom s.e := by rw [hd]; exact take_nin nd gx
    have hy : nm.getD k "" ∈ dom s.e := by rw [hd, take_snoc gy]; exact List.mem_append.mpr (.inr (List.mem_singleton.mpr rfl))
    have hd2 : dom s.e ++ [nm.getD (k + 1) ""] = nm.take (k + 1 + 1) := by rw [hd, ← take_snoc gx]
    have el : k + 1 + st.length = k + (st.length + 1) := by omega
    have el2 : k + 1 + 1 + st.length = k + 1 + (st.length + 1) := by omega
    generalize hX : nm.getD (k + 1) "" = x at gx hx hd2
    generalize hY : nm.getD k "" = y at gy hy la
    cases m with
    | true =>
      have e0 : chN nm k ((t, c, true) :: st) = Cr.lt x y t c :: chN nm (k + 1) st := by rw [← hX, ← hY]; rfl
      have gv : ∀ z f, getV (s.e ++ [(x, (fun f => t * getV s.e y f + c : Vf))]) z f = if z ∈ dom s.e then getV s.e z f else if x = z then t * getV s.e y f + c else 0 := fun z f => getV_app
      have eA : (fun f => getV (s.e ++ [(x, (fun f => t * getV s.e y f + c : Vf))]) x f) = fun f => t * getV s.e y f + c := funext fun f => by rw [gv, if_neg hx, if_pos rfl]
      obtain ⟨a, b, j, hj, ha⟩ := la
      have ih := ch_run nd st (k + 1) (oStep s (.lt x y t c)) ok2 (by show dom (s.e ++ [_]) = _; rw [dom_snoc]; exact hd2) (by omega) h6 (by
        rw [hX]
        show LinA s.n (fun f => getV (s.e ++ [(x, (fun f => t * getV s.e y f + c : Vf))]) x f)
        rw [eA]
        refine ⟨t * a, t * b + c, j, hj, fun f => ?_⟩
        have ha : getV s.e y f = a * f (uk j) + b := ha f
        show t * getV s.e y f + c = _
        rw [ha, Int.mul_add, ← Int.mul_assoc]; omega)
      rw [hX] at ih
      have ih : OWf (chN nm (k + 1) st) (oStep s (.lt x y t c)) ∧ (oRun (chN nm (k + 1) st) (oStep s (.lt x y t c))).gs = s.gs ++ gsF s.n (fun f => getV (s.e ++ [(x, (fun f => t * getV s.e y f + c : Vf))]) x f) st ∧ (∀ f, getV (oRun (chN nm (k + 1) st) (oStep s (.lt x y t c))).e (nm.getD (k + 1 + st.length) "") f = finF s.n (fun f => getV (s.e ++ [(x, (fun f => t * getV s.e y f + c : Vf))]) x f) st f) ∧ (∀ z ∈ dom (s.e ++ [(x, (fun f => t * getV s.e y f + c : Vf))]), ∀ f, getV (oRun (chN nm (k + 1) st) (oStep s (.lt x y t c))).e z f = getV (s.e ++ [(x, (fun f => t * getV s.e y f + c : Vf))]) z f) ∧ (oRun (chN nm (k + 1) st) (oStep s (.lt x y t c))).n = s.n + cntS st ∧ dom (oRun (chN nm (k + 1) st) (oStep s (.lt x y t c))).e = nm.take (k + 1 + 1 + st.length) := ih
      rw [eA, el, el2] at ih
      obtain ⟨i1, i2, i3, i4, i5, i6⟩ := ih
      rw [e0]
      refine ⟨⟨⟨hx, hy, ok1.1, ok1.2.1⟩, i1⟩, i2, i3, fun z hz f => ?_, i5, i6⟩
      refine (i4 z (by rw [dom_snoc]; exact List.mem_append.mpr (.inl hz)) f).trans ?_
      rw [gv, if_pos hz]
    | false =>
      have e0 : chN nm k ((t, c, false) :: st) = Cr.any x :: Cr.hd x y t c :: chN nm (k + 1) st := by rw [← hX, ← hY]; rfl
      have h6' : s.n + (cntS st + 1) ≤ 6 := h6
      have gv : ∀ z f, getV (s.e ++ [(x, (fun f => f (uk s.n) : Vf))]) z f = if z ∈ dom s.e then getV s.e z f else if x = z then f (uk s.n) else 0 := fun z f => getV_app
      have eA : (fun f => getV (s.e ++ [(x, (fun f => f (uk s.n) : Vf))]) x f) = fun f => f (uk s.n) := funext fun f => by rw [gv, if_neg hx, if_pos rfl]
      have eg : (fun f => t * getV (s.e ++ [(x, (fun f => f (uk s.n) : Vf))]) y f + c - getV (s.e ++ [(x, (fun f => f (uk s.n) : Vf))]) x f : Vf) = fun f => t * getV s.e y f + c - f (uk s.n) := funext fun f => by rw [gv, gv, if_pos hy, if_neg hx, if_pos rfl]
      have e2 : oStep (oStep s (.any x)) (.hd x y t c) = ⟨s.e ++ [(x, (fun f => f (uk s.n) : Vf))], s.n + 1, s.gs ++ [(fun f => t * getV s.e y f + c - f (uk s.n) : Vf)]⟩ := by
        show (⟨_, _, s.gs ++ [(fun f => t * getV (s.e ++ [(x, (fun f => f (uk s.n) : Vf))]) y f + c - getV (s.e ++ [(x, (fun f => f (uk s.n) : Vf))]) x f : Vf)]⟩ : OSt) = _
        rw [eg]
        rfl
      have ih := ch_run nd st (k + 1) ⟨s.e ++ [(x, (fun f => f (uk s.n) : Vf))], s.n + 1, s.gs ++ [(fun f => t * getV s.e y f + c - f (uk s.n) : Vf)]⟩ ok2 (by rw [dom_snoc]; exact hd2) (by omega) (by show s.n + 1 + cntS st ≤ 6; omega) (by
        rw [hX]
        show LinA (s.n + 1) (fun f => getV (s.e ++ [(x, (fun f => f (uk s.n) : Vf))]) x f)
        rw [eA]
        exact ⟨1, 0, s.n, Nat.lt_succ_self _, fun f => by show f (uk s.n) = 1 * f (uk s.n) + 0; omega⟩)
      simp only [hX, eA, el, el2] at ih
      obtain ⟨i1, i2, i3, i4, i5, i6⟩ := ih
      rw [e0]
      show (oOk s (.any x) ∧ oOk (oStep s (.any x)) (.hd x y t c) ∧ OWf (chN nm (k + 1) st) (oStep (oStep s (.any x)) (.hd x y t c))) ∧ (oRun (chN nm (k + 1) st) (oStep (oStep s (.any x)) (.hd x y t c))).gs = _ ∧ (∀ f, getV (oRun (chN nm (k + 1) st) (oStep (oStep s (.any x)) (.hd x y t c))).e _ f = _) ∧ (∀ z ∈ dom s.e, ∀ f, getV (oRun (chN nm (k + 1) st) (oStep (oStep s (.any x)) (.hd x y t c))).e z f = getV s.e z f) ∧ (oRun (chN nm (k + 1) st) (oStep (oStep s (.any x)) (.hd x y t c))).n = s.n + (cntS st + 1) ∧ dom (oRun (chN nm (k + 1) st) (oStep (oStep s (.any x)) (.hd x y t c))).e = _
      rw [e2]
      have hx1 : x ∈ dom (s.e ++ [(x, (fun f => f (uk s.n) : Vf))]) := by rw [dom_snoc]; exact List.mem_append.mpr (.inr (List.mem_singleton.mpr rfl))
      have hy1 : y ∈ dom (s.e ++ [(x, (fun f => f (uk s.n) : Vf))]) := by rw [dom_snoc]; exact List.mem_append.mpr (.inl hy)
      refine ⟨⟨⟨hx, by omega⟩, ⟨hx1, hy1, ok1.1, ok1.2.1, ?_⟩, i1⟩, ?_, ?_, fun z hz f => ?_, ?_, i6⟩
      · show NC (fun f => t * getV (s.e ++ [(x, (fun f => f (uk s.n) : Vf))]) y f + c - getV (s.e ++ [(x, (fun f => f (uk s.n) : Vf))]) x f)
        rw [eg]
        exact nc_hold la (by omega) t c
      · rw [i2, List.append_assoc]; rfl
      · exact i3
      · refine (i4 z (by rw [dom_snoc]; exact List.mem_append.mpr (.inl hz)) f).trans ?_
        rw [gv, if_pos hz]
      · rw [i5]; show s.n + 1 + cntS st = _; omega
abbrev u0 : Vf := fun f => f (uk 0)
theorem chain_run {nm : List Str} (nd : nm.Nodup) {st : List Stp} (ok : ∀ x ∈ st, SOk x) (hl : st.length + 1 = nm.length) (h6 : nm.length ≤ 6) :
    OWf (rowsN nm st) o0 ∧ (oRun (rowsN nm st) o0).gs = gsF 1 u0 st ∧ (∀ f, getV (oRun (rowsN nm st) o0).e (nm.getD st.length "") f = finF 1 u0 st f) ∧ (∀ f, getV (oRun (rowsN nm st) o0).e (nm.getD 0 "") f = f (uk 0)) ∧ (oRun (rowsN nm st) o0).n = 1 + cntS st ∧ dom (oRun (rowsN nm st) o0).e = nm := by
  have g0 : nm[0]? = some (nm.getD 0 "") := by rw [List.getD_eq_getElem?_getD, List.getElem?_eq_getElem (by omega)]; rfl
  have c6 := cnt_le st
  have eA : (fun f => getV (oStep o0 (.any (nm.getD 0 ""))).e (nm.getD 0 "") f) = u0 := funext fun f => by
    show (if nm.getD 0 "" = nm.getD 0 "" then f (uk 0) else 0) = _
    rw [if_pos rfl]
  have h := ch_run nd st 0 (oStep o0 (.any (nm.getD 0 ""))) ok (by
    show [nm.getD 0 ""] = nm.take (0 + 1)
    rw [take_snoc g0]; rfl) (by omega) (by show 0 + 1 + cntS st ≤ 6; omega) (by rw [eA]; exact ⟨1, 0, 0, Nat.lt_succ_self _, fun f => by show f (uk 0) = 1 * f (uk 0) + 0; omega⟩)
  rw [eA, Nat.zero_add] at h
  obtain ⟨i1, i2, i3, i4, i5, i6⟩ := h
  refine ⟨⟨⟨(fun z => nomatch z), by show 0 < 6; decide⟩, i1⟩, i2, i3, fun f => ?_, ?_, ?_⟩
  · refine (i4 _ (List.mem_singleton.mpr rfl) f).trans ?_
    exact congrFun eA f
  · refine i5.trans ?_
    show 0 + 1 + cntS st = _
    omega
  · refine i6.trans ?_
    rw [List.take_of_length_le (by omega)]
def idxW (k : Nat) : List Int → List (Int × Nat)
  | [] => []
  | w :: r => (w, k) :: idxW (k + 1) r
theorem idxW_snoc (w : Int) : ∀ (l : List Int) (k : Nat), idxW k (l ++ [w]) = idxW k l ++ [(w, k + l.length)]
  | [], k => rfl
  | a :: l, k => by
    show (a, k) :: idxW (k + 1) (l ++ [w]) = (a, k) :: (idxW (k + 1) l ++ [(w, k + (l.length + 1))])
    rw [idxW_snoc w l (k + 1)]
    have e : k + 1 + l.length = k + (l.length + 1) := by omega
    rw [e]
theorem idxW_len : ∀ (l : List Int) (k : Nat), (idxW k l).length = l.length
  | [], _ => rfl
  | a :: l, k => congrArg (· + 1) (idxW_len l (k + 1))
theorem idxW_mem : ∀ {l : List Int} {k : Nat} {p : Int × Nat}, p ∈ idxW k l → p.1 ∈ l ∧ p.2 < k + l.length
  | a :: l, k, p, h => by
    rcases List.mem_cons.mp h with e | h
    · rw [e]; exact ⟨List.mem_cons_self .., by show k < k + (l.length + 1); omega⟩
    · have := idxW_mem h
      exact ⟨List.mem_cons_of_mem _ this.1, by show p.2 < k + (l.length + 1); omega⟩
theorem evW_idx {M : Nat} {f : Str → Int} : ∀ {ss : List Sm} {gs : List Vf} (pre : List Sm) (ws : List Int), Paired (SG M) ss gs → ws.length = ss.length → evW (pre ++ ss) f (idxW pre.length ws) = wsmF f ws gs
  | [], [], pre, [], .nil, _ => by unfold wsmF; rfl
  | s :: ss, g :: gs, pre, w :: ws, .cons h t, e => by
    have ih := evW_idx (f := f) (pre ++ [s]) ws t (Nat.succ.inj e)
    rw [List.append_assoc, List.length_append] at ih
    show w * ev ((pre ++ s :: ss).getD pre.length s0) f + evW (pre ++ s :: ss) f (idxW (pre.length + 1) ws) = w * g f + wsmF f ws gs
    have e1 : (pre ++ s :: ss).getD pre.length s0 = s := getD_of (by rw [List.getElem?_append_right (Nat.le_refl _), Nat.sub_self]; rfl)
    rw [e1, h.2 f]
    exact congrArg (w * g f + ·) ih
theorem wsmF_snoc {f : Str → Int} {g : Vf} : ∀ {ws : List Int} {gs : List Vf}, ws.length = gs.length → wsmF f (ws ++ [1]) (gs ++ [g]) = wsmF f ws gs + g f
  | [], [], _ => by show 1 * g f + 0 = 0 + g f; omega
  | w :: ws, a :: gs, e => by
    show w * a f + wsmF f (ws ++ [1]) (gs ++ [g]) = w * a f + wsmF f ws gs + g f
    rw [wsmF_snoc (Nat.succ.inj e)]; omega
def clF (st : List Stp) (δ : Int) : Vf := fun f => finF 1 u0 st f - (bP st * f (uk 0) + (bN st + δ)) - 1
theorem tot_con (st : List Stp) (δ : Int) (f : Str → Int) : wsmF f (wts st ++ [1]) (gsF 1 u0 st ++ [clF st δ]) = -δ - 1 := by
  rw [wsmF_snoc (by rw [wts_len, gsF_len])]
  have := tel f st 1 u0
  have e : u0 f = f (uk 0) := rfl
  rw [e] at this
  unfold clF
  omega
theorem sg_snoc {M : Nat} {ss : List Sm} {gs : List Vf} {c : Sm} {g : Vf} (h : Paired (SG M) ss gs) (hc : SG M c g) : Paired (SG M) (ss ++ [c]) (gs ++ [g]) := paired_snoc h hc
theorem gm_all {M : Nat} {ss : List Sm} {gs : List Vf} (h : Paired (SG M) ss gs) : ∀ s ∈ ss, Gm (xsN M) s := fun s hs => by
  obtain ⟨j, hj⟩ := List.getElem?_of_mem hs
  obtain ⟨g, _, r⟩ := paired_at h hj
  exact r.1
theorem pap_ok {M : Nat} {ss : List Sm} {cl : Sm} {st : List Stp} {δ : Int} {b : Bool} (h5 : st.length ≤ 5) (ok : ∀ x ∈ st, SOk x) (hs : Paired (SG M) ss (gsF 1 u0 st)) (hc : SG M cl (clF st δ)) (hb : decide (-δ - 1 < 0) = b) : Ok [.add (idxW 0 (wts st ++ [1]))] (ss ++ [cl]) (Neg b) := by
  have P := sg_snoc hs hc
  have ll := paired_len P
  rw [List.length_append, List.length_append, gsF_len] at ll
  have lw : (wts st ++ [1]).length = (ss ++ [cl]).length := by rw [List.length_append, wts_len, List.length_append]; exact ll.symm
  have c5 := cnt_le st
  have wp := wts_pos ok
  have p35 : (3 : Int) ^ st.length ≤ 243 := by
    have : st.length = 0 ∨ st.length = 1 ∨ st.length = 2 ∨ st.length = 3 ∨ st.length = 4 ∨ st.length = 5 := by omega
    rcases this with e | e | e | e | e | e <;> rw [e] <;> decide
  have hR : Rt (ss ++ [cl]) (.add (idxW 0 (wts st ++ [1]))) := by
    refine ⟨fun z => ?_, ?_, fun p hp => ?_⟩
    · have := congrArg List.length z
      rw [idxW_len, List.length_append] at this
      have : (wts st).length + 1 = 0 := this
      omega
    · rw [idxW_len, List.length_append, wts_len]; show cntS st + 1 ≤ 6; omega
    · obtain ⟨m1, m2⟩ := idxW_mem hp
      rw [Nat.zero_add, lw] at m2
      rcases List.mem_append.mp m1 with z | z
      · have := wp _ z
        exact ⟨this.1, by omega, m2⟩
      · rw [List.mem_singleton.mp z]; exact ⟨by decide, by decide, m2⟩
  refine ⟨hR, fun s hi => ?_⟩
  have gs := is_gm (gm_all P) hR hi
  have ev1 : ∀ f, ev s f = -δ - 1 := fun f => by
    obtain ⟨g, e⟩ := hi
    have e1 := evW_idx (f := f) [] (wts st ++ [1]) P lw
    rw [List.nil_append] at e1
    have e1 : evW (ss ++ [cl]) f (idxW 0 (wts st ++ [1])) = _ := e1
    rw [tot_con, ← cat_ev] at e1
    unfold ev
    rw [e, g.2]
    exact e1
  have es := const_neg gs.1 ev1
  exact ⟨-δ - 1, by rw [es, List.getLast?_append]; rfl, hb⟩
def LinB (lo n : Nat) (A : Vf) : Prop := ∃ (a b : Int) (j : Nat), 1 ≤ a ∧ lo ≤ j ∧ j < n ∧ ∀ f, A f = a * f (uk j) + b
theorem finF_lin : ∀ (st : List Stp) (lo n : Nat) (A : Vf), (∀ x ∈ st, SOk x) → lo ≤ n → LinB lo n A → LinB lo (n + cntS st) (finF n A st)
  | [], _, _, _, _, _, h => h
  | (t, c, true) :: st, lo, n, A, ok, hn, ⟨a, b, j, h1, h2, h3, e⟩ => by
    have t1 : 1 ≤ t := (ok _ (List.mem_cons_self ..)).1
    refine finF_lin st lo n (fun f => t * A f + c) (fun x hx => ok x (List.mem_cons_of_mem _ hx)) hn ⟨t * a, t * b + c, j, ?_, h2, h3, fun f => ?_⟩
    · have := Int.mul_le_mul t1 h1 (by omega) (by omega)
      omega
    · show t * A f + c = _
      rw [e, Int.mul_add, ← Int.mul_assoc]; omega
  | (t, c, false) :: st, lo, n, A, ok, hn, _ => by
    have h := finF_lin st lo (n + 1) (fun f => f (uk n)) (fun x hx => ok x (List.mem_cons_of_mem _ hx)) (by omega) ⟨1, 0, n, Int.le_refl _, hn, Nat.lt_succ_self _, fun f => by show f (uk n) = 1 * f (uk n) + 0; omega⟩
    have e : n + cntS ((t, c, false) :: st) = n + 1 + cntS st := by show n + (cntS st + 1) = _; omega
    rw [e]
    exact h
theorem finF_lin1 : ∀ (st : List Stp) (n : Nat) (A : Vf), (∀ x ∈ st, SOk x) → 0 < cntS st → LinB n (n + cntS st) (finF n A st)
  | [], _, _, _, h => absurd h (by show ¬ 0 < 0; decide)
  | (t, c, true) :: st, n, A, ok, h => finF_lin1 st n (fun f => t * A f + c) (fun x hx => ok x (List.mem_cons_of_mem _ hx)) h
  | (t, c, false) :: st, n, A, ok, _ => by
    have h := finF_lin st n (n + 1) (fun f => f (uk n)) (fun x hx => ok x (List.mem_cons_of_mem _ hx)) (by omega) ⟨1, 0, n, Int.le_refl _, Nat.le_refl _, Nat.lt_succ_self _, fun f => by show f (uk n) = 1 * f (uk n) + 0; omega⟩
    have e : n + cntS ((t, c, false) :: st) = n + 1 + cntS st := by show n + (cntS st + 1) = _; omega
    rw [e]
    exact h
theorem clF_nc {st : List Stp} (ok : ∀ x ∈ st, SOk x) (h : 0 < cntS st) (h6 : 1 + cntS st ≤ 6) (δ : Int) : NC (clF st δ) := by
  obtain ⟨a, b, j, h1, h2, h3, e⟩ := finF_lin1 st 1 u0 ok h
  refine ⟨fun _ => 0, fun z => if z = uk j then 1 else 0, ?_⟩
  have e1 : (if uk 0 = uk j then (1 : Int) else 0) = 0 := if_neg (uk_ne (by omega) (by omega))
  have e2 : (if uk j = uk j then (1 : Int) else 0) = 1 := if_pos rfl
  show finF 1 u0 st (fun _ => 0) - (bP st * 0 + (bN st + δ)) - 1 ≠ finF 1 u0 st (fun z => if z = uk j then 1 else 0) - (bP st * (if uk 0 = uk j then (1 : Int) else 0) + (bN st + δ)) - 1
  rw [e, e, e1, e2]
  show a * 0 + b - (bP st * 0 + (bN st + δ)) - 1 ≠ a * 1 + b - (bP st * 0 + (bN st + δ)) - 1
  omega
theorem clF_con {st : List Stp} (h : cntS st = 0) (δ : Int) (f : Str → Int) : clF st δ f = -δ - 1 := by
  have := tot_con st δ f
  rw [List.length_eq_zero_iff.mp ((wts_len st).trans h), List.length_eq_zero_iff.mp ((gsF_len st 1 u0).trans h)] at this
  have : 1 * clF st δ f + 0 = -δ - 1 := this
  omega
theorem grt_small : ∀ (st : List Stp) (a B : Int), (∀ x ∈ st, SOk x) → -B ≤ a → a ≤ B → ∀ n ∈ grt a st, -((B + 20) * 3 ^ st.length) ≤ n ∧ n ≤ (B + 20) * 3 ^ st.length
  | [], _, _, _, _, _ => fun _ h => nomatch h
  | (t, c, m) :: st, a, B, ok, h1, h2 => by
    obtain ⟨t1, t3, c1, c2⟩ : SOk (t, c, m) := ok _ (List.mem_cons_self ..)
    have t1 : 1 ≤ t := t1
    have t3 : t ≤ 3 := t3
    have c1 : -20 ≤ c := c1
    have c2 : c ≤ 20 := c2
    have at3 : t = 1 ∨ t = 2 ∨ t = 3 := by omega
    have b1 : -(3 * B + 20) ≤ a * t + c ∧ a * t + c ≤ 3 * B + 20 := by rcases at3 with e | e | e <;> subst e <;> omega
    have ih := grt_small st (a * t + c) (3 * B + 20) (fun x hx => ok x (List.mem_cons_of_mem _ hx)) b1.1 b1.2
    have B0 : 0 ≤ B := by omega
    have p1 : (1 : Int) ≤ 3 ^ st.length := Int.pow_pos (by decide)
    have up : (3 * B + 20 + 20) * 3 ^ st.length ≤ (B + 20) * 3 ^ (st.length + 1) := by
      rw [Int.pow_succ, ← Int.mul_assoc, Int.mul_comm ((B + 20) * 3 ^ st.length) 3, ← Int.mul_assoc]
      exact Int.mul_le_mul_of_nonneg_right (by omega) (by omega)
    have up0 : 3 * B + 20 ≤ (3 * B + 20 + 20) * 3 ^ st.length := by
      have := Int.mul_le_mul_of_nonneg_left p1 (show 0 ≤ 3 * B + 20 + 20 by omega)
      omega
    have tl : ∀ n ∈ grt (a * t + c) st, -((B + 20) * 3 ^ (st.length + 1)) ≤ n ∧ n ≤ (B + 20) * 3 ^ (st.length + 1) := fun n hn => by
      have := ih n hn
      omega
    cases m with
    | true => exact tl
    | false =>
      intro n hn
      rcases List.mem_cons.mp hn with e | hn
      · have e : n = a * t + c := e
        rw [e]
        show -((B + 20) * 3 ^ (st.length + 1)) ≤ _ ∧ _ ≤ (B + 20) * 3 ^ (st.length + 1)
        omega
      · exact tl n hn
theorem grt_sm {st : List Stp} {a : Int} (ok : ∀ x ∈ st, SOk x) (h5 : st.length ≤ 5) (h1 : -1000 ≤ a) (h2 : a ≤ 1000) : ∀ n ∈ a :: grt a st, Small n := fun n hn => by
  have p35 : (3 : Int) ^ st.length ≤ 243 := by
    have : st.length = 0 ∨ st.length = 1 ∨ st.length = 2 ∨ st.length = 3 ∨ st.length = 4 ∨ st.length = 5 := by omega
    rcases this with e | e | e | e | e | e <;> rw [e] <;> decide
  have h := grt_small st a 1000 ok h1 h2
  have h3 : (1000 + 20) * (3 : Int) ^ st.length ≤ 247860 := by omega
  rcases List.mem_cons.mp hn with e | hn
  · rw [e]; exact ⟨by omega, by omega⟩
  · have := h n hn
    exact ⟨by omega, by omega⟩
theorem best_fin {st : List Stp} {a : Int} (h6 : 1 + cntS st ≤ 6) : (∀ g ∈ gsF 1 u0 st, g (nf (a :: grt a st)) = 0) ∧ finF 1 u0 st (nf (a :: grt a st)) = bP st * nf (a :: grt a st) (uk 0) + bN st := by
  have h := gs_zero (ns := a :: grt a st) st 1 u0 a [a] rfl rfl (by show nf (a :: grt a st) (uk 0) = a; rw [nf_uk (by decide)]; rfl) h6
  refine ⟨h, ?_⟩
  have t := tel (nf (a :: grt a st)) st 1 u0
  rw [wsmF_z h] at t
  have e : u0 (nf (a :: grt a st)) = nf (a :: grt a st) (uk 0) := rfl
  rw [e] at t
  omega
theorem less_fin {st : List Stp} (ok : ∀ x ∈ st, SOk x) {f : Str → Int} (h : ∀ g ∈ gsF 1 u0 st, 0 ≤ g f) : finF 1 u0 st f ≤ bP st * f (uk 0) + bN st := by
  have t := tel f st 1 u0
  have w := wsmF_nn (f := f) (ws := wts st) (gs := gsF 1 u0 st) (fun w hw => by have := (wts_pos ok w hw).1; omega) h
  have e : u0 f = f (uk 0) := rfl
  rw [e] at t
  omega
end Hw
namespace Hw
open PySem L2
theorem sql_keep {K : PySem.W.Frag} {H H' : Hp} {a : Addr} {xs : List V} (s : Same H H') : SqL K H a xs → SqL K H' a xs
  | .inl (.inl h) => .inl (.inl (s _ _ h))
  | .inl (.inr ⟨o, h⟩) => .inl (.inr ⟨o, s _ _ h⟩)
  | .inr h => .inr h
end Hw
namespace Hw
open PySem L2
theorem due_b {x y : Str} {T N : Int} {g : Str → Int} {b : Bool} (h : decide (g x ≤ N + T * g y) = b) : cmpB "<=" (ev ([(x, 1)], 0) g) (ev ([(y, T)], N) g) = b := by
  have e1 : ev ([(x, 1)], 0) g = g x := by show 0 + (1 * g x + 0) = g x; omega
  have e2 : ev ([(y, T)], N) g = N + T * g y := by show N + (T * g y + 0) = _; omega
  rw [e1, e2, ← h]
  rfl
end Hw
set_option maxHeartbeats 8000000
namespace Hw
open PySem L2 PyProof.Rows
def top (i : Nat) : Stmt := PySem.Challenge.pw_holdwright_k41_whole_shown.main.body.getD i (.Pass ⟨0, 0, 0, 0⟩)
end Hw
namespace Hw
open PySem L2 PyProof.Rows
section
variable {P : Program} {w : World} {K : PySem.W.Frag} {mg : Str → Option Value} {base : Heap}
abbrev sInit : Stmt := inClass (top 5) 0
theorem sc_Sum___init : FnScope ["self", "terms", "number"] ["self", "terms", "number"] (defScope sInit) := ⟨rfl, rfl, rfl, by decide +kernel, rfl, by decide +kernel, by decide +kernel⟩
theorem ok_init {f C : Addr} {fd : FuncData} (F : Fun K "__init__" "Sum.__init__" sInit f fd) (T : Txt K mg C)  : FnOk P w K mg base CX0 1 f fd ["self", "terms", "number"] (spInit C) := by
  refine F.ok sc_Sum___init (fun vs H Q E h => ?_) (fun cdv A outer s H vs Q E hr h => ?_)
  · obtain ⟨p, dx, l, n, ps, rfl, hp, hs, hz, k⟩ := h
    rfl
  · obtain ⟨p, dx, l, n, ps, rfl, hp, hs, hz, k⟩ := h
    have hu := hu_of hr
    rw [show defBody sInit = [_, _] from rfl]
    refine ⟨_, (pss_cons (ps_fld (pv 0) (pe_callTy call_tuple_of (by rfl) T.tuple boot_tuple (pa_cons (pe_comp (compSc_mk ["pair"] [] [] rfl (by decide +kernel) (by decide +kernel) (by with_unfolding_all rfl) (by exact trivial) (by rfl) rfl (by rfl)) rfl (pi_seq (pv 1)) (fun _ _ _ _ => (pg_name (i := 0) (show List.Nodup (["pair"] : List Str) by decide +kernel) rfl (Or.inl rfl) (Or.inr rfl))) (fun _ _ _ _ => pts_nil) (fun _ _ _ _ => (pe_callTy (call_tuple_ofK (K := K) rfl) (by rfl) T.tuple boot_tuple (pa_cons (pv 0) pa_nil)))) pa_nil)) rfl)
      (pss_one (ps_fld (pv 0) (pv 2) rfl))), ?_⟩
    refine ⟨_, rfl, l, rfl, comp_sq hs (fun i ys H' => H' = H ∧ Prs H ys (ps.take i)) ⟨rfl, .nil⟩ (fun i ys H' q => q.1 ▸ Kp.refl) ?_ ?_⟩
    · rintro i v pr ys H' hi ⟨a, rfl, ha⟩ ⟨rfl, hy⟩
      refine ⟨Ext.one, alwT ⟨_, rfl, a, _, rfl, .inr ⟨SqT.of ha, ?_, rfl, ?_⟩⟩⟩
      · rw [prs_len hy, List.length_take]
        exact line _ (by omega)
      · rw [take_snoc hi]
        exact prs_app hy (prs_one ⟨a, rfl, ha⟩)
    · rintro ys H' ⟨rfl, hy⟩ q hq
      rw [List.take_length] at hy
      refine ⟨q, _, rfl, .inl ⟨SqL.of upd_same, fun t ht => ?_⟩⟩
      have npq : p ≠ q := ne_of_none hp hq
      have h1 : upd H' q (.lst ys) p = some (.ins C dx []) := by rw [upd_ne npq]; exact hp
      have npt : p ≠ t := ne_of_none h1 ht
      refine ⟨_, rfl, p, C, dx, [], rfl, (by rw [upd_ne npt]; exact h1), T.cl, T.nT, (by show 0 < 1000; decide), ?_⟩
      refine ⟨_, rfl, _, rfl, p, C, dx, _, rfl, upd_same, T.cl, T.nN, (by show 1 < 1000; decide), ?_⟩
      have b : But p H' (upd (upd (upd (upd H' q (.lst ys)) t (.tup ys)) p (.ins C dx (putF "terms" (.ref t) []))) p (.ins C dx (sflds t n))) :=
        (((But.of (new hq)).new ht).trans But.upd).trans But.upd
      refine k _ b ⟨dx, t, upd_same, ⟨ys, ?_, hy.keep ?_⟩, hz⟩
      · rw [upd_ne npt.symm, upd_ne npt.symm, upd_same]
      · exact (Kp.but b (by intro xs; rw [hp]; intro z; cases z) (by intro xs; rw [hp]; intro z; cases z)).t
end
end Hw
namespace Hw
open PySem L2 PyProof.Rows
section
variable {P : Program} {w : World} {K : PySem.W.Frag} {mg : Str → Option Value} {base : Heap}
abbrev sPlus : Stmt := inClass (top 5) 2
theorem sc_Sum_plus : FnScope ["self", "other"] ["self", "other"] (defScope sPlus) := ⟨rfl, rfl, rfl, by decide +kernel, rfl, by decide +kernel, by decide +kernel⟩
theorem ok_plus {f C : Addr} {fd : FuncData} (F : Fun K "plus" "Sum.plus" sPlus f fd) (T : Txt K mg C) (d_sum : Dn P w K mg base 3 "sum_of" ["pairs", "number"] (spSumOf C)) : FnOk P w K mg base CX0 4 f fd ["self", "other"] (spPlus C) := by
  obtain ⟨f_sum, fd_sum, G_sum_of, mg_sum_of, kp_sum_of, b_sum_of⟩ := d_sum
  refine F.ok sc_Sum_plus (fun vs H Q E h => ?_) (fun cdv A outer s H vs Q E hr h => ?_)
  · obtain ⟨p, q, a, b, n, m, rfl, S1, S2, hz, k⟩ := h
    rfl
  · obtain ⟨p, q, a, b, n, m, rfl, S1, S2, hz, k⟩ := h
    have hu := hu_of hr
    rw [show defBody sPlus = [_] from rfl]
    refine ⟨_, (pss_one (ps_ret (pe_call G_sum_of (hr.mono (by decide)) rfl mg_sum_of kp_sum_of b_sum_of .nil pass0 (pa_cons (pe_op op_catU (pe_fld (pv 0) rfl) (pe_fld (pv 1) rfl)) (pa_cons (pe_op op_add (pe_fld (pv 0) rfl) (pe_fld (pv 1) rfl)) pa_nil))))), ?_⟩
    obtain ⟨dx, t1, hp, ⟨vs1, e1, r1⟩, z1⟩ := id S1
    obtain ⟨dx2, t2, hq, ⟨vs2, e2, r2⟩, z2⟩ := id S2
    have lz : vs1.length + vs2.length ≤ sizeLine := by
      rw [prs_len r1, prs_len r2]
      exact Nat.le_of_lt (line _ (by omega))
    have go : ∀ (r : Addr) (H' : Hp), Same H H' → Tp H' r (a ++ b) → ∃ (x : Addr) (nn : Int) (ps : Ps), [V.ref r, V.int (n + m)] = [.ref x, .int nn] ∧ Sq H' x ps ∧ ps.length < 64 ∧
        ∀ (r : Addr) (ts : Ps) (H2 : Hp), Same H' H2 → Gat ps ts → ts.length ≤ ps.length → SumAt C H2 r ts nn → Q (.ref r) H2 := fun r H' sm tp =>
      ⟨r, n + m, a ++ b, rfl, .inr tp, by rw [List.length_append]; exact hz, fun r2 ts H2 sm2 g l S => k r2 ts H2 (sm.trans sm2) g (by rw [List.length_append] at l; exact l) S⟩
    refine ⟨_, rfl, p, C, dx, _, _, rfl, hp, T.cl, T.nT, sflds_terms _ _, _, rfl, q, C, dx2, _, _, rfl, hq, T.cl, T.nT, sflds_terms _ _, t1, t2, vs1, vs2, rfl, rfl, SqT.of e1, SqT.of e2, lz, fun h0 => ?_, fun _ h0 => ?_, fun _ _ r hr' => ?_⟩
    · subst h0
      cases r1
      refine ⟨_, rfl, p, C, dx, _, _, rfl, hp, T.cl, T.nN, sflds_number _ _, _, rfl, q, C, dx2, _, _, rfl, hq, T.cl, T.nN, sflds_number _ _, _, _, rfl, rfl, ?_⟩
      exact go t2 H (Same.refl _) ⟨vs2, e2, r2⟩
    · subst h0
      cases r2
      refine ⟨_, rfl, p, C, dx, _, _, rfl, hp, T.cl, T.nN, sflds_number _ _, _, rfl, q, C, dx2, _, _, rfl, hq, T.cl, T.nN, sflds_number _ _, _, _, rfl, rfl, ?_⟩
      exact go t1 H (Same.refl _) ⟨vs1, e1, by rw [List.append_nil]; exact r1⟩
    · have sm : Same H (upd H r (.tup (vs1 ++ vs2))) := new hr'
      refine ⟨_, rfl, p, C, dx, _, _, rfl, sm _ _ hp, T.cl, T.nN, sflds_number _ _, _, rfl, q, C, dx2, _, _, rfl, sm _ _ hq, T.cl, T.nN, sflds_number _ _, _, _, rfl, rfl, ?_⟩
      exact go r _ sm ⟨_, upd_same, prs_app (r1.keep fun _ _ z => sm _ _ z) (r2.keep fun _ _ z => sm _ _ z)⟩
end
end Hw
namespace Hw
open PySem L2 PyProof.Rows
section
variable {P : Program} {w : World} {K : PySem.W.Frag} {mg : Str → Option Value} {base : Heap}
abbrev sTimes : Stmt := inClass (top 5) 4
theorem sc_Sum_times : FnScope ["self", "number"] ["self", "number"] (defScope sTimes) := ⟨rfl, rfl, rfl, by decide +kernel, rfl, by decide +kernel, by decide +kernel⟩
theorem ok_times {f C : Addr} {fd : FuncData} (F : Fun K "times" "Sum.times" sTimes f fd) (T : Txt K mg C) (d_sum : Dn P w K mg base 3 "sum_of" ["pairs", "number"] (spSumOf C)) : FnOk P w K mg base CX0 4 f fd ["self", "number"] (spTimes C) := by
  obtain ⟨f_sum, fd_sum, G_sum_of, mg_sum_of, kp_sum_of, b_sum_of⟩ := d_sum
  refine F.ok sc_Sum_times (fun vs H Q E h => ?_) (fun cdv A outer s H vs Q E hr h => ?_)
  · obtain ⟨p, a, n, kk, rfl, S, hz, hk, k⟩ := h
    rfl
  · obtain ⟨p, a, n, kk, rfl, S, hz, hk, k⟩ := h
    have hu := hu_of hr
    rw [show defBody sTimes = [_] from rfl]
    refine ⟨_, (pss_one (ps_ret (pe_call G_sum_of (hr.mono (by decide)) rfl mg_sum_of kp_sum_of b_sum_of .nil pass0 (pa_cons (pe_comp (compSc_mk ["thing", "weight"] ["number"] [1] rfl (by decide +kernel) (by decide +kernel) (by with_unfolding_all rfl) (by exact ⟨rfl, trivial⟩) (by rfl) rfl (by rfl)) rfl (pi_tup (pe_fld (pv 0) rfl)) (fun _ _ _ _ => (pg_tupK (K := K) (n := 2) rfl rfl (pgs_cons (pg_name (i := 0) (show List.Nodup (["thing", "weight", "number"] : List Str) by decide +kernel) rfl (Or.inl rfl) (Or.inr rfl)) (pgs_cons (pg_name (i := 1) (show List.Nodup (["thing", "weight", "number"] : List Str) by decide +kernel) rfl (Or.inl rfl) (Or.inr rfl)) pgs_nil)))) (fun _ _ _ _ => pts_nil) (fun _ _ _ _ => (pe_tup (pa_cons (pv 0) (pa_cons (pe_op op_mul (pv 1) (pv 2)) pa_nil))))) (pa_cons (pe_op op_mul (pe_fld (pv 0) rfl) (pv 1)) pa_nil))))), ?_⟩
    obtain ⟨dx, t, hp, ht, hz'⟩ := id S
    have tz := line _ (show a.length ≤ 100000 by omega)
    refine ⟨_, rfl, p, C, dx, _, _, rfl, hp, T.cl, T.nT, sflds_terms _ _, t, rfl, comp_tp ht (fun i ys H' => Same H H' ∧ Prs H' ys ((a.take i).map fun q => (q.1, q.2 * kk))) ⟨Same.refl _, .nil⟩ (fun i ys H' q => Kp.of q.1) ?_ ?_⟩
    · rintro i v pr ys H' hi ⟨b, rfl, hb⟩ ⟨sm, py⟩
      have hil : i < a.length := (List.getElem?_eq_some_iff.mp hi).1
      refine ⟨b, _, rfl, SqT.of hb, rfl, _, _, rfl, _, _, rfl, rfl, Ext.two, alwT ⟨_, rfl, _, rfl, _, rfl, _, _, rfl, rfl, .inr hk, (by show 2 ≤ sizeLine; exact Nat.le_of_lt (line 2 (by decide))), fun q hq => ⟨?_, Same.new sm hq, ?_⟩⟩⟩
      · rw [prs_len py, List.length_map, List.length_take]
        omega
      · rw [take_snoc hi, List.map_append]
        exact prs_app (py.keep fun _ _ z => new hq _ _ z) (prs_one ⟨q, rfl, upd_same⟩)
    · rintro ys H' ⟨sm, py⟩ q hq
      rw [List.take_length] at py
      have s1 : Same H (upd H' q (.lst ys)) := Same.new sm hq
      refine ⟨_, rfl, p, C, dx, _, _, rfl, s1 _ _ hp, T.cl, T.nN, sflds_number _ _, _, rfl, _, _, rfl, rfl, .inr hk, ?_⟩
      refine ⟨q, n * kk, _, rfl, .inl ⟨ys, upd_same, py.keep fun _ _ z => new hq _ _ z⟩, by rw [List.length_map]; exact hz, fun r ts H2 sm2 g l S2 => k r ts H2 (s1.trans sm2) g (by rw [List.length_map] at l; exact l) S2⟩
end
end Hw
namespace Hw
open PySem L2 PyProof.Rows
section
variable {P : Program} {w : World} {K : PySem.W.Frag} {mg : Str → Option Value} {base : Heap}
abbrev sLess : Stmt := inClass (top 5) 3
theorem sc_Sum_less : FnScope ["self", "other"] ["self", "other"] (defScope sLess) := ⟨rfl, rfl, rfl, by decide +kernel, rfl, by decide +kernel, by decide +kernel⟩
theorem ok_less {f C : Addr} {fd : FuncData} (F : Fun K "less" "Sum.less" sLess f fd) (T : Txt K mg C) (d_plus : Mt P w K mg base 4 C "plus" ["self", "other"] (spPlus C)) (d_times : Mt P w K mg base 4 C "times" ["self", "number"] (spTimes C)) : FnOk P w K mg base CX0 5 f fd ["self", "other"] (spLess C) := by
  obtain ⟨f_plus, fd_plus, G_Sum_plus, m_plus, b_Sum_plus⟩ := d_plus
  obtain ⟨f_times, fd_times, G_Sum_times, m_times, b_Sum_times⟩ := d_times
  refine F.ok sc_Sum_less (fun vs H Q E h => ?_) (fun cdv A outer s H vs Q E hr h => ?_)
  · obtain ⟨p, q, a, b, n, m, rfl, S1, S2, hz, k⟩ := h
    rfl
  · obtain ⟨p, q, a, b, n, m, rfl, S1, S2, hz, k⟩ := h
    have hu := hu_of hr
    rw [show defBody sLess = [_] from rfl]
    refine ⟨_, (pss_one (ps_ret (pe_meth (pv 0) T.cl m_plus G_Sum_plus (hr.mono (by decide)) b_Sum_plus .nil pass0 (pa_cons (pe_meth (pv 1) T.cl m_times G_Sum_times (hr.mono (by decide)) b_Sum_times .nil pass0 (pa_cons (pe_un un_neg pe_int) pa_nil)) pa_nil)))), ?_⟩
    obtain ⟨dx, t1, hp, ht1, z1⟩ := id S1
    obtain ⟨dx2, t2, hq, ht2, z2⟩ := id S2
    refine ⟨_, rfl, p, dx, _, rfl, hp, sflds_no _ _ (by decide +kernel) (by decide +kernel), _, rfl, q, dx2, _, rfl, hq, sflds_no _ _ (by decide +kernel) (by decide +kernel), _, rfl, ?_⟩
    refine ⟨q, b, m, -1, rfl, S2, by omega, ⟨by decide, by decide⟩, fun r ts H1 sm1 g1 l1 S1' => ?_⟩
    refine ⟨p, r, a, ts, n, m * -1, rfl, S1.same sm1, S1', by omega, fun r2 ts2 H2 sm2 g2 l2 S2' => ?_⟩
    refine k r2 ts2 H2 (sm1.trans sm2) ⟨g2.1, fun f => ?_⟩ (by omega) ?_
    · rw [g2.2, lin_append, lin_append, g1.2, lin_smul, lin_neg]
      omega
    · have e : n + m * -1 = n - m := by omega
      rw [← e]
      exact S2'
end
end Hw
namespace Hw
open PySem L2 PyProof.Rows
section
variable {P : Program} {w : World} {K : PySem.W.Frag} {mg : Str → Option Value} {base : Heap}
abbrev sSumOf : Stmt := top 8
theorem sc_sum_of : FnScope ["pairs", "number", "weights", "thing", "weight"] ["pairs", "number"] (defScope sSumOf) := ⟨rfl, rfl, rfl, by decide +kernel, rfl, by decide +kernel, by decide +kernel⟩
theorem ok_sum_of {f C : Addr} {fd : FuncData} (F : Fun K "sum_of" "sum_of" sSumOf f fd) (T : Txt K mg C) (d_init : Mr P w K mg base 1 C ["self", "terms", "number"] (spInit C)) : FnOk P w K mg base CX0 3 f fd ["pairs", "number"] (spSumOf C) := by
  obtain ⟨f_init, fd_init, G_Sum_init, M, b_Sum_init⟩ := d_init
  refine F.ok sc_sum_of (fun vs H Q E h => ?_) (fun cdv A outer s H vs Q E hr h => ?_)
  · obtain ⟨a, n, ps, rfl, hs, hz, k⟩ := h
    rfl
  · obtain ⟨a, n, ps, rfl, hs, hz, k⟩ := h
    have hu := hu_of hr
    rw [show defBody sSumOf = [_, _, _] from rfl]
    refine ⟨_, (pss_cons (ps_set (i := 2) sc_sum_of.nd rfl (Or.inr rfl) pe_dnewK)
      (pss_cons (ps_for PassesOwn.never rfl (pi_seq (pv 0)) (pg_tup rfl (pgs_cons (pg_name (i := 3) sc_sum_of.nd rfl (Or.inl rfl)) (pgs_cons (pg_name (i := 4) sc_sum_of.nd rfl (Or.inl rfl)) pgs_nil))) (pss_one (ps_dput hu (pv 2) (pv 3) (pe_op op_add (pe_dget2 hu (pv 2) (pv 3) pe_int ⟨rfl, rfl, rfl, rfl⟩) (pv 4)) rfl)))
      (pss_one (ps_ret (pe_make M G_Sum_init (hr.mono (by decide)) rfl T.mg_Sum b_Sum_init .nil pass0 (pa_cons (pe_comp (compSc_mk ["thing"] ["weights"] [2] rfl (by decide +kernel) (by decide +kernel) (by with_unfolding_all rfl) (by exact ⟨rfl, trivial⟩) (by rfl) rfl (by rfl)) rfl (pi_list (pe_callB (call_sortedD rfl) (by rfl) T.sorted boot_sorted (pa_cons (pv 2) pa_nil))) (fun _ _ _ _ => (pg_name (i := 0) (show List.Nodup (["thing", "weights"] : List Str) by decide +kernel) rfl (Or.inl rfl) (Or.inr rfl))) (fun _ _ _ _ => (pts_one (pt_cmpR op_ne (pe_dget hu (pv 1) (pv 0) (fun _ _ => rfl)) pe_int (nomark _)))) (fun _ _ _ _ => (pe_tup (pa_cons (pv 0) (pa_cons (pe_dget hu (pv 1) (pv 0) (fun _ _ => rfl)) pa_nil))))) (pa_cons (pv 1) pa_nil))))))), ?_⟩
    intro d hd
    have lz := line ps.length (by omega)
    refine ⟨_, rfl, a, rfl, for_sq (hs.same (new hd)) (fun i σ H' => ∃ e t w, σ = [some (.ref a), some (.int n), some (.ref d), t, w] ∧ H' = upd H d (.dK (enc e)) ∧ Tab (ps.take i) e) ⟨[], none, none, rfl, rfl, Tab.nil⟩ ?_ ?_ ?_⟩
    · rintro i σ H' ⟨e, t, w, rfl, rfl, tab⟩
      exact Kp.dict
    · rintro i v pr σ H' hi ⟨a', rfl, ha'⟩ ⟨e, t, w, rfl, rfl, tab⟩
      have he : (enc e).length < sizeLine := by
        have h1 := tab.len
        rw [List.length_take] at h1
        rw [enc_len]
        omega
      refine ⟨a', _, rfl, SqT.of ha', rfl, _, _, rfl, _, _, rfl, rfl, ?_⟩
      refine ⟨_, rfl, d, rfl, .inl ⟨_, .inl upd_same⟩, _, rfl, _, DGet.k (k := Sum.inr pr.1) upd_same, _, rfl, _, _, enc_getD e pr.1, rfl, _, rfl, _, rfl, d, _, rfl, DPut.k (k := Sum.inr pr.1) upd_same he, ?_⟩
      refine ⟨step e pr, _, _, rfl, ?_, ?_⟩
      · rw [upd_upd, enc_put]
        rfl
      · rw [take_snoc hi]
        exact tab.step pr
    · rintro σ H' ⟨e, t, w, rfl, rfl, tab⟩
      rw [List.take_length] at tab
      have el : (enc e).length < 64 := by have := tab.len; rw [enc_len]; omega
      refine ⟨_, rfl, d, _, keys e, rfl, upd_same, enc_keys e, el, fun l ys hl hp hso => ⟨l, rfl, ⟨_, SqL.of upd_same⟩, ?_⟩⟩
      have yl : ys.length ≤ ps.length := by
        rw [hp.length_eq]
        unfold keys
        rw [List.length_map]
        exact tab.len
      refine comp_list (xs := ys.map V.str) (fun i out H' => Same (upd (upd H d (.dK (enc e))) l (.lst (ys.map V.str))) H' ∧ Prs H' out (outs e (ys.take i))) ⟨Same.refl _, .nil⟩ (fun i out H' _ q => SqL.of (q.1 _ _ upd_same)) ?_ ?_
      · rintro i v out H' hi ⟨sm, pr⟩
        obtain ⟨y, hy, rfl⟩ : ∃ y, ys[i]? = some y ∧ v = V.str y := by
          rw [List.getElem?_map] at hi
          cases q : ys[i]? with
          | none => rw [q] at hi; cases hi
          | some y => rw [q] at hi; cases hi; exact ⟨y, rfl, rfl⟩
        have hm : y ∈ keys e := hp.mem_iff.mp (List.mem_of_getElem? hy)
        have hdd : H' d = some (.dK (enc e)) := sm _ _ (by rw [upd_ne (ne_of_none upd_same hl)]; exact upd_same)
        have ol : out.length < sizeLine := by
          rw [prs_len pr]
          have := outs_len e (ys.take i)
          rw [List.length_take] at this
          omega
        refine ⟨Ext.one, _, rfl, _, rfl, d, _, rfl, nums_get hdd hm, rfl, _, rfl, ?_⟩
        dsimp only
        by_cases g0 : get e y = 0
        · rw [if_neg (by simp [g0])]
          refine ⟨sm, ?_⟩
          rw [take_snoc hy, outs_snoc, if_pos g0, List.append_nil]
          exact pr
        · rw [if_pos (by simp [g0])]
          refine ⟨_, rfl, _, rfl, _, rfl, d, _, rfl, nums_get hdd hm, (by show 2 ≤ sizeLine; exact Nat.le_of_lt (line 2 (by decide))), fun q hq => ⟨ol, Same.new sm hq, ?_⟩⟩
          rw [take_snoc hy, outs_snoc, if_neg g0]
          exact prs_app (pr.keep fun _ _ z => new hq _ _ z) (prs_one ⟨q, rfl, upd_same⟩)
      · rintro out H' ⟨sm, pr⟩ q hq
        rw [List.length_map, List.take_length] at pr
        have s0 : Same H H' := fun b o z => sm b o (Same.new (new hd) hl b o z)
        refine ⟨_, rfl, fun x dx hx hdx ne => ?_⟩
        have h1 : Same (upd H' q (.lst out)) (upd (upd (upd H' q (.lst out)) dx (.own x)) x (.ins C dx [])) := fun b o z => by
          rw [upd_ne (ne_of_none z hx), upd_ne (ne_of_none z hdx)]
          exact z
        refine ⟨x, dx, q, n, outs e ys, rfl, upd_same, .inl ⟨out, h1 _ _ upd_same, pr.keep fun _ _ z => h1 _ _ (new hq _ _ z)⟩, ?_, fun H2 but S => ⟨rfl, ?_⟩⟩
        · have := outs_len e ys
          omega
        · refine k x (outs e ys) H2 (fun b o z => but b o (h1 _ _ (Same.new s0 hq b o z)) (ne_of_none (Same.new s0 hq b o z) hx)) (tab.gat hp hso) ?_ S
          have := outs_len e ys
          omega
end
end Hw
namespace Hw
open PySem L2 PyProof.Rows
section
variable {P : Program} {w : World} {K : PySem.W.Frag} {mg : Str → Option Value} {base : Heap}
abbrev sMixed : Stmt := top 49
theorem sc_law_mixed : FnScope ["_law_cell", "_law_k", "_law_mix"] ["_law_cell", "_law_k"] (defScope sMixed) := ⟨rfl, rfl, rfl, by decide +kernel, rfl, by decide +kernel, by decide +kernel⟩
theorem ok_mixed {f C : Addr} {fd : FuncData} (F : Fun K "_law_mixed" "_law_mixed" sMixed f fd) (T : Txt K mg C)  : FnOk P w K mg base CX0 1 f fd ["_law_cell", "_law_k"] spMixed := by
  refine F.ok sc_law_mixed (fun vs H Q E h => ?_) (fun cdv A outer s H vs Q E hr h => ?_)
  · obtain ⟨c, kk, rfl, k⟩ := h
    rfl
  · obtain ⟨c, kk, rfl, k⟩ := h
    have hu := hu_of hr
    rw [show defBody sMixed = [_, _] from rfl]
    refine ⟨_, (pss_cons (ps_set (i := 2) sc_law_mixed.nd rfl (Or.inl rfl) (pe_op op_mod (pe_op op_mul (pe_op op_add (pe_op op_add (pv 0) (pe_op op_mul pe_int (pv 1))) pe_int) pe_int) pe_int))
      (pss_one (ps_ret (pe_op op_mod (pe_op op_add (pe_op op_mul (pv 2) (pv 2)) (pe_op op_mul pe_int (pv 2))) pe_int)))), ?_⟩
    refine ⟨_, rfl, _, rfl, _, _, rfl, rfl, .inl ⟨by decide, by decide⟩, _, _, rfl, rfl, _, _, rfl, rfl, _, _, rfl, rfl, .inr ⟨by decide, by decide⟩, _, _, rfl, rfl, (by show (0 : Int) < 2147483647; decide), ?_⟩
    have h0 := Int.emod_nonneg ((c + 7919 * kk + 11) * 48271) (show (2147483647 : Int) ≠ 0 by decide)
    have h1 := Int.emod_lt_of_pos ((c + 7919 * kk + 11) * 48271) (show (0 : Int) < 2147483647 by decide)
    generalize (c + 7919 * kk + 11) * 48271 % 2147483647 = mx at h0 h1
    refine ⟨_, rfl, _, rfl, _, _, rfl, rfl, .inl ⟨by omega, by omega⟩, _, rfl, _, _, rfl, rfl, .inl ⟨by decide, by decide⟩, _, _, rfl, rfl, _, _, rfl, rfl, (by show (0 : Int) < 2147483399; decide), ?_⟩
    exact k _ (Int.emod_nonneg _ (by decide)) (Int.emod_lt_of_pos _ (by decide))
end
end Hw
namespace Hw
open PySem L2 PyProof.Rows
section
variable {P : Program} {w : World} {K : PySem.W.Frag} {mg : Str → Option Value} {base : Heap}
abbrev sCellAt : Stmt := top 48
theorem sc_law_cell_at : FnScope ["_law_script", "_law_k", "_law_cell"] ["_law_script", "_law_k"] (defScope sCellAt) := ⟨rfl, rfl, rfl, by decide +kernel, rfl, by decide +kernel, by decide +kernel⟩
theorem ok_cell_at {f C : Addr} {fd : FuncData} (F : Fun K "_law_cell_at" "_law_cell_at" sCellAt f fd) (T : Txt K mg C) (d_mixed : Dn P w K mg base 1 "_law_mixed" ["_law_cell", "_law_k"] spMixed) : FnOk P w K mg base CX0 2 f fd ["_law_script", "_law_k"] (spCell K) := by
  obtain ⟨f_mixed, fd_mixed, G_mixed, mg_mixed, kp_mixed, b_mixed⟩ := d_mixed
  refine F.ok sc_law_cell_at (fun vs H Q E h => ?_) (fun cdv A outer s H vs Q E hr h => ?_)
  · obtain ⟨a, ns, kk, rfl, hS, k⟩ := h
    rfl
  · obtain ⟨a, ns, kk, rfl, hS, k⟩ := h
    have hu := hu_of hr
    rw [show defBody sCellAt = [_, _, _] from rfl]
    refine ⟨_, (pss_cons (ps_set (i := 2) sc_law_cell_at.nd rfl (Or.inl rfl) pe_int)
      (pss_cons (ps_if (pt_cmpR op_lt (pv 1) (pe_callB call_len_seq (by rfl) T.len PySem.boot_len (pa_cons (pv 0) pa_nil)) (nomark _)) (pss_one (ps_set (i := 2) sc_law_cell_at.nd rfl (Or.inl rfl) (pe_ix ix_list (pv 0) (pv 1) (fun _ _ => rfl)))) pss_nil)
      (pss_one (ps_ret (pe_call G_mixed (hr.mono (by decide)) rfl mg_mixed kp_mixed b_mixed .nil pass0 (pa_cons (pv 2) (pa_cons (pe_op op_add pe_int (pv 1)) pa_nil))))))), ?_⟩
    refine ⟨_, rfl, _, rfl, a, _, rfl, .inl hS, _, _, rfl, rfl, _, rfl, ?_⟩
    refine ite2 (fun hc => ?_) (fun hc => ?_)
    · have hc := of_decide_eq_true hc
      rw [List.length_map] at hc
      have hk : (ns.map V.int)[kk]? = some (V.int (ns[kk]'(by omega))) := by rw [List.getElem?_map, List.getElem?_eq_getElem (by omega)]; rfl
      refine ⟨_, rfl, _, rfl, a, _, _, _, rfl, rfl, hS, atI_nat hk, ?_⟩
      exact ⟨_, rfl, _, rfl, _, _, rfl, rfl, _, _, rfl, fun r _ _ => k r⟩
    · exact ⟨_, rfl, _, rfl, _, _, rfl, rfl, _, _, rfl, fun r _ _ => k r⟩
end
end Hw
namespace Hw
open PySem L2 PyProof.Rows
section
variable {P : Program} {w : World} {K : PySem.W.Frag} {mg : Str → Option Value} {base : Heap}
abbrev sNext : Stmt := top 50
theorem sc_law_next : FnScope ["_law_draw", "_law_size"] ["_law_draw", "_law_size"] (defScope sNext) := ⟨rfl, rfl, rfl, by decide +kernel, rfl, by decide +kernel, by decide +kernel⟩
theorem ok_next {f C : Addr} {fd : FuncData} (F : Fun K "_law_next" "_law_next" sNext f fd) (T : Txt K mg C) (d_mixed : Dn P w K mg base 1 "_law_mixed" ["_law_cell", "_law_k"] spMixed) : FnOk P w K mg base CX0 2 f fd ["_law_draw", "_law_size"] spNext := by
  obtain ⟨f_mixed, fd_mixed, G_mixed, mg_mixed, kp_mixed, b_mixed⟩ := d_mixed
  refine F.ok sc_law_next (fun vs H Q E h => ?_) (fun cdv A outer s H vs Q E hr h => ?_)
  · obtain ⟨d, n, rfl, hd, hn, k⟩ := h
    rfl
  · obtain ⟨d, n, rfl, hd, hn, k⟩ := h
    have hu := hu_of hr
    rw [show defBody sNext = [_, _] from rfl]
    refine ⟨_, (pss_cons (ps_augS (pv 0) pe_int get_list pe_int ip_add set_list)
      (pss_one (ps_ret (pe_op op_mod (pe_op op_fdiv (pe_call G_mixed (hr.mono (by decide)) rfl mg_mixed kp_mixed b_mixed .nil pass0 (pa_cons (pe_ix ix_list (pv 0) pe_int (fun _ _ => rfl)) (pa_cons (pe_ix ix_list (pv 0) pe_int (fun _ _ => rfl)) pa_nil))) pe_int) (pv 1))))), ?_⟩
    obtain ⟨x, y, hd⟩ := hd
    refine ⟨_, rfl, d, _, 1, _, rfl, rfl, SqL.of hd, rfl, _, _, rfl, rfl, d, _, _, 1, rfl, rfl, hd, rfl, ?_⟩
    refine ⟨_, rfl, d, _, _, _, rfl, rfl, SqL.of upd_same, rfl, _, rfl, d, _, _, _, rfl, rfl, SqL.of upd_same, rfl, _, _, rfl, fun r h0 h1 => ?_⟩
    refine ⟨_, _, rfl, rfl, ⟨by decide, by decide⟩, _, rfl, _, _, rfl, rfl, hn, ?_⟩
    have e0 := Int.emod_nonneg (r / 7) (Int.ne_of_gt hn)
    have e1 := Int.emod_lt_of_pos (r / 7) hn
    have e := Int.toNat_of_nonneg e0
    rw [← e] at e1
    show Q (V.int (r / 7 % n)) _
    rw [← e]
    exact k _ _ e1 But.upd ⟨_, _, upd_same⟩
end
end Hw
namespace Hw
open PySem L2 PyProof.Rows
section
variable {P : Program} {w : World} {K : PySem.W.Frag} {mg : Str → Option Value} {base : Heap}
abbrev sKept : Stmt := top 52
theorem sc_law_kept : FnScope ["_law_words"] [] (defScope sKept) := ⟨rfl, rfl, rfl, by decide +kernel, rfl, by decide +kernel, by decide +kernel⟩
abbrev eA : Expr := asgE ((defBody sKept).getD 0 (.Pass ⟨0, 0, 0, 0⟩))
abbrev eB : Expr := rightE (retE ((defBody sKept).getD 1 (.Pass ⟨0, 0, 0, 0⟩)))
theorem kA1 : lstOf eA = some keptA := rfl
theorem kB1 : lstOf eB = some keptB := rfl
theorem ok_kept {f C : Addr} {fd : FuncData} (F : Fun K "_law_kept" "_law_kept" sKept f fd) (T : Txt K mg C)  : FnOk P w K mg base CX0 1 f fd [] spKept := by
  refine F.ok sc_law_kept (fun vs H Q E h => ?_) (fun cdv A outer s H vs Q E hr h => ?_)
  · obtain ⟨rfl, k⟩ := h
    rfl
  · obtain ⟨rfl, k⟩ := h
    have hu := hu_of hr
    have ha := kA1
    have hb := kB1
    rw [show defBody sKept = [.Assign [.Name "_law_words" _] eA _, .Return (some (.BinOp (.Name "_law_words" _) .Add eB _)) _] from rfl]
    generalize eA = qa at ha ⊢
    generalize eB = qb at hb ⊢
    refine ⟨_, (pss_cons (ps_set (i := 0) sc_law_kept.nd rfl (Or.inl rfl) (pe_strs ha) (sw_strs ha))
      (pss_one (ps_ret (pe_op op_cat (pv 0) (pe_strs hb))))), ?_⟩
    refine ⟨(by show 13 ≤ sizeLine; exact Nat.le_of_lt (line 13 (by decide))), fun l1 n1 => ?_⟩
    refine ⟨_, rfl, (by show 8 ≤ sizeLine; exact Nat.le_of_lt (line 8 (by decide))), fun l2 n2 => ?_⟩
    have ne : l1 ≠ l2 := ne_of_none upd_same n2
    refine ⟨l1, l2, _, _, rfl, rfl, (by rw [upd_ne ne]; exact upd_same), upd_same, (by show 13 + 8 ≤ sizeLine; exact Nat.le_of_lt (line 21 (by decide))), fun p hp => ?_⟩
    refine k p _ (Same.new (Same.new (new n1) n2) hp) ((Same.new (new n1) n2).free hp) ?_
    rw [upd_same]
    rw [show keptL.map V.str = keptA.map V.str ++ keptB.map V.str from List.map_append]
end
end Hw
namespace Hw
open PySem L2 PyProof.Rows
section
variable {P : Program} {w : World} {K : PySem.W.Frag} {mg : Str → Option Value} {base : Heap}
abbrev sNames : Stmt := top 51
theorem sc_law_names : FnScope ["_law_draw", "_law_many", "_law_some", "_law_size", "_law_place", "_law_base", "_law_shift", "_law_kept_here", "_law_alike", "_law_names_here", "_law_k", "_law_word", "_law_turn"] ["_law_draw", "_law_many"] (defScope sNames) := ⟨rfl, rfl, rfl, by decide +kernel, rfl, by decide +kernel, by decide +kernel⟩
abbrev eH : Expr := asgE ((defBody sNames).getD 5 (.Pass ⟨0, 0, 0, 0⟩))
theorem kH1 : lstOf eH = some keptH := rfl
theorem ok_names {f C : Addr} {fd : FuncData} (F : Fun K "_law_names" "_law_names" sNames f fd) (T : Txt K mg C) (d_next : Dn P w K mg base 2 "_law_next" ["_law_draw", "_law_size"] spNext) (d_kept : Dn P w K mg base 1 "_law_kept" [] spKept) : FnOk P w K mg base CX0 3 f fd ["_law_draw", "_law_many"] spNamesC := by
  obtain ⟨f_next, fd_next, G_next, mg_next, kp_next, b_next⟩ := d_next
  obtain ⟨f_kept, fd_kept, G_kept, mg_kept, kp_kept, b_kept⟩ := d_kept
  refine F.ok sc_law_names (fun vs H Q E h => ?_) (fun cdv A outer s H vs Q E hr h => ?_)
  · obtain ⟨d, m, rfl, hd, hm, k⟩ := h
    rfl
  · obtain ⟨d, m, rfl, hd, hm, k⟩ := h
    have hu := hu_of hr
    have hh := kH1
    rw [show defBody sNames = [_, _, _, _, _, .Assign [.Name "_law_kept_here" _] eH _, _, _, _, _] from rfl]
    generalize eH = qh at hh ⊢
    refine ⟨_, (pss_cons (ps_set (i := 2) sc_law_names.nd rfl (Or.inr rfl) pe_str)
      (pss_cons (ps_set (i := 3) sc_law_names.nd rfl (Or.inl rfl) (pe_op op_add pe_int (pe_call G_next (hr.mono (by decide)) rfl mg_next kp_next b_next .nil pass0 (pa_cons (pv 0) (pa_cons pe_int pa_nil)))))
      (pss_cons (ps_set (i := 4) sc_law_names.nd rfl (Or.inl rfl) (pe_call G_next (hr.mono (by decide)) rfl mg_next kp_next b_next .nil pass0 (pa_cons (pv 0) (pa_cons (pv 3) pa_nil))))
      (pss_cons (ps_setC (i := 5) sc_law_names.nd rfl (Or.inl rfl) (compSc_mk ["_law_k"] ["_law_some", "_law_draw"] [2, 0] rfl (by decide +kernel) (by decide +kernel) (by with_unfolding_all rfl) (by exact ⟨rfl, rfl, trivial⟩) (by rfl) rfl (by rfl)) rfl (pi_range1 rfl T.range (pa_cons (pv 3) pa_nil)) (fun _ _ _ _ => (pg_name (i := 0) (show List.Nodup (["_law_k", "_law_some", "_law_draw"] : List Str) by decide +kernel) rfl (Or.inl rfl) (Or.inr rfl))) (fun _ _ _ _ => pts_nil) (fun _ _ _ _ => (pe_ix ix_str (pv 1) (pe_call G_next (hr.mono (by decide)) rfl mg_next kp_next b_next .nil pass0 (pa_cons (pv 2) (pa_cons pe_int pa_nil))) (fun _ _ => rfl))))
      (pss_cons (ps_set (i := 6) sc_law_names.nd rfl (Or.inl rfl) (pe_call G_next (hr.mono (by decide)) rfl mg_next kp_next b_next .nil pass0 (pa_cons (pv 0) (pa_cons pe_int pa_nil))))
      (pss_cons (ps_set (i := 7) sc_law_names.nd rfl (Or.inl rfl) (pe_strs hh) (sw_strs hh))
      (pss_cons (ps_set (i := 8) sc_law_names.nd rfl (Or.inl rfl) (pe_cmpR op_eq (pe_call G_next (hr.mono (by decide)) rfl mg_next kp_next b_next .nil pass0 (pa_cons (pv 0) (pa_cons pe_int pa_nil))) pe_int (nomark _)))
      (pss_cons (ps_set (i := 9) sc_law_names.nd rfl (Or.inl rfl) (pe_lst pa_nil))
      (pss_cons (ps_for PassesOwn.never rfl (pi_range1 rfl T.range (pa_cons (pv 1) pa_nil)) (pg_name (i := 10) sc_law_names.nd rfl (Or.inl rfl)) (pss_cons (ps_asg (pe_ix ix_str (pv 2) (pe_op op_mod (pe_op op_add (pv 6) (pe_op op_mul pe_int (pv 10))) pe_int) (fun _ _ => rfl)) (pg_sub (pv 5) (pv 4) set_list))
      (pss_cons (ps_set (i := 11) sc_law_names.nd rfl (Or.inl rfl) (pe_bm PySem.F.plainAttrs_str PySem.F.slot_str_join PySem.F.type_str_join mt_join pe_str (pa_cons (pv 5) pa_nil)))
      (pss_cons (ps_if (PW.pt (pw_and (pt_val (pv 8)) (pw_and1 (pt_cmpR op_lt (pv 10) pe_int (nomark _))))) (pss_one (ps_set (i := 11) sc_law_names.nd rfl (Or.inl rfl) (pe_ix ix_list (pv 7) (pe_op op_mod (pe_op op_add (pv 10) (pv 6)) pe_int) (fun _ _ => rfl)))) pss_nil)
      (pss_cons (ps_set (i := 12) sc_law_names.nd rfl (Or.inl rfl) pe_int)
      (pss_cons (ps_while PassesOwn.never (PW.pt (pw_or (pt_cmpR op_in_seq (pv 11) (pv 9) (by rfl)) (pw_or1 (pt_cmpR op_in_seq (pv 11) (pe_call0 G_kept (hr.mono (by decide)) rfl mg_kept kp_kept b_kept .nil pass0) (by rfl))))) (pss_cons (ps_aug (i := 12) sc_law_names.nd rfl (Or.inl rfl) pe_int ip_add)
      (pss_one (ps_set (i := 11) sc_law_names.nd rfl (Or.inl rfl) (pe_op op_add_str (pe_op op_add_str pe_str (pe_ix ix_str (pv 2) (pe_op op_mod (pv 12) pe_int) (fun _ _ => rfl))) (pe_ix ix_str (pv 2) (pe_op op_mod (pe_op op_add (pv 10) (pv 12)) pe_int) (fun _ _ => rfl)))))))
      (pss_one (ps_expr (pe_bm PySem.F.plainAttrs_list PySem.F.slot_list_append PySem.F.type_list_append mt_append (pv 9) (pa_cons (pv 11) pa_nil))))))))))
      (pss_one (ps_ret (pv 9)))))))))))), ?_⟩
    refine ⟨_, rfl, d, 8, rfl, hd, (by decide), fun r1 H1 h1 b1 d1 => ⟨_, _, rfl, rfl, ?_⟩⟩
    refine ⟨_, rfl, _, rfl, d, _, rfl, d1, (by omega), fun r2 H2 h2 b2 d2 => ?_⟩
    refine ⟨_, rfl, _, rfl, (by omega), (by omega), comp_range (n := (1 + (r1 : Int)).toNat) (fun i ys H' => But d H2 H' ∧ Dr H' d ∧ ∃ ss : List Str, ys = ss.map V.str ∧ ss.length = i ∧ ∀ x ∈ ss, x.length = 1) ⟨fun _ _ e _ => e, d2, [], rfl, rfl, fun _ h => nomatch h⟩ ?_ ?_⟩
    · rintro i ys H' hi ⟨b, dr, ss, rfl, hl, hs⟩
      refine ⟨Ext.one, alwT ⟨_, rfl, _, rfl, d, 26, rfl, dr, (by decide), fun r3 H3 h3 b3 d3 => ⟨abc, _, _, rfl, rfl, abc_len, abc_at (by omega), ?_, b.trans b3, d3, ss ++ [chr1 (97 + r3)], ?_, ?_, ?_⟩⟩⟩
      · rw [List.length_map, hl]
        exact line _ (by omega)
      · rw [List.map_append]
        rfl
      · rw [List.length_append, hl]
        rfl
      · intro x hx
        rcases List.mem_append.mp hx with h | h
        · exact hs x h
        · rw [List.mem_singleton.mp h]
          rfl
    rintro ys H3 ⟨b3, d3, ss, rfl, hl, hs⟩ B hB
    have d4 : Dr (upd H3 B (.lst (ss.map V.str))) d := d3.same (new hB)
    refine ⟨_, rfl, d, 26, rfl, d4, (by decide), fun r4 H5 h4 b5 d5 => ?_⟩
    refine ⟨(by rw [List.length_map]; exact Nat.le_of_lt (line _ (by decide))), fun kl hkl => ?_⟩
    have d6 : Dr (upd H5 kl (.lst (keptH.map V.str))) d := d5.same (new hkl)
    refine ⟨_, rfl, d, 3, rfl, d6, (by decide), fun r5 H7 h5 b7 d7 => ⟨rfl, ?_⟩⟩
    generalize decide (V.int (r5 : Int) = V.int 1) = al
    refine ⟨(by show 0 ≤ sizeLine; exact Nat.zero_le _), fun nl hnl => ?_⟩
    have nBd : B ≠ d := d3.ne hB
    have nkd : kl ≠ d := d5.ne hkl
    have nnd : nl ≠ d := d7.ne hnl
    have f3 : But d H H3 := (b1.trans b2).trans b3
    have f7 : But d H H7 := ((f3.new hB).trans b5 |>.new hkl).trans b7
    have f8 : But d H (upd H7 nl (.lst [])) := f7.new hnl
    have hB5 : H5 B = some (.lst (ss.map V.str)) := b5 _ _ upd_same nBd
    have nBk : B ≠ kl := ne_of_none hB5 hkl
    have hB7 : H7 B = some (.lst (ss.map V.str)) := b7 _ _ (by rw [upd_ne nBk]; exact hB5) nBd
    have hk7 : H7 kl = some (.lst (keptH.map V.str)) := b7 _ _ upd_same nkd
    have nBn : B ≠ nl := ne_of_none hB7 hnl
    have nkn : kl ≠ nl := ne_of_none hk7 hnl
    have sz : (1 + (r1 : Int)).toNat ≤ 8 := by omega
    have pl : r2 < (1 + (r1 : Int)).toNat := by omega
    clear hd d1 b1 d2 b2 b3 d3 d4 d6 b5 d5 b7 hB5
    refine ⟨_, rfl, _, rfl, (by omega), (by omega), for_range (n := (m : Int).toNat) (fun i σ H' => ∃ (xs bs : List Str) (kk w t : Option V), σ = [some (.ref d), some (.int m), some (.str abc), some (.int (1 + r1)), some (.int r2), some (.ref B), some (.int r4), some (.ref kl), some (.bl al), some (.ref nl), kk, w, t] ∧ But2 B nl (upd H7 nl (.lst [])) H' ∧ H' B = some (.lst (bs.map V.str)) ∧ bs.length = (1 + (r1 : Int)).toNat ∧ (∀ x ∈ bs, x.length = 1) ∧ H' nl = some (.lst (xs.map V.str)) ∧ xs.length = i ∧ (∀ x ∈ xs, x.length ≤ 8) ∧ xs.Nodup)
      ⟨[], ss, none, none, none, rfl, fun _ _ e _ _ => e, (by rw [upd_ne nBn]; exact hB7), hl, hs, upd_same, rfl, (fun _ h => nomatch h), List.nodup_nil⟩ ?_ ?_⟩
    · rintro i σ H' hi ⟨xs, bs, kk, w, t, rfl, bt, eB, lB, sB, eN, lN, sN, uN'⟩
      have im : i < 12 := by omega
      refine ⟨_, rfl, _, rfl, _, rfl, _, _, rfl, rfl, .inl ⟨by decide, by decide⟩, _, _, rfl, rfl, _, _, rfl, rfl, (by show (0 : Int) < 26; decide), abc, _, _, rfl, rfl, abc_len, abc_mod _, _, rfl, _, rfl, B, _, _, r2, rfl, rfl, eB, ixN_nat (by rw [List.length_map, lB]; exact pl), ?_⟩
      generalize (97 + (((r4 : Int) + 5 * (0 + (i : Int))) % 26).toNat) = c
      have eB' : upd H' B (.lst ((bs.map V.str).set r2 (V.str ⟨#[c]⟩))) B = some (.lst ((bs.set r2 (chr1 c)).map V.str)) := by rw [upd_same, List.map_set]
      have eN' : upd H' B (.lst ((bs.map V.str).set r2 (V.str ⟨#[c]⟩))) nl = some (.lst (xs.map V.str)) := by rw [upd_ne nBn.symm]; exact eN
      have lB' : (bs.set r2 (chr1 c)).length = (1 + (r1 : Int)).toNat := by rw [List.length_set]; exact lB
      have sB' : ∀ x ∈ bs.set r2 (chr1 c), x.length = 1 := fun x hx => by
        rcases List.mem_or_eq_of_mem_set hx with h | h
        · exact sB x h
        · rw [h]
          rfl
      have bt' : But2 B nl (upd H7 nl (.lst [])) (upd H' B (.lst ((bs.map V.str).set r2 (V.str ⟨#[c]⟩)))) := fun b o e n1 n2 => by
        rw [upd_ne n1]
        exact bt b o e n1 n2
      have hk' : upd H' B (.lst ((bs.map V.str).set r2 (V.str ⟨#[c]⟩))) kl = some (.lst (keptH.map V.str)) := bt' _ _ (by rw [upd_ne nkn]; exact hk7) nBk.symm nkn
      generalize bs.set r2 (chr1 c) = cs at eB' lB' sB'
      refine ⟨rfl, _, rfl, _, B, cs, rfl, rfl, eB', ?_, ?_⟩
      · rw [sum_ones cs sB', lB']
        show _ + _ * 0 ≤ _
        omega
      generalize upd H' B (.lst ((bs.map V.str).set r2 (V.str ⟨#[c]⟩))) = Hb at eB' eN' bt' hk'
      have hw0 : (Txt.join (Str.ofString "") cs).length ≤ 8 := by rw [join_len cs sB', lB']; exact sz
      generalize Txt.join (Str.ofString "") cs = w0 at hw0
      obtain ⟨kx, kin, kat⟩ := keptH_mod (0 + (i : Int) + r4)
      refine ⟨_, rfl, _, rfl, ?_⟩
      cases al
      · refine iteF (iteF ?_)
        refine while_by (fun σ H2 => ∃ (t : Nat) (wd : Str), σ = [some (.ref d), some (.int m), some (.str abc), some (.int (1 + r1)), some (.int r2), some (.ref B), some (.int r4), some (.ref kl), some (.bl false), some (.ref nl),  some (.int (0 + (i : Int))), some (.str wd), some (.int (t : Int))] ∧ wd.length ≤ 8 ∧ (1 ≤ t → wd = zt (0 + (i : Int)) t) ∧ (∀ s, s + 1 < t → zt (0 + (i : Int)) (s + 1) ∈ xs) ∧ t ≤ 14 ∧ Same Hb H2) mu12 ⟨0, _, rfl, (by first | exact hw0 | exact keptH_small _ kin), fun h => absurd h (by decide), fun s h => absurd h (by omega), by decide, Same.refl _⟩ ?_ (mono_or (mono_in (mono_var _) (mono_var _)) (mono_in (mono_var _) mono_kept))
        rintro σ H2 ⟨t, wd, rfl, hw, e1, e2, e3, sm⟩
        have turn : ∀ H3, Same H2 H3 → (wd ∈ xs ∨ wd ∈ keptL) → t + 1 ≤ 14 ∧ ∀ s, s + 1 < t + 1 → zt (0 + (i : Int)) (s + 1) ∈ xs := fun H3 s3 hc => by
          have q : ∀ s, s < t → zt (0 + (i : Int)) (s + 1) ∈ xs := fun s hs => by
            by_cases hs' : s + 1 < t
            · exact e2 s hs'
            · have e : t = s + 1 := by omega
              have e' := e1 (by omega)
              rw [e] at e'
              rw [← e']
              rcases hc with h | h
              · exact h
              · exact absurd (e' ▸ h) (zw_notKept _ _)
          have := zt_few (by omega) q
          exact ⟨by omega, fun s hs => q s (by omega)⟩
        have i1 : (if false = true then !inV (.str wd) (xs.map V.str) else inV (.str wd) (xs.map V.str)) = decide (wd ∈ xs) := inV_str wd xs
        have i2 : (if false = true then !inV (.str wd) (keptL.map V.str) else inV (.str wd) (keptL.map V.str)) = decide (wd ∈ keptL) := inV_str wd keptL
        refine ⟨_, rfl, _, rfl, nl, _, rfl, .inl (SqL.of (sm _ _ eN')), rfl, flat_strs _, decide (wd ∈ xs), congrArg V.bl i1, ?_⟩
        refine ite2 (fun hc => ?_) (fun hc => ?_)
        · obtain ⟨t1, t2⟩ := turn H2 (Same.refl _) (.inl (of_decide_eq_true hc))
          refine iteT ?_
          refine ⟨_, rfl, _, _, rfl, rfl, ?_⟩
          refine ⟨_, rfl, _, rfl, _, _, rfl, rfl, (by show (0 : Int) < 26; decide), abc, _, _, rfl, rfl, abc_len, abc_mod _, _, _, rfl, rfl, (by show 1 + 1 ≤ sizeLine; exact Nat.le_of_lt (line 2 (by decide))), ?_⟩
          refine ⟨_, rfl, _, rfl, _, rfl, _, _, rfl, rfl, _, _, rfl, rfl, (by show (0 : Int) < 26; decide), abc, _, _, rfl, rfl, abc_len, abc_mod _, _, _, rfl, rfl, (by rw [app_len]; show 1 + 1 + 1 ≤ sizeLine; exact Nat.le_of_lt (line 3 (by decide))), ?_⟩
          refine ⟨⟨t + 1, zt (0 + (i : Int)) (t + 1), rfl, (by unfold zt; rw [zw_len]; decide), fun _ => rfl, t2, t1, sm.trans (Same.refl _)⟩, ?_⟩
          show 20 - (((t : Int) + 1).toNat) < 20 - ((t : Int)).toNat
          omega
        refine ⟨_, rfl, rfl, fun l H3 s3 n3 e3' => ⟨l, _, rfl, .inl (SqL.of e3'), rfl, flat_strs _, decide (wd ∈ keptL), congrArg V.bl i2, ?_⟩⟩
        refine ite2 (fun hc2 => ?_) (fun hc2 => ?_)
        · obtain ⟨t1, t2⟩ := turn H3 s3 (.inr (of_decide_eq_true hc2))
          refine ⟨_, rfl, _, _, rfl, rfl, ?_⟩
          refine ⟨_, rfl, _, rfl, _, _, rfl, rfl, (by show (0 : Int) < 26; decide), abc, _, _, rfl, rfl, abc_len, abc_mod _, _, _, rfl, rfl, (by show 1 + 1 ≤ sizeLine; exact Nat.le_of_lt (line 2 (by decide))), ?_⟩
          refine ⟨_, rfl, _, rfl, _, rfl, _, _, rfl, rfl, _, _, rfl, rfl, (by show (0 : Int) < 26; decide), abc, _, _, rfl, rfl, abc_len, abc_mod _, _, _, rfl, rfl, (by rw [app_len]; show 1 + 1 + 1 ≤ sizeLine; exact Nat.le_of_lt (line 3 (by decide))), ?_⟩
          refine ⟨⟨t + 1, zt (0 + (i : Int)) (t + 1), rfl, (by unfold zt; rw [zw_len]; decide), fun _ => rfl, t2, t1, sm.trans (s3)⟩, ?_⟩
          show 20 - (((t : Int) + 1).toNat) < 20 - ((t : Int)).toNat
          omega
        have eN3 : H3 nl = some (.lst (xs.map V.str)) := s3 _ _ (sm _ _ eN')
        refine ⟨_, rfl, .inl ⟨rfl, _, SqL.of eN3⟩, _, rfl, nl, _, _, rfl, rfl, eN3, (by rw [List.length_map, lN]; exact line _ (by omega)), ?_⟩
        refine ⟨xs ++ [wd], cs, _, _, _, rfl, fun b o e n1 n2 => by rw [upd_ne n2]; exact s3 _ _ (sm _ _ (bt' b o e n1 n2)), (by rw [upd_ne nBn]; exact s3 _ _ (sm _ _ eB')), lB', sB', (by rw [upd_same, List.map_append]; rfl), (by rw [List.length_append, lN]; rfl), fun x hx => ?_, nodup_snocC uN' (fun h => hc (decide_eq_true h))⟩
        rcases List.mem_append.mp hx with h | h
        · exact sN x h
        · rw [List.mem_singleton.mp h]
          exact hw
      · refine iteT ⟨_, rfl, _, _, rfl, rfl, _, rfl, ite2 (fun hk => ?_) fun hk => ?_⟩
        · refine ⟨_, rfl, _, rfl, _, rfl, _, _, rfl, rfl, _, _, rfl, rfl, (by show (0 : Int) < 12; decide), kl, _, _, _, rfl, rfl, SqL.of hk', kat, ?_⟩
          refine while_by (fun σ H2 => ∃ (t : Nat) (wd : Str), σ = [some (.ref d), some (.int m), some (.str abc), some (.int (1 + r1)), some (.int r2), some (.ref B), some (.int r4), some (.ref kl), some (.bl true), some (.ref nl),  some (.int (0 + (i : Int))), some (.str wd), some (.int (t : Int))] ∧ wd.length ≤ 8 ∧ (1 ≤ t → wd = zt (0 + (i : Int)) t) ∧ (∀ s, s + 1 < t → zt (0 + (i : Int)) (s + 1) ∈ xs) ∧ t ≤ 14 ∧ Same Hb H2) mu12 ⟨0, _, rfl, (by first | exact hw0 | exact keptH_small _ kin), fun h => absurd h (by decide), fun s h => absurd h (by omega), by decide, Same.refl _⟩ ?_ (mono_or (mono_in (mono_var _) (mono_var _)) (mono_in (mono_var _) mono_kept))
          rintro σ H2 ⟨t, wd, rfl, hw, e1, e2, e3, sm⟩
          have turn : ∀ H3, Same H2 H3 → (wd ∈ xs ∨ wd ∈ keptL) → t + 1 ≤ 14 ∧ ∀ s, s + 1 < t + 1 → zt (0 + (i : Int)) (s + 1) ∈ xs := fun H3 s3 hc => by
            have q : ∀ s, s < t → zt (0 + (i : Int)) (s + 1) ∈ xs := fun s hs => by
              by_cases hs' : s + 1 < t
              · exact e2 s hs'
              · have e : t = s + 1 := by omega
                have e' := e1 (by omega)
                rw [e] at e'
                rw [← e']
                rcases hc with h | h
                · exact h
                · exact absurd (e' ▸ h) (zw_notKept _ _)
            have := zt_few (by omega) q
            exact ⟨by omega, fun s hs => q s (by omega)⟩
          have i1 : (if false = true then !inV (.str wd) (xs.map V.str) else inV (.str wd) (xs.map V.str)) = decide (wd ∈ xs) := inV_str wd xs
          have i2 : (if false = true then !inV (.str wd) (keptL.map V.str) else inV (.str wd) (keptL.map V.str)) = decide (wd ∈ keptL) := inV_str wd keptL
          refine ⟨_, rfl, _, rfl, nl, _, rfl, .inl (SqL.of (sm _ _ eN')), rfl, flat_strs _, decide (wd ∈ xs), congrArg V.bl i1, ?_⟩
          refine ite2 (fun hc => ?_) (fun hc => ?_)
          · obtain ⟨t1, t2⟩ := turn H2 (Same.refl _) (.inl (of_decide_eq_true hc))
            refine iteT ?_
            refine ⟨_, rfl, _, _, rfl, rfl, ?_⟩
            refine ⟨_, rfl, _, rfl, _, _, rfl, rfl, (by show (0 : Int) < 26; decide), abc, _, _, rfl, rfl, abc_len, abc_mod _, _, _, rfl, rfl, (by show 1 + 1 ≤ sizeLine; exact Nat.le_of_lt (line 2 (by decide))), ?_⟩
            refine ⟨_, rfl, _, rfl, _, rfl, _, _, rfl, rfl, _, _, rfl, rfl, (by show (0 : Int) < 26; decide), abc, _, _, rfl, rfl, abc_len, abc_mod _, _, _, rfl, rfl, (by rw [app_len]; show 1 + 1 + 1 ≤ sizeLine; exact Nat.le_of_lt (line 3 (by decide))), ?_⟩
            refine ⟨⟨t + 1, zt (0 + (i : Int)) (t + 1), rfl, (by unfold zt; rw [zw_len]; decide), fun _ => rfl, t2, t1, sm.trans (Same.refl _)⟩, ?_⟩
            show 20 - (((t : Int) + 1).toNat) < 20 - ((t : Int)).toNat
            omega
          refine ⟨_, rfl, rfl, fun l H3 s3 n3 e3' => ⟨l, _, rfl, .inl (SqL.of e3'), rfl, flat_strs _, decide (wd ∈ keptL), congrArg V.bl i2, ?_⟩⟩
          refine ite2 (fun hc2 => ?_) (fun hc2 => ?_)
          · obtain ⟨t1, t2⟩ := turn H3 s3 (.inr (of_decide_eq_true hc2))
            refine ⟨_, rfl, _, _, rfl, rfl, ?_⟩
            refine ⟨_, rfl, _, rfl, _, _, rfl, rfl, (by show (0 : Int) < 26; decide), abc, _, _, rfl, rfl, abc_len, abc_mod _, _, _, rfl, rfl, (by show 1 + 1 ≤ sizeLine; exact Nat.le_of_lt (line 2 (by decide))), ?_⟩
            refine ⟨_, rfl, _, rfl, _, rfl, _, _, rfl, rfl, _, _, rfl, rfl, (by show (0 : Int) < 26; decide), abc, _, _, rfl, rfl, abc_len, abc_mod _, _, _, rfl, rfl, (by rw [app_len]; show 1 + 1 + 1 ≤ sizeLine; exact Nat.le_of_lt (line 3 (by decide))), ?_⟩
            refine ⟨⟨t + 1, zt (0 + (i : Int)) (t + 1), rfl, (by unfold zt; rw [zw_len]; decide), fun _ => rfl, t2, t1, sm.trans (s3)⟩, ?_⟩
            show 20 - (((t : Int) + 1).toNat) < 20 - ((t : Int)).toNat
            omega
          have eN3 : H3 nl = some (.lst (xs.map V.str)) := s3 _ _ (sm _ _ eN')
          refine ⟨_, rfl, .inl ⟨rfl, _, SqL.of eN3⟩, _, rfl, nl, _, _, rfl, rfl, eN3, (by rw [List.length_map, lN]; exact line _ (by omega)), ?_⟩
          refine ⟨xs ++ [wd], cs, _, _, _, rfl, fun b o e n1 n2 => by rw [upd_ne n2]; exact s3 _ _ (sm _ _ (bt' b o e n1 n2)), (by rw [upd_ne nBn]; exact s3 _ _ (sm _ _ eB')), lB', sB', (by rw [upd_same, List.map_append]; rfl), (by rw [List.length_append, lN]; rfl), fun x hx => ?_, nodup_snocC uN' (fun h => hc (decide_eq_true h))⟩
          rcases List.mem_append.mp hx with h | h
          · exact sN x h
          · rw [List.mem_singleton.mp h]
            exact hw
        · refine while_by (fun σ H2 => ∃ (t : Nat) (wd : Str), σ = [some (.ref d), some (.int m), some (.str abc), some (.int (1 + r1)), some (.int r2), some (.ref B), some (.int r4), some (.ref kl), some (.bl true), some (.ref nl),  some (.int (0 + (i : Int))), some (.str wd), some (.int (t : Int))] ∧ wd.length ≤ 8 ∧ (1 ≤ t → wd = zt (0 + (i : Int)) t) ∧ (∀ s, s + 1 < t → zt (0 + (i : Int)) (s + 1) ∈ xs) ∧ t ≤ 14 ∧ Same Hb H2) mu12 ⟨0, _, rfl, (by first | exact hw0 | exact keptH_small _ kin), fun h => absurd h (by decide), fun s h => absurd h (by omega), by decide, Same.refl _⟩ ?_ (mono_or (mono_in (mono_var _) (mono_var _)) (mono_in (mono_var _) mono_kept))
          rintro σ H2 ⟨t, wd, rfl, hw, e1, e2, e3, sm⟩
          have turn : ∀ H3, Same H2 H3 → (wd ∈ xs ∨ wd ∈ keptL) → t + 1 ≤ 14 ∧ ∀ s, s + 1 < t + 1 → zt (0 + (i : Int)) (s + 1) ∈ xs := fun H3 s3 hc => by
            have q : ∀ s, s < t → zt (0 + (i : Int)) (s + 1) ∈ xs := fun s hs => by
              by_cases hs' : s + 1 < t
              · exact e2 s hs'
              · have e : t = s + 1 := by omega
                have e' := e1 (by omega)
                rw [e] at e'
                rw [← e']
                rcases hc with h | h
                · exact h
                · exact absurd (e' ▸ h) (zw_notKept _ _)
            have := zt_few (by omega) q
            exact ⟨by omega, fun s hs => q s (by omega)⟩
          have i1 : (if false = true then !inV (.str wd) (xs.map V.str) else inV (.str wd) (xs.map V.str)) = decide (wd ∈ xs) := inV_str wd xs
          have i2 : (if false = true then !inV (.str wd) (keptL.map V.str) else inV (.str wd) (keptL.map V.str)) = decide (wd ∈ keptL) := inV_str wd keptL
          refine ⟨_, rfl, _, rfl, nl, _, rfl, .inl (SqL.of (sm _ _ eN')), rfl, flat_strs _, decide (wd ∈ xs), congrArg V.bl i1, ?_⟩
          refine ite2 (fun hc => ?_) (fun hc => ?_)
          · obtain ⟨t1, t2⟩ := turn H2 (Same.refl _) (.inl (of_decide_eq_true hc))
            refine iteT ?_
            refine ⟨_, rfl, _, _, rfl, rfl, ?_⟩
            refine ⟨_, rfl, _, rfl, _, _, rfl, rfl, (by show (0 : Int) < 26; decide), abc, _, _, rfl, rfl, abc_len, abc_mod _, _, _, rfl, rfl, (by show 1 + 1 ≤ sizeLine; exact Nat.le_of_lt (line 2 (by decide))), ?_⟩
            refine ⟨_, rfl, _, rfl, _, rfl, _, _, rfl, rfl, _, _, rfl, rfl, (by show (0 : Int) < 26; decide), abc, _, _, rfl, rfl, abc_len, abc_mod _, _, _, rfl, rfl, (by rw [app_len]; show 1 + 1 + 1 ≤ sizeLine; exact Nat.le_of_lt (line 3 (by decide))), ?_⟩
            refine ⟨⟨t + 1, zt (0 + (i : Int)) (t + 1), rfl, (by unfold zt; rw [zw_len]; decide), fun _ => rfl, t2, t1, sm.trans (Same.refl _)⟩, ?_⟩
            show 20 - (((t : Int) + 1).toNat) < 20 - ((t : Int)).toNat
            omega
          refine ⟨_, rfl, rfl, fun l H3 s3 n3 e3' => ⟨l, _, rfl, .inl (SqL.of e3'), rfl, flat_strs _, decide (wd ∈ keptL), congrArg V.bl i2, ?_⟩⟩
          refine ite2 (fun hc2 => ?_) (fun hc2 => ?_)
          · obtain ⟨t1, t2⟩ := turn H3 s3 (.inr (of_decide_eq_true hc2))
            refine ⟨_, rfl, _, _, rfl, rfl, ?_⟩
            refine ⟨_, rfl, _, rfl, _, _, rfl, rfl, (by show (0 : Int) < 26; decide), abc, _, _, rfl, rfl, abc_len, abc_mod _, _, _, rfl, rfl, (by show 1 + 1 ≤ sizeLine; exact Nat.le_of_lt (line 2 (by decide))), ?_⟩
            refine ⟨_, rfl, _, rfl, _, rfl, _, _, rfl, rfl, _, _, rfl, rfl, (by show (0 : Int) < 26; decide), abc, _, _, rfl, rfl, abc_len, abc_mod _, _, _, rfl, rfl, (by rw [app_len]; show 1 + 1 + 1 ≤ sizeLine; exact Nat.le_of_lt (line 3 (by decide))), ?_⟩
            refine ⟨⟨t + 1, zt (0 + (i : Int)) (t + 1), rfl, (by unfold zt; rw [zw_len]; decide), fun _ => rfl, t2, t1, sm.trans (s3)⟩, ?_⟩
            show 20 - (((t : Int) + 1).toNat) < 20 - ((t : Int)).toNat
            omega
          have eN3 : H3 nl = some (.lst (xs.map V.str)) := s3 _ _ (sm _ _ eN')
          refine ⟨_, rfl, .inl ⟨rfl, _, SqL.of eN3⟩, _, rfl, nl, _, _, rfl, rfl, eN3, (by rw [List.length_map, lN]; exact line _ (by omega)), ?_⟩
          refine ⟨xs ++ [wd], cs, _, _, _, rfl, fun b o e n1 n2 => by rw [upd_ne n2]; exact s3 _ _ (sm _ _ (bt' b o e n1 n2)), (by rw [upd_ne nBn]; exact s3 _ _ (sm _ _ eB')), lB', sB', (by rw [upd_same, List.map_append]; rfl), (by rw [List.length_append, lN]; rfl), fun x hx => ?_, nodup_snocC uN' (fun h => hc (decide_eq_true h))⟩
          rcases List.mem_append.mp hx with h | h
          · exact sN x h
          · rw [List.mem_singleton.mp h]
            exact hw
    · rintro σ H' ⟨xs, bs, kk, w, t, rfl, bt, eB, lB, sB, eN, lN, sN, uN'⟩
      obtain ⟨x7, y7, e7⟩ := d7
      refine ⟨_, rfl, k nl xs H' (fun b o e n => bt b o (f8 b o e n) (ne_of_none (f3 b o e n) hB) (ne_of_none (f7 b o e n) hnl)) ⟨x7, y7, bt d _ (by rw [upd_ne nnd.symm]; exact e7) nBd.symm nnd.symm⟩ (f7.free hnl nnd) eN (by rw [lN]; rfl) sN uN'⟩
end
end Hw
namespace Hw
open PySem L2 PyProof.Rows
section
variable {P : Program} {w : World} {K : PySem.W.Frag} {mg : Str → Option Value} {base : Heap}
abbrev sPutIn : Stmt := inClass (top 5) 5
theorem sc_Sum_put_in : FnScope ["self", "sums", "pairs", "number", "thing", "weight", "stands_in"] ["self", "sums"] (defScope sPutIn) := ⟨rfl, rfl, rfl, by decide +kernel, rfl, by decide +kernel, by decide +kernel⟩
theorem ok_put_in {f C : Addr} {fd : FuncData} (F : Fun K "put_in" "Sum.put_in" sPutIn f fd) (T : Txt K mg C) (d_times : Mt P w K mg base 4 C "times" ["self", "number"] (spTimes C)) (d_sum : Dn P w K mg base 3 "sum_of" ["pairs", "number"] (spSumOf C)) : FnOk P w K mg base CX0 5 f fd ["self", "sums"] (spPutIn C) := by
  obtain ⟨f_times, fd_times, G_Sum_times, m_times, b_Sum_times⟩ := d_times
  obtain ⟨f_sum, fd_sum, G_sum_of, mg_sum_of, kp_sum_of, b_sum_of⟩ := d_sum
  refine F.ok sc_Sum_put_in (fun vs H Q E h => ?_) (fun cdv A outer s H vs Q E hr h => ?_)
  · obtain ⟨p, d, ts, n, kvs, S, rfl, S0, rd, rl, h3, hf, k⟩ := h
    rfl
  · obtain ⟨p, d, ts, n, kvs, S, rfl, S0, rd, rl, h3, hf, k⟩ := h
    have hu := hu_of hr
    rw [show defBody sPutIn = [_, _, _, _] from rfl]
    refine ⟨_, (pss_cons (ps_set (i := 2) sc_Sum_put_in.nd rfl (Or.inl rfl) (pe_lst pa_nil))
      (pss_cons (ps_set (i := 3) sc_Sum_put_in.nd rfl (Or.inl rfl) (pe_fld (pv 0) rfl))
      (pss_cons (ps_for PassesOwn.never rfl (pi_tup (pe_fld (pv 0) rfl)) (pg_tup rfl (pgs_cons (pg_name (i := 4) sc_Sum_put_in.nd rfl (Or.inl rfl)) (pgs_cons (pg_name (i := 5) sc_Sum_put_in.nd rfl (Or.inl rfl)) pgs_nil))) (pss_one (ps_if (pt_cmp (pc_din hu (pv 4) (pv 1))) (pss_cons (ps_set (i := 6) sc_Sum_put_in.nd rfl (Or.inl rfl) (pe_meth (pe_dget hu (pv 1) (pv 4) (fun _ _ => rfl)) T.cl m_times G_Sum_times (hr.mono (by decide)) b_Sum_times .nil pass0 (pa_cons (pv 5) pa_nil)))
      (pss_cons (ps_expr (pe_bm PySem.F.plainAttrs_list PySem.F.slot_list_extend PySem.F.type_list_extend mt_extendT (pv 2) (pa_cons (pe_fld (pv 6) rfl) pa_nil)))
      (pss_one (ps_set (i := 3) sc_Sum_put_in.nd rfl (Or.inl rfl) (pe_op op_add (pv 3) (pe_fld (pv 6) rfl)))))) (pss_one (ps_expr (pe_bm PySem.F.plainAttrs_list PySem.F.slot_list_append PySem.F.type_list_append mt_append (pv 2) (pa_cons (pe_tup (pa_cons (pv 4) (pa_cons (pv 5) pa_nil))) pa_nil)))))))
      (pss_one (ps_ret (pe_call G_sum_of (hr.mono (by decide)) rfl mg_sum_of kp_sum_of b_sum_of .nil pass0 (pa_cons (pv 2) (pa_cons (pv 3) pa_nil)))))))), ?_⟩
    obtain ⟨dx, t, hp, ht, hz⟩ := id S0
    have two : 2 ≤ sizeLine := Nat.le_of_lt (line 2 (by decide))
    have lz := line 1000 (by decide)
    refine ⟨(by show 0 ≤ sizeLine; exact Nat.zero_le _), fun P hP => ?_⟩
    have s1 : Same H (upd H P (.lst [])) := new hP
    refine ⟨_, rfl, p, C, dx, _, _, rfl, s1 _ _ hp, T.cl, T.nN, sflds_number _ _, ?_⟩
    refine ⟨_, rfl, p, C, dx, _, _, rfl, s1 _ _ hp, T.cl, T.nT, sflds_terms _ _, t, rfl, for_tpT (ht.same s1) (fun i σ H' => ∃ (m : Int) (qs : Ps) (a4 a5 a6 : Option V), σ = [some (.ref p), some (.ref d), some (.ref P), some (.int m), a4, a5, a6] ∧ But P (upd H P (.lst [])) H' ∧ Lp H' P qs ∧ (∀ f, lin qs f = lin (subP S (ts.take i)) f) ∧ qs.length ≤ 3 * i ∧ m = n + subN S (ts.take i)) ⟨n, [], none, none, none, rfl, fun _ _ e _ => e, ⟨[], upd_same, .nil⟩, fun _ => rfl, Nat.le_refl _, (by show n = n + 0; omega)⟩ ?_ ?_ ?_⟩
    · rintro i σ H' ⟨m, qs, a4, a5, a6, rfl, b, L, lq, ll, em⟩ c xs e
      exact b.tups upd_same _ _ e
    · rintro i v pr σ H' hi ⟨c, rfl, hc⟩ ⟨m, qs, a4, a5, a6, rfl, b, L, lq, ll, em⟩
      have hil : i < ts.length := (List.getElem?_eq_some_iff.mp hi).1
      have hsm := (h3.2 pr (List.mem_of_getElem? hi)).w
      have sH : Same H H' := fun b' o e => b b' o (s1 _ _ e) (ne_of_none e hP)
      have rd' : Rd H' d (.dK kvs) := rd.elim (fun z => .inl (sH _ _ z)) fun ⟨o, z⟩ => .inr ⟨o, sH _ _ z⟩
      have rl' : Rl (SumR C H') kvs S := rl.mono fun u q z => SumAt.same z sH
      obtain ⟨vs, eP, rP⟩ := id L
      have vl := prs_len rP
      have ht3 := h3.1
      refine ⟨c, _, rfl, SqT.of hc, rfl, _, _, rfl, _, _, rfl, rfl, ?_⟩
      cases lk : look S pr.1 with
      | none =>
        refine ⟨_, rfl, _, rfl, d, none, rfl, .inl ⟨kvs, Sum.inr pr.1, rd', rfl, (rl'.none lk).symm⟩, _, rfl, iteF ?_⟩
        refine ⟨_, rfl, .inl ⟨rfl, _, SqL.of eP⟩, _, rfl, _, rfl, two, fun q hq => ?_⟩
        have eP1 := new (o := .tup [.str pr.1, .int pr.2]) hq _ _ eP
        refine ⟨P, _, _, rfl, rfl, eP1, (by omega), ?_⟩
        refine ⟨m, qs ++ [pr], _, _, _, rfl, (b.new hq).trans But.upd, ⟨_, upd_same, ?_⟩, fun f => ?_, ?_, ?_⟩
        · have kp : ∀ b' xs, upd H' q (.tup [.str pr.1, .int pr.2]) b' = some (.tup xs) → upd (upd H' q (.tup [.str pr.1, .int pr.2])) P (.lst (vs ++ [.ref q])) b' = some (.tup xs) := fun b' xs e => by
            rw [upd_ne (ne_of e eP1 (by intro w; cases w))]
            exact e
          exact prs_app ((rP.keep fun _ _ z => new hq _ _ z).keep kp) (prs_one ⟨q, rfl, kp _ _ upd_same⟩)
        · have e : subO S pr = [pr] := by unfold subO; rw [lk]
          rw [take_snoc hi, subP_snoc, lin_append, lin_append, lq, e]
        · rw [List.length_append, List.length_singleton]; omega
        · have e : subM S pr = 0 := by unfold subM; rw [lk]
          rw [take_snoc hi, subN_snoc, e]; omega
      | some sq =>
        obtain ⟨u, eu, Su⟩ := rl'.some lk
        have Su : SumAt C H' u sq.1 sq.2 := Su
        have sl : sq.1.length ≤ 3 := hf _ (look_mem lk)
        obtain ⟨du, tu, hu', _⟩ := id Su
        have dg : DGet H' d (.str pr.1) (some (.ref u)) := .inl ⟨kvs, Sum.inr pr.1, rd', rfl, eu.symm⟩
        refine ⟨_, rfl, _, rfl, d, some (.ref u), rfl, dg, _, rfl, iteT ?_⟩
        refine ⟨_, rfl, _, rfl, d, _, rfl, dg, u, du, _, rfl, hu', sflds_no _ _ (by decide +kernel) (by decide +kernel), _, rfl, u, sq.1, sq.2, pr.2, rfl, Su, by omega, hsm, fun r us H2 sm2 g l Sr => ?_⟩
        obtain ⟨dr, tr, er, ⟨vr, etr, rr⟩, _⟩ := id Sr
        have eP2 := sm2 _ _ eP
        have vrl := prs_len rr
        refine ⟨_, rfl, .inl ⟨rfl, _, SqL.of eP2⟩, _, rfl, r, C, dr, _, _, rfl, er, T.cl, T.nT, sflds_terms _ _, P, tr, _, _, rfl, rfl, eP2, SqT.of etr, (by omega), ?_⟩
        refine ⟨_, rfl, _, rfl, r, C, dr, _, _, rfl, (by rw [upd_ne (ne_of er eP2 (by intro w; cases w))]; exact er), T.cl, T.nN, sflds_number _ _, _, _, rfl, rfl, ?_⟩
        have kp : ∀ b' xs, H2 b' = some (.tup xs) → upd H2 P (.lst (vs ++ vr)) b' = some (.tup xs) := fun b' xs e => by
          rw [upd_ne (ne_of e eP2 (by intro w; cases w))]
          exact e
        refine ⟨m + sq.2 * pr.2, qs ++ us, _, _, _, rfl, (b.trans (But.of sm2)).trans But.upd, ⟨_, upd_same, prs_app ((rP.keep fun _ _ z => sm2 _ _ z).keep kp) (rr.keep kp)⟩, fun f => ?_, ?_, ?_⟩
        · have e : subO S pr = sq.1.map fun x => (x.1, pr.2 * x.2) := by unfold subO; rw [lk]
          rw [take_snoc hi, subP_snoc, lin_append, lin_append, lq, e, g.2, lin_smul, lin_lmul, Int.mul_comm]
        · rw [List.length_append]; omega
        · have e : subM S pr = pr.2 * sq.2 := by unfold subM; rw [lk]
          rw [take_snoc hi, subN_snoc, e, em, Int.mul_comm sq.2]; omega
    · rintro σ H' ⟨m, qs, a4, a5, a6, rfl, b, L, lq, ll, em⟩
      rw [List.take_length] at lq em
      have ht3 := h3.1
      have sH : Same H H' := fun b' o e => b b' o (s1 _ _ e) (ne_of_none e hP)
      refine ⟨_, rfl, _, rfl, P, m, qs, rfl, .inl L, by omega, fun r us H2 sm g l Sr => ?_⟩
      refine k r us H2 (sH.trans sm) ⟨g.1, fun f => by rw [g.2, lq]⟩ ?_
      rw [← em]
      exact Sr
end
end Hw
namespace Hw
open PySem L2 PyProof.Rows
section
variable {P : Program} {w : World} {K : PySem.W.Frag} {mg : Str → Option Value} {base : Heap}
abbrev sis_several : Stmt := top 34
theorem sc_is_several : FnScope ["what"] ["what"] (defScope sis_several) := ⟨rfl, rfl, rfl, by decide +kernel, rfl, by decide +kernel, by decide +kernel⟩
theorem ok_is_several {f C : Addr} {fd : FuncData} {n : Nat} (F : Fun K "is_several" "is_several" sis_several f fd) (T : Txt K mg C) (J : TxP K mg)  : FnOk P w K mg base CX0 1 f fd ["what"] spSev := by
  refine F.ok sc_is_several (fun vs H Q E h => ?_) (fun cdv A outer s H vs Q E hr h => ?_)
  · obtain ⟨a, xs, rfl, hs, k⟩ := h
    rfl
  · obtain ⟨a, xs, rfl, hs, k⟩ := h
    have hu := hu_of hr
    rw [show defBody sis_several = [_] from rfl]
    refine ⟨_, (pss_one (ps_ret (pe_callB call_isiS (by rfl) T.isinstance boot_isinstance (pa_cons (pv 0) (pa_cons (pe_tup (pa_cons (pe_bltn (v := .ty "list") rfl T.list boot_list rfl) (pa_cons (pe_bltn (v := .ty "tuple") rfl T.tuple boot_tuple rfl) pa_nil))) pa_nil))))), ?_⟩
    refine ⟨_, rfl, (by show 2 ≤ sizeLine; exact Nat.le_of_lt (line 2 (by decide))), fun t ht => ?_⟩
    exact ⟨a, t, xs, rfl, hs.same (new ht), SqT.of upd_same, J.kTL, k _ (new ht)⟩
end
end Hw
namespace Hw
open PySem L2 PyProof.Rows
section
variable {P : Program} {w : World} {K : PySem.W.Frag} {mg : Str → Option Value} {base : Heap}
abbrev sis_number : Stmt := top 6
theorem sc_is_number : FnScope ["what"] ["what"] (defScope sis_number) := ⟨rfl, rfl, rfl, by decide +kernel, rfl, by decide +kernel, by decide +kernel⟩
theorem ok_is_number {f C : Addr} {fd : FuncData} {n : Nat} (F : Fun K "is_number" "is_number" sis_number f fd) (T : Txt K mg C) (J : TxP K mg)  : FnOk P w K mg base CX0 1 f fd ["what"] spIsNum := by
  refine F.ok sc_is_number (fun vs H Q E h => ?_) (fun cdv A outer s H vs Q E hr h => ?_)
  · obtain ⟨i, rfl, k⟩ := h
    rfl
  · obtain ⟨i, rfl, k⟩ := h
    have hu := hu_of hr
    rw [show defBody sis_number = [_] from rfl]
    refine ⟨_, (pss_one (ps_ret (pe_and (pe_callB (call_isi (c := .ty "int") trivial) (by rfl) T.isinstance boot_isinstance (pa_cons (pv 0) (pa_cons (pe_bltn (v := .ty "int") rfl T.int boot_int rfl) pa_nil))) (pe_one (pe_not (pe_callB (call_isi (c := .ty "bool") trivial) (by rfl) T.isinstance boot_isinstance (pa_cons (pv 0) (pa_cons (pe_bltn (v := .ty "bool") rfl J.bool boot_bool rfl) pa_nil)))))))), ?_⟩
    exact ⟨_, rfl, _, _, _, true, rfl, .int i, rfl, kit_int K, true, rfl, ifT rfl ⟨_, rfl, _, _, _, false, rfl, .int i, rfl, J.kIB, false, rfl, k⟩⟩
end
end Hw
namespace Hw
open PySem L2 PyProof.Rows
section
variable {P : Program} {w : World} {K : PySem.W.Frag} {mg : Str → Option Value} {base : Heap}
abbrev sis_from_one : Stmt := top 31
theorem sc_is_from_one : FnScope ["what"] ["what"] (defScope sis_from_one) := ⟨rfl, rfl, rfl, by decide +kernel, rfl, by decide +kernel, by decide +kernel⟩
theorem ok_is_from_one {f C : Addr} {fd : FuncData} {n : Nat} (F : Fun K "is_from_one" "is_from_one" sis_from_one f fd) (T : Txt K mg C) (J : TxP K mg) (d_is_number : Dn P w K mg base 1 "is_number" ["what"] spIsNum) : FnOk P w K mg base CX0 2 f fd ["what"] spFrom1 := by
  obtain ⟨f_is_number, fd_is_number, G_is_number, mg_is_number, kp_is_number, b_is_number⟩ := d_is_number
  refine F.ok sc_is_from_one (fun vs H Q E h => ?_) (fun cdv A outer s H vs Q E hr h => ?_)
  · obtain ⟨i, rfl, h1, k⟩ := h
    rfl
  · obtain ⟨i, rfl, h1, k⟩ := h
    have hu := hu_of hr
    rw [show defBody sis_from_one = [_] from rfl]
    refine ⟨_, (pss_one (ps_ret (pe_and (pe_call G_is_number (hr.mono (by first | decide | omega)) rfl mg_is_number kp_is_number b_is_number .nil pass0 (pa_cons (pv 0) pa_nil)) (pe_one (pe_cmpR op_ge (pv 0) pe_int (nomark _)))))), ?_⟩
    refine ⟨_, rfl, i, rfl, true, rfl, ifT rfl ⟨_, rfl, _, _, rfl, rfl, ?_⟩⟩
    show Q (V.bl (decide (1 ≤ i))) H
    rw [decide_eq_true h1]
    exact k
end
end Hw
namespace Hw
open PySem L2 PyProof.Rows
section
variable {P : Program} {w : World} {K : PySem.W.Frag} {mg : Str → Option Value} {base : Heap}
abbrev sis_ahead : Stmt := top 32
theorem sc_is_ahead : FnScope ["lines", "what"] ["lines", "what"] (defScope sis_ahead) := ⟨rfl, rfl, rfl, by decide +kernel, rfl, by decide +kernel, by decide +kernel⟩
theorem ok_is_ahead {f C : Addr} {fd : FuncData} {n : Nat} (F : Fun K "is_ahead" "is_ahead" sis_ahead f fd) (T : Txt K mg C) (J : TxP K mg) (d_is_number : Dn P w K mg base 1 "is_number" ["what"] spIsNum) : FnOk P w K mg base CX0 2 f fd ["lines", "what"] spAhd := by
  obtain ⟨f_is_number, fd_is_number, G_is_number, mg_is_number, kp_is_number, b_is_number⟩ := d_is_number
  refine F.ok sc_is_ahead (fun vs H Q E h => ?_) (fun cdv A outer s H vs Q E hr h => ?_)
  · obtain ⟨L, us, k0, rfl, hL, hk, k⟩ := h
    rfl
  · obtain ⟨L, us, k0, rfl, hL, hk, k⟩ := h
    have hu := hu_of hr
    rw [show defBody sis_ahead = [_] from rfl]
    refine ⟨_, (pss_one (ps_ret (pe_and (pe_call G_is_number (hr.mono (by first | decide | omega)) rfl mg_is_number kp_is_number b_is_number .nil pass0 (pa_cons (pv 1) pa_nil)) (pe_one (pe_chain op_le op_lt pe_int (pv 1) (pe_callB call_len_seq (by rfl) T.len PySem.boot_len (pa_cons (pv 0) pa_nil))))))), ?_⟩
    refine ⟨_, rfl, _, rfl, true, rfl, ifT rfl ⟨_, rfl, _, _, rfl, rfl, _, rfl, iteDT (by omega) ⟨_, rfl, L, _, rfl, .inl (SqL.of hL), _, _, rfl, rfl, ?_⟩⟩⟩
    show Q (V.bl (decide ((k0 : Int) < (us.length : Int)))) H
    rw [decide_eq_true (by omega)]
    exact k
end
end Hw
namespace Hw
open PySem L2 PyProof.Rows
section
variable {P : Program} {w : World} {K : PySem.W.Frag} {mg : Str → Option Value} {base : Heap}
abbrev sis_weighed : Stmt := top 30
theorem sc_is_weighed : FnScope ["lines", "pair"] ["lines", "pair"] (defScope sis_weighed) := ⟨rfl, rfl, rfl, by decide +kernel, rfl, by decide +kernel, by decide +kernel⟩
theorem ok_is_weighed {f C : Addr} {fd : FuncData} {n : Nat} (F : Fun K "is_weighed" "is_weighed" sis_weighed f fd) (T : Txt K mg C) (J : TxP K mg) (d_is_several : Dn P w K mg base 1 "is_several" ["what"] spSev) (d_is_from_one : Dn P w K mg base 2 "is_from_one" ["what"] spFrom1) (d_is_ahead : Dn P w K mg base 2 "is_ahead" ["lines", "what"] spAhd) : FnOk P w K mg base CX0 3 f fd ["lines", "pair"] spWeighed := by
  obtain ⟨f_is_several, fd_is_several, G_is_several, mg_is_several, kp_is_several, b_is_several⟩ := d_is_several
  obtain ⟨f_is_from_one, fd_is_from_one, G_is_from_one, mg_is_from_one, kp_is_from_one, b_is_from_one⟩ := d_is_from_one
  obtain ⟨f_is_ahead, fd_is_ahead, G_is_ahead, mg_is_ahead, kp_is_ahead, b_is_ahead⟩ := d_is_ahead
  refine F.ok sc_is_weighed (fun vs H Q E h => ?_) (fun cdv A outer s H vs Q E hr h => ?_)
  · obtain ⟨L, q, us, w0, k0, rfl, hL, hq, hw, hk, k⟩ := h
    rfl
  · obtain ⟨L, q, us, w0, k0, rfl, hL, hq, hw, hk, k⟩ := h
    have hu := hu_of hr
    rw [show defBody sis_weighed = [_] from rfl]
    refine ⟨_, (pss_one (ps_ret (pe_and (pe_call G_is_several (hr.mono (by first | decide | omega)) rfl mg_is_several kp_is_several b_is_several .nil pass0 (pa_cons (pv 1) pa_nil)) (pe_and (pe_cmpR op_eq (pe_callB call_len_seq (by rfl) T.len PySem.boot_len (pa_cons (pv 1) pa_nil)) pe_int (nomark _)) (pe_and (pe_call G_is_from_one (hr.mono (by first | decide | omega)) rfl mg_is_from_one kp_is_from_one b_is_from_one .nil pass0 (pa_cons (pe_ix ix_tup (pv 1) pe_int (fun _ _ => rfl)) pa_nil)) (pe_one (pe_call G_is_ahead (hr.mono (by first | decide | omega)) rfl mg_is_ahead kp_is_ahead b_is_ahead .nil pass0 (pa_cons (pv 0) (pa_cons (pe_ix ix_tup (pv 1) pe_int (fun _ _ => rfl)) pa_nil))))))))), ?_⟩
    refine ⟨_, rfl, q, _, rfl, .inr hq, fun H1 s1 => ⟨true, rfl, ifT rfl ?_⟩⟩
    have hq := s1 _ _ hq
    refine ⟨_, rfl, q, _, rfl, .inr (SqT.of hq), rfl, _, rfl, iteDT rfl ?_⟩
    refine ⟨_, rfl, q, _, 0, _, rfl, rfl, SqT.of hq, rfl, w0, rfl, hw, true, rfl, ifT rfl ?_⟩
    exact ⟨_, rfl, _, rfl, q, _, 1, _, rfl, rfl, SqT.of hq, rfl, L, us, k0, rfl, s1 _ _ hL, hk, k _ s1⟩
end
end Hw
namespace Hw
open PySem L2 PyProof.Rows
section
variable {P : Program} {w : World} {K : PySem.W.Frag} {mg : Str → Option Value} {base : Heap}
abbrev scan_be_divided : Stmt := top 33
theorem sc_can_be_divided : FnScope ["total", "divisor"] ["total", "divisor"] (defScope scan_be_divided) := ⟨rfl, rfl, rfl, by decide +kernel, rfl, by decide +kernel, by decide +kernel⟩
theorem ok_can_be_divided {f C : Addr} {fd : FuncData} {n : Nat} (F : Fun K "can_be_divided" "can_be_divided" scan_be_divided f fd) (T : Txt K mg C) (J : TxP K mg)  : FnOk P w K mg base CX0 1 f fd ["total", "divisor"] (spCanDiv C) := by
  refine F.ok sc_can_be_divided (fun vs H Q E h => ?_) (fun cdv A outer s H vs Q E hr h => ?_)
  · obtain ⟨p, ts, n, d, rfl, S, hd, hm, k⟩ := h
    rfl
  · obtain ⟨p, ts, n, d, rfl, S, hd, hm, k⟩ := h
    have hu := hu_of hr
    rw [show defBody scan_be_divided = [_] from rfl]
    refine ⟨_, (pss_one (ps_ret (pe_callB (call_all rfl) (by rfl) J.all boot_all (pa_cons (pe_comp (compSc_mk ["thing", "weight"] ["divisor"] [1] rfl (by decide +kernel) (by decide +kernel) (by with_unfolding_all rfl) (by exact ⟨rfl, trivial⟩) (by rfl) rfl (by rfl)) rfl (pi_tup (pe_fld (pv 0) rfl)) (fun _ _ _ _ => (pg_tupK (K := K) (n := 2) rfl rfl (pgs_cons (pg_name (i := 0) (show List.Nodup (["thing", "weight", "divisor"] : List Str) by decide +kernel) rfl (Or.inl rfl) (Or.inr rfl)) (pgs_cons (pg_name (i := 1) (show List.Nodup (["thing", "weight", "divisor"] : List Str) by decide +kernel) rfl (Or.inl rfl) (Or.inr rfl)) pgs_nil)))) (fun _ _ _ _ => pts_nil) (fun _ _ _ _ => (pe_cmpR op_eq (pe_op op_mod (pv 1) (pv 2)) pe_int (nomark _)))) pa_nil)))), ?_⟩
    obtain ⟨dx, t, hp, ht, hz⟩ := S
    refine ⟨_, rfl, p, C, dx, _, _, rfl, hp, T.cl, T.nT, sflds_terms _ _, t, rfl, comp_tp ht (fun i ys H' => H' = H ∧ ys = (List.replicate i true).map V.bl) ⟨rfl, rfl⟩ (fun i ys H' q => q.1 ▸ Kp.refl) ?_ ?_⟩
    · rintro i v pr ys H' hi ⟨a, rfl, ha⟩ ⟨rfl, rfl⟩
      have hil : i < ts.length := (List.getElem?_eq_some_iff.mp hi).1
      have e0 : decide (V.int (pr.2 % d) = V.int 0) = true := decide_eq_true (by rw [hm pr (List.mem_of_getElem? hi)])
      refine ⟨a, _, rfl, SqT.of ha, rfl, _, _, rfl, _, _, rfl, rfl, Ext.two, alwT ⟨_, rfl, _, rfl, _, _, rfl, rfl, (by omega), rfl, ?_, rfl, ?_⟩⟩
      · rw [rep_len]; exact line _ (by omega)
      · rw [e0, rep_snoc]
    · rintro ys H' ⟨rfl, rfl⟩ q hq
      refine ⟨q, _, rfl, SqL.of upd_same, ?_⟩
      rw [rep_all]
      exact k _ (new hq)
end
end Hw
namespace Hw
open PySem L2 PyProof.Rows
section
variable {P : Program} {w : World} {K : PySem.W.Frag} {mg : Str → Option Value} {base : Heap}
abbrev sis_term : Stmt := top 36
theorem sc_is_term : FnScope ["pair"] ["pair"] (defScope sis_term) := ⟨rfl, rfl, rfl, by decide +kernel, rfl, by decide +kernel, by decide +kernel⟩
theorem ok_is_term {f C : Addr} {fd : FuncData} {n : Nat} (F : Fun K "is_term" "is_term" sis_term f fd) (T : Txt K mg C) (J : TxP K mg) (d_is_number : Dn P w K mg base 1 "is_number" ["what"] spIsNum) : FnOk P w K mg base CX0 2 f fd ["pair"] spIsTerm := by
  obtain ⟨f_is_number, fd_is_number, G_is_number, mg_is_number, kp_is_number, b_is_number⟩ := d_is_number
  refine F.ok sc_is_term (fun vs H Q E h => ?_) (fun cdv A outer s H vs Q E hr h => ?_)
  · obtain ⟨q, t, w0, rfl, hq, hw, k⟩ := h
    rfl
  · obtain ⟨q, t, w0, rfl, hq, hw, k⟩ := h
    have hu := hu_of hr
    rw [show defBody sis_term = [_] from rfl]
    refine ⟨_, (pss_one (ps_ret (pe_and (pe_cmpR op_eq (pe_callB call_len_seq (by rfl) T.len PySem.boot_len (pa_cons (pv 0) pa_nil)) pe_int (nomark _)) (pe_and (pe_callB (call_isi (c := .ty "str") trivial) (by rfl) T.isinstance boot_isinstance (pa_cons (pe_ix ix_tup (pv 0) pe_int (fun _ _ => rfl)) (pa_cons (pe_bltn (v := .ty "str") rfl T.str boot_str rfl) pa_nil))) (pe_and (pe_call G_is_number (hr.mono (by first | decide | omega)) rfl mg_is_number kp_is_number b_is_number .nil pass0 (pa_cons (pe_ix ix_tup (pv 0) pe_int (fun _ _ => rfl)) pa_nil)) (pe_one (pe_cmpR op_ne (pe_ix ix_tup (pv 0) pe_int (fun _ _ => rfl)) pe_int (nomark _)))))))), ?_⟩
    refine ⟨_, rfl, q, _, rfl, .inr (SqT.of hq), rfl, _, rfl, iteDT rfl ?_⟩
    refine ⟨_, rfl, q, _, 0, _, rfl, rfl, SqT.of hq, rfl, _, _, _, true, rfl, .str t, rfl, kit_str K, true, rfl, ifT rfl ?_⟩
    refine ⟨_, rfl, q, _, 1, _, rfl, rfl, SqT.of hq, rfl, w0, rfl, true, rfl, ifT rfl ?_⟩
    refine ⟨_, rfl, q, _, 1, _, rfl, rfl, SqT.of hq, rfl, rfl, ?_⟩
    rw [decide_eq_false fun z => hw (V.int.inj z)]
    exact k
end
end Hw
namespace Hw
open PySem L2 PyProof.Rows
section
variable {P : Program} {w : World} {K : PySem.W.Frag} {mg : Str → Option Value} {base : Heap}
abbrev sis_sum : Stmt := top 35
theorem sc_is_sum : FnScope ["what", "things"] ["what"] (defScope sis_sum) := ⟨rfl, rfl, rfl, by decide +kernel, rfl, by decide +kernel, by decide +kernel⟩
theorem ok_is_sum {f C : Addr} {fd : FuncData} {n : Nat} (F : Fun K "is_sum" "is_sum" sis_sum f fd) (T : Txt K mg C) (J : TxP K mg) (d_is_number : Dn P w K mg base 1 "is_number" ["what"] spIsNum) (d_is_term : Dn P w K mg base 2 "is_term" ["pair"] spIsTerm) : FnOk P w K mg base CX0 3 f fd ["what"] (spIsSum C) := by
  obtain ⟨f_is_number, fd_is_number, G_is_number, mg_is_number, kp_is_number, b_is_number⟩ := d_is_number
  obtain ⟨f_is_term, fd_is_term, G_is_term, mg_is_term, kp_is_term, b_is_term⟩ := d_is_term
  refine F.ok sc_is_sum (fun vs H Q E h => ?_) (fun cdv A outer s H vs Q E hr h => ?_)
  · obtain ⟨p, ts, n0, rfl, S, cn, hl, k⟩ := h
    rfl
  · obtain ⟨p, ts, n0, rfl, S, cn, hl, k⟩ := h
    have hu := hu_of hr
    rw [show defBody sis_sum = [_, _, _, _] from rfl]
    refine ⟨_, (pss_cons (ps_if (PW.pt (pw_or (pt_not (pt_val (pe_callB (call_isi (c := .ref C) trivial) (by rfl) T.isinstance boot_isinstance (pa_cons (pv 0) (pa_cons (pe_glob (v := .ref C) rfl T.mg_Sum rfl) pa_nil))))) (pw_or1 (pt_not (pt_val (pe_call G_is_number (hr.mono (by first | decide | omega)) rfl mg_is_number kp_is_number b_is_number .nil pass0 (pa_cons (pe_fld (pv 0) rfl) pa_nil))))))) (pss_one (ps_ret pe_bl)) pss_nil)
      (pss_cons (ps_if (pt_not (pt_val (pe_callB (call_all rfl) (by rfl) J.all boot_all (pa_cons (pe_comp (compSc_mk ["pair"] [] [] rfl (by decide +kernel) (by decide +kernel) (by with_unfolding_all rfl) (by exact trivial) (by rfl) rfl (by rfl)) rfl (pi_tup (pe_fld (pv 0) rfl)) (fun _ _ _ _ => (pg_name (i := 0) (show List.Nodup (["pair"] : List Str) by decide +kernel) rfl (Or.inl rfl) (Or.inr rfl))) (fun _ _ _ _ => pts_nil) (fun _ _ _ _ => (pe_call G_is_term (hr.mono (by first | decide | omega)) rfl mg_is_term kp_is_term b_is_term .nil pass0 (pa_cons (pv 0) pa_nil)))) pa_nil)))) (pss_one (ps_ret pe_bl)) pss_nil)
      (pss_cons (ps_setC (i := 1) sc_is_sum.nd rfl (Or.inl rfl) (compSc_mk ["pair"] [] [] rfl (by decide +kernel) (by decide +kernel) (by with_unfolding_all rfl) (by exact trivial) (by rfl) rfl (by rfl)) rfl (pi_tup (pe_fld (pv 0) rfl)) (fun _ _ _ _ => (pg_name (i := 0) (show List.Nodup (["pair"] : List Str) by decide +kernel) rfl (Or.inl rfl) (Or.inr rfl))) (fun _ _ _ _ => pts_nil) (fun _ _ _ _ => (pe_ix (ix_tupK (K := K) rfl) (pv 0) pe_int (fun _ _ => rfl))))
      (pss_one (ps_ret (pe_cmpR (op_eqL 1 (uL hr)) (pv 1) (pe_callB (call_sortedS rfl) (by rfl) T.sorted boot_sorted (pa_cons (pe_callTy (call_setS rfl) (by rfl) J.set PyProof.Rows.boot_set (pa_cons (pv 1) pa_nil)) pa_nil)) (nomark _))))))), ?_⟩
    obtain ⟨dx, t, hp, ht, hz⟩ := S
    refine ⟨_, rfl, _, _, _, true, rfl, T.ins hp, rfl, T.kS, true, rfl, ifF rfl ⟨_, rfl, p, C, dx, _, _, rfl, hp, T.cl, T.nN, sflds_number _ _, n0, rfl, true, rfl, ifF rfl ?_⟩⟩
    refine ⟨_, rfl, p, C, dx, _, _, rfl, hp, T.cl, T.nT, sflds_terms _ _, t, rfl, comp_tp ht (fun i ys H' => H' = H ∧ ys = (List.replicate i true).map V.bl) ⟨rfl, rfl⟩ (fun i ys H' q => q.1 ▸ Kp.refl) ?_ ?_⟩
    · rintro i v pr ys H' hi ⟨a, rfl, ha⟩ ⟨rfl, rfl⟩
      have hil : i < ts.length := (List.getElem?_eq_some_iff.mp hi).1
      refine ⟨Ext.one, alwT ⟨_, rfl, a, pr.1, pr.2, rfl, ha, cn.nz pr (List.mem_of_getElem? hi), ?_, rfl, rep_snoc i⟩⟩
      rw [rep_len]; exact line _ (by omega)
    rintro ys H' ⟨rfl, rfl⟩ q hq
    refine ⟨q, _, rfl, SqL.of upd_same, _, rfl, ifF (by rw [rep_all]; rfl) ?_⟩
    have s1 := new (o := .lst ((List.replicate ts.length true).map V.bl)) hq
    have hp := s1 _ _ hp
    have ht := ht.same s1
    generalize upd H' q (.lst ((List.replicate ts.length true).map V.bl)) = H1 at s1 hp ht ⊢
    refine ⟨_, rfl, p, C, dx, _, _, rfl, hp, T.cl, T.nT, sflds_terms _ _, t, rfl, comp_tp ht (fun i ys H' => H' = H1 ∧ ys = ((keys ts).take i).map V.str) ⟨rfl, rfl⟩ (fun i ys H' q => q.1 ▸ Kp.refl) ?_ ?_⟩
    · rintro i v pr ys H' hi ⟨a, rfl, ha⟩ ⟨rfl, rfl⟩
      have hk : (keys ts)[i]? = some pr.1 := by unfold keys; rw [List.getElem?_map, hi]; rfl
      have hil : i < ts.length := (List.getElem?_eq_some_iff.mp hi).1
      refine ⟨Ext.one, alwT ⟨_, rfl, a, _, 0, _, rfl, rfl, SqT.of ha, rfl, ?_, rfl, ?_⟩⟩
      · rw [List.length_map, List.length_take]
        exact line _ (by omega)
      · rw [take_snoc hk, List.map_append]
        rfl
    rintro ys H' ⟨rfl, rfl⟩ l hl0
    have kl : (keys ts).length = ts.length := by unfold keys; rw [List.length_map]
    rw [List.take_of_length_le (by rw [kl]; exact Nat.le_refl _)]
    have s2 := new (o := .lst ((keys ts).map V.str)) hl0
    refine ⟨_, rfl, _, rfl, l, keys ts, rfl, SqL.of upd_same, (by rw [kl]; omega), fun z hz' => ⟨z, keys ts, rfl, upd_same, fun l2 zs hl2 hm nd h64 so => ?_⟩⟩
    have e : zs = keys ts := rise_same (rise_strict so nd) (keys_up cn) hm
    subst e
    have s3 := new (o := setH P w z (keys ts)) hz'
    have s4 := new (o := .lst ((keys ts).map V.str)) hl2
    refine ⟨l, l2, _, _, rfl, rfl, .inl ⟨SqL.of (s4 _ _ (s3 _ _ upd_same)), SqL.of upd_same⟩, like_flat (flat_strs _), ?_⟩
    exact k _ (((s1.trans s2).trans s3).trans s4)
end
end Hw
namespace Hw
open PySem L2 PyProof.Rows
section
variable {P : Program} {w : World} {K : PySem.W.Frag} {mg : Str → Option Value} {base : Heap}
abbrev sis_never : Stmt := top 27
theorem sc_is_never : FnScope ["total"] ["total"] (defScope sis_never) := ⟨rfl, rfl, rfl, by decide +kernel, rfl, by decide +kernel, by decide +kernel⟩
theorem ok_is_never {f C : Addr} {fd : FuncData} {n : Nat} (F : Fun K "is_never" "is_never" sis_never f fd) (T : Txt K mg C) (J : TxP K mg)  : FnOk P w K mg base CX0 1 f fd ["total"] (spNever C) := by
  refine F.ok sc_is_never (fun vs H Q E h => ?_) (fun cdv A outer s H vs Q E hr h => ?_)
  · obtain ⟨p, ts, n0, rfl, S, k⟩ := h
    rfl
  · obtain ⟨p, ts, n0, rfl, S, k⟩ := h
    have hu := hu_of hr
    rw [show defBody sis_never = [_] from rfl]
    refine ⟨_, (pss_one (ps_ret (pe_and (pe_cmpR op_eq (pe_callB call_len_seq (by rfl) T.len PySem.boot_len (pa_cons (pe_fld (pv 0) rfl) pa_nil)) pe_int (nomark _)) (pe_one (pe_cmpR op_lt (pe_fld (pv 0) rfl) pe_int (nomark _)))))), ?_⟩
    obtain ⟨dx, t, hp, ⟨vs, et, pr⟩, hz⟩ := S
    have lv := prs_len pr
    cases ts with
    | nil =>
      cases pr
      refine ⟨_, rfl, p, C, dx, _, _, rfl, hp, T.cl, T.nT, sflds_terms _ _, t, _, rfl, .inr (SqT.of et), rfl, _, rfl, iteDT rfl ⟨_, rfl, p, C, dx, _, _, rfl, hp, T.cl, T.nN, sflds_number _ _, _, _, rfl, rfl, ?_⟩⟩
      exact k
    | cons x r =>
      refine ⟨_, rfl, p, C, dx, _, _, rfl, hp, T.cl, T.nT, sflds_terms _ _, t, _, rfl, .inr (SqT.of et), rfl, _, rfl, iteDF (fun z => ?_) ?_⟩
      · have := V.int.inj z
        rw [lv] at this
        simp at this
        omega
      · exact k
end
end Hw
namespace Hw
open PySem L2 PyProof.Rows
section
variable {P : Program} {w : World} {K : PySem.W.Frag} {mg : Str → Option Value} {base : Heap}
abbrev sis_split : Stmt := top 28
theorem sc_is_split : FnScope ["line"] ["line"] (defScope sis_split) := ⟨rfl, rfl, rfl, by decide +kernel, rfl, by decide +kernel, by decide +kernel⟩
theorem ok_is_split {f C : Addr} {fd : FuncData} {n : Nat} (F : Fun K "is_split" "is_split" sis_split f fd) (T : Txt K mg C) (J : TxP K mg) (d_is_several : Dn P w K mg base 1 "is_several" ["what"] spSev) (d_is_sum : Dn P w K mg base 3 "is_sum" ["what"] (spIsSum C)) : FnOk P w K mg base CX0 4 f fd ["line"] (spIsSplit C) := by
  obtain ⟨f_is_several, fd_is_several, G_is_several, mg_is_several, kp_is_several, b_is_several⟩ := d_is_several
  obtain ⟨f_is_sum, fd_is_sum, G_is_sum, mg_is_sum, kp_is_sum, b_is_sum⟩ := d_is_sum
  refine F.ok sc_is_split (fun vs H Q E h => ?_) (fun cdv A outer s H vs Q E hr h => ?_)
  · obtain ⟨a, ys, rfl, hs, k⟩ := h
    rfl
  · obtain ⟨a, ys, rfl, hs, k⟩ := h
    have hu := hu_of hr
    rw [show defBody sis_split = [_] from rfl]
    refine ⟨_, (pss_one (ps_ret (pe_and (pe_call G_is_several (hr.mono (by first | decide | omega)) rfl mg_is_several kp_is_several b_is_several .nil pass0 (pa_cons (pv 0) pa_nil)) (pe_and (pe_cmpR op_eq (pe_callB call_len_seq (by rfl) T.len PySem.boot_len (pa_cons (pv 0) pa_nil)) pe_int (nomark _)) (pe_and (pe_cmpR op_eq (pe_ix ix_seq (pv 0) pe_int (fun _ _ => rfl)) pe_str (nomark _)) (pe_one (pe_call G_is_sum (hr.mono (by first | decide | omega)) rfl mg_is_sum kp_is_sum b_is_sum .nil pass0 (pa_cons (pe_ix ix_seq (pv 0) pe_int (fun _ _ => rfl)) pa_nil)))))))), ?_⟩
    refine ⟨_, rfl, a, ys, rfl, hs, fun H1 s1 => ⟨true, rfl, ifT rfl ?_⟩⟩
    have hs := hs.same s1
    rcases k with ⟨h4, k⟩ | ⟨p, x, y, ts, n0, e, S, cn, hl, k⟩
    · refine ⟨_, rfl, a, _, rfl, lenV hs, rfl, _, rfl, iteDF (fun z => ?_) (k _ s1)⟩
      have := V.int.inj z
      omega
    · subst e
      refine ⟨_, rfl, a, _, rfl, lenV hs, rfl, _, rfl, iteDT rfl ?_⟩
      refine ⟨_, rfl, ixV hs rfl ⟨rfl, _, rfl, iteDT rfl ?_⟩⟩
      refine ⟨_, rfl, ixV hs rfl ?_⟩
      exact ⟨p, ts, n0, rfl, S.same s1, cn, hl, fun H2 s2 => k _ (s1.trans s2)⟩
end
end Hw
namespace Hw
open PySem L2 PyProof.Rows
section
variable {P : Program} {w : World} {K : PySem.W.Frag} {mg : Str → Option Value} {base : Heap}
abbrev sis_right : Stmt := top 29
theorem sc_is_right : FnScope ["lines", "line"] ["lines", "line"] (defScope sis_right) := ⟨rfl, rfl, rfl, by decide +kernel, rfl, by decide +kernel, by decide +kernel⟩
theorem ok_is_right {f C : Addr} {fd : FuncData} {n : Nat} (F : Fun K "is_right" "is_right" sis_right f fd) (T : Txt K mg C) (J : TxP K mg) (d_is_several : Dn P w K mg base 1 "is_several" ["what"] spSev) (d_is_weighed : Dn P w K mg base 3 "is_weighed" ["lines", "pair"] spWeighed) (d_is_ahead : Dn P w K mg base 2 "is_ahead" ["lines", "what"] spAhd) (d_is_from_one : Dn P w K mg base 2 "is_from_one" ["what"] spFrom1) (d_can_be_divided : Dn P w K mg base 1 "can_be_divided" ["total", "divisor"] (spCanDiv C)) : FnOk P w K mg base CX0 5 f fd ["lines", "line"] (spIsRight C) := by
  obtain ⟨f_is_several, fd_is_several, G_is_several, mg_is_several, kp_is_several, b_is_several⟩ := d_is_several
  obtain ⟨f_is_weighed, fd_is_weighed, G_is_weighed, mg_is_weighed, kp_is_weighed, b_is_weighed⟩ := d_is_weighed
  obtain ⟨f_is_ahead, fd_is_ahead, G_is_ahead, mg_is_ahead, kp_is_ahead, b_is_ahead⟩ := d_is_ahead
  obtain ⟨f_is_from_one, fd_is_from_one, G_is_from_one, mg_is_from_one, kp_is_from_one, b_is_from_one⟩ := d_is_from_one
  obtain ⟨f_can_be_divided, fd_can_be_divided, G_can_be_divided, mg_can_be_divided, kp_can_be_divided, b_can_be_divided⟩ := d_can_be_divided
  refine F.ok sc_is_right (fun vs H Q E h => ?_) (fun cdv A outer s H vs Q E hr h => ?_)
  · obtain ⟨L, v, us, ss, l, rfl, hL, hS, hv, hr0, k⟩ := h
    rfl
  · obtain ⟨L, v, us, ss, l, rfl, hL, hS, hv, hr0, k⟩ := h
    have hu := hu_of hr
    rw [show defBody sis_right = [_, _, _, _] from rfl]
    refine ⟨_, (pss_cons (ps_if (pt_not (pt_val (pe_call G_is_several (hr.mono (by first | decide | omega)) rfl mg_is_several kp_is_several b_is_several .nil pass0 (pa_cons (pv 1) pa_nil)))) (pss_one (ps_ret pe_bl)) pss_nil)
      (pss_cons (ps_if (PW.pt (pw_and (pt_cmpR op_eq (pe_callB call_len_seq (by rfl) T.len PySem.boot_len (pa_cons (pv 1) pa_nil)) pe_int (nomark _)) (pw_and1 (pt_cmpR op_eq (pe_ix ix_seq (pv 1) pe_int (fun _ _ => rfl)) pe_str (nomark _))))) (pss_one (ps_ret (pe_and (pe_call G_is_several (hr.mono (by first | decide | omega)) rfl mg_is_several kp_is_several b_is_several .nil pass0 (pa_cons (pe_ix ix_seq (pv 1) pe_int (fun _ _ => rfl)) pa_nil)) (pe_and (pe_cmpR op_gt (pe_callB call_len_seq (by rfl) T.len PySem.boot_len (pa_cons (pe_ix ix_seq (pv 1) pe_int (fun _ _ => rfl)) pa_nil)) pe_int (nomark _)) (pe_one (pe_callB (call_all rfl) (by rfl) J.all boot_all (pa_cons (pe_comp (compSc_mk ["pair"] ["lines"] [0] rfl (by decide +kernel) (by decide +kernel) (by with_unfolding_all rfl) (by exact ⟨rfl, trivial⟩) (by rfl) rfl (by rfl)) rfl (pi_tup (pe_ix ix_seq (pv 1) pe_int (fun _ _ => rfl))) (fun _ _ _ _ => (pg_name (i := 0) (show List.Nodup (["pair", "lines"] : List Str) by decide +kernel) rfl (Or.inl rfl) (Or.inr rfl))) (fun _ _ _ _ => pts_nil) (fun _ _ _ _ => (pe_call G_is_weighed (hr.mono (by first | decide | omega)) rfl mg_is_weighed kp_is_weighed b_is_weighed .nil pass0 (pa_cons (pv 1) (pa_cons (pv 0) pa_nil))))) pa_nil))))))) pss_nil)
      (pss_cons (ps_if (PW.pt (pw_and (pt_cmpR op_eq (pe_callB call_len_seq (by rfl) T.len PySem.boot_len (pa_cons (pv 1) pa_nil)) pe_int (nomark _)) (pw_and1 (pt_cmpR op_eq (pe_ix ix_seq (pv 1) pe_int (fun _ _ => rfl)) pe_str (nomark _))))) (pss_one (ps_ret (pe_and (pe_call G_is_ahead (hr.mono (by first | decide | omega)) rfl mg_is_ahead kp_is_ahead b_is_ahead .nil pass0 (pa_cons (pv 0) (pa_cons (pe_ix ix_seq (pv 1) pe_int (fun _ _ => rfl)) pa_nil))) (pe_and (pe_call G_is_from_one (hr.mono (by first | decide | omega)) rfl mg_is_from_one kp_is_from_one b_is_from_one .nil pass0 (pa_cons (pe_ix ix_seq (pv 1) pe_int (fun _ _ => rfl)) pa_nil)) (pe_one (pe_call G_can_be_divided (hr.mono (by first | decide | omega)) rfl mg_can_be_divided kp_can_be_divided b_can_be_divided .nil pass0 (pa_cons (pe_ix ix_list (pv 0) (pe_ix ix_seq (pv 1) pe_int (fun _ _ => rfl)) (fun _ _ => rfl)) (pa_cons (pe_ix ix_seq (pv 1) pe_int (fun _ _ => rfl)) pa_nil)))))))) pss_nil)
      (pss_one (ps_ret pe_bl))))), ?_⟩
    have hl := paired_len hS
    cases l with
    | cut k0 d =>
      obtain ⟨a, rfl, sq⟩ := hv
      obtain ⟨h1, h5, s, es, hm⟩ := hr0
      have hk : k0 < us.length := by rw [hl]; exact (List.getElem?_eq_some_iff.mp es).1
      refine ⟨_, rfl, a, _, rfl, sq, fun H1 s1 => ⟨true, rfl, ifF rfl ?_⟩⟩
      have sq := sq.same s1
      have hL := s1 _ _ hL
      have hS := hS.hard (Hard.of s1)
      obtain ⟨p, s', ep, es', S⟩ := sm_at hS hk
      rw [es] at es'
      cases es'
      refine ⟨_, rfl, a, _, rfl, lenV sq, rfl, _, rfl, iteDF (fun z => absurd (show (3 : Int) = 2 from V.int.inj z) (by decide)) (ifF rfl ?_)⟩
      refine ⟨_, rfl, a, _, rfl, lenV sq, rfl, _, rfl, iteDT rfl ⟨_, rfl, ixV sq rfl ⟨rfl, _, rfl, iteDT rfl ?_⟩⟩⟩
      refine ⟨_, rfl, _, rfl, ixV sq rfl ⟨L, us, k0, rfl, hL, hk, true, rfl, ifT rfl ?_⟩⟩
      refine ⟨_, rfl, ixV sq rfl ⟨d, rfl, h1, true, rfl, ifT rfl ?_⟩⟩
      refine ⟨_, rfl, _, rfl, ixV sq rfl ⟨L, _, _, _, rfl, rfl, SqL.of hL, atI_nat ep, _, rfl, ixV sq rfl ?_⟩⟩
      exact ⟨p, s.1, s.2, d, rfl, S, h1, hm, fun H2 s2 => k _ (s1.trans s2)⟩
    | add ws =>
      obtain ⟨a, t, ps, rfl, sq, et, hp⟩ := hv
      obtain ⟨h1, h5, hw⟩ := hr0
      have pl := paired_len hp
      refine ⟨_, rfl, a, _, rfl, sq, fun H1 s1 => ⟨true, rfl, ifF rfl ?_⟩⟩
      have sq := sq.same s1
      have hL := s1 _ _ hL
      have et := s1 _ _ et
      refine ⟨_, rfl, a, _, rfl, lenV sq, rfl, _, rfl, iteDT rfl ⟨_, rfl, ixV sq rfl ⟨rfl, _, rfl, iteDT rfl ?_⟩⟩⟩
      refine ⟨_, rfl, ixV sq rfl ⟨t, ps, rfl, .inr et, fun H2 s2 => ⟨true, rfl, ifT rfl ?_⟩⟩⟩
      have sq := sq.same s2
      have hL := s2 _ _ hL
      have et := s2 _ _ et
      have s12 := s1.trans s2
      have l0 : 0 < ps.length := by rw [pl]; exact List.length_pos_iff.mpr h1
      refine ⟨_, rfl, ixV sq rfl ⟨t, ps, rfl, .inr (SqT.of et), _, _, rfl, rfl, _, rfl, iteDT (by omega) ?_⟩⟩
      refine ⟨_, rfl, ixV sq rfl ⟨t, rfl, ⟨ps, SqT.of et⟩, comp_tup (xs := ps) (fun i ys H' => Same H2 H' ∧ ys = (List.replicate i true).map V.bl) ⟨Same.refl _, rfl⟩ (fun i ys H' _ q => SqT.of (q.1 _ _ et)) ?_ ?_⟩⟩
      · rintro i v ys H' hi ⟨s3, rfl⟩
        have hil : i < ps.length := (List.getElem?_eq_some_iff.mp hi).1
        obtain ⟨pr, epr, q, rfl, eq⟩ := paired_at hp hi
        obtain ⟨w1, _, w3⟩ := hw pr (List.mem_of_getElem? epr)
        refine ⟨Ext.one, alwT ⟨_, rfl, _, rfl, L, q, us, pr.1, pr.2, rfl, s3 _ _ hL, (s12.trans s3) _ _ eq, w1, (by rw [hl]; exact w3), fun H4 s4 => ⟨?_, s3.trans s4, rep_snoc i⟩⟩⟩
        rw [rep_len]; exact line _ (by omega)
      · rintro ys H' ⟨s3, rfl⟩ q hq
        refine ⟨q, _, rfl, SqL.of upd_same, ?_⟩
        rw [rep_all]
        exact k _ ((s12.trans s3).trans (new hq))
end
end Hw
namespace Hw
open PySem L2 PyProof.Rows
section
variable {P : Program} {w : World} {K : PySem.W.Frag} {mg : Str → Option Value} {base : Heap}
abbrev sturned_terms : Stmt := top 24
theorem sc_turned_terms : FnScope ["terms"] ["terms"] (defScope sturned_terms) := ⟨rfl, rfl, rfl, by decide +kernel, rfl, by decide +kernel, by decide +kernel⟩
theorem ok_turned_terms {f C : Addr} {fd : FuncData} {n : Nat} (F : Fun K "turned_terms" "turned_terms" sturned_terms f fd) (T : Txt K mg C) (J : TxP K mg)  : FnOk P w K mg base CX0 1 f fd ["terms"] spTurnT := by
  refine F.ok sc_turned_terms (fun vs H Q E h => ?_) (fun cdv A outer s H vs Q E hr h => ?_)
  · obtain ⟨t, ts, rfl, ht, hz, k⟩ := h
    rfl
  · obtain ⟨t, ts, rfl, ht, hz, k⟩ := h
    have hu := hu_of hr
    rw [show defBody sturned_terms = [_] from rfl]
    refine ⟨_, (pss_one (ps_ret (pe_callTy call_tuple_of (by rfl) T.tuple boot_tuple (pa_cons (pe_comp (compSc_mk ["thing", "weight"] [] [] rfl (by decide +kernel) (by decide +kernel) (by with_unfolding_all rfl) (by exact trivial) (by rfl) rfl (by rfl)) rfl (pi_tup (pv 0)) (fun _ _ _ _ => (pg_tupK (K := K) (n := 2) rfl rfl (pgs_cons (pg_name (i := 0) (show List.Nodup (["thing", "weight"] : List Str) by decide +kernel) rfl (Or.inl rfl) (Or.inr rfl)) (pgs_cons (pg_name (i := 1) (show List.Nodup (["thing", "weight"] : List Str) by decide +kernel) rfl (Or.inl rfl) (Or.inr rfl)) pgs_nil)))) (fun _ _ _ _ => pts_nil) (fun _ _ _ _ => (pe_tup (pa_cons (pv 0) (pa_cons (pe_un un_neg (pv 1)) pa_nil))))) pa_nil)))), ?_⟩
    refine ⟨_, rfl, t, rfl, comp_tp ht (fun i ys H' => Same H H' ∧ Prs H' ys ((ts.take i).map fun q => (q.1, -q.2))) ⟨Same.refl _, .nil⟩ (fun i ys H' q => Kp.of q.1) ?_ ?_⟩
    · rintro i v pr ys H' hi ⟨b, rfl, hb⟩ ⟨sm, py⟩
      have hil : i < ts.length := (List.getElem?_eq_some_iff.mp hi).1
      refine ⟨b, _, rfl, SqT.of hb, rfl, _, _, rfl, _, _, rfl, rfl, Ext.two, alwT ⟨_, rfl, _, rfl, _, rfl, (by show 2 ≤ sizeLine; exact Nat.le_of_lt (line 2 (by decide))), fun q hq => ⟨?_, Same.new sm hq, ?_⟩⟩⟩
      · rw [prs_len py, List.length_map, List.length_take]
        exact line _ (by omega)
      · rw [take_snoc hi, List.map_append]
        exact prs_app (py.keep fun _ _ z => new hq _ _ z) (prs_one ⟨q, rfl, upd_same⟩)
    rintro ys H' ⟨sm, py⟩ q hq
    rw [List.take_length] at py
    refine ⟨q, _, rfl, .inl ⟨SqL.of upd_same, fun r hr' => ?_⟩⟩
    have s2 := (new (o := .lst ys) hq).trans (new (o := .tup ys) hr')
    exact k r _ (sm.trans s2) ⟨ys, upd_same, py.keep fun _ _ z => s2 _ _ z⟩
end
end Hw
namespace Hw
open PySem L2 PyProof.Rows
section
variable {P : Program} {w : World} {K : PySem.W.Frag} {mg : Str → Option Value} {base : Heap}
abbrev sother_side : Stmt := top 23
theorem sc_other_side : FnScope ["total"] ["total"] (defScope sother_side) := ⟨rfl, rfl, rfl, by decide +kernel, rfl, by decide +kernel, by decide +kernel⟩
theorem ok_other_side {f C : Addr} {fd : FuncData} {n : Nat} (F : Fun K "other_side" "other_side" sother_side f fd) (T : Txt K mg C) (J : TxP K mg) (d_init : Mr P w K mg base 1 C ["self", "terms", "number"] (spInit C)) (d_turned_terms : Dn P w K mg base 1 "turned_terms" ["terms"] spTurnT) : FnOk P w K mg base CX0 3 f fd ["total"] (spOther C) := by
  obtain ⟨f_init, fd_init, G_Sum_init, M_Sum, b_Sum_init⟩ := d_init
  obtain ⟨f_turned_terms, fd_turned_terms, G_turned_terms, mg_turned_terms, kp_turned_terms, b_turned_terms⟩ := d_turned_terms
  refine F.ok sc_other_side (fun vs H Q E h => ?_) (fun cdv A outer s H vs Q E hr h => ?_)
  · obtain ⟨p, s0, rfl, S, k⟩ := h
    rfl
  · obtain ⟨p, s0, rfl, S, k⟩ := h
    have hu := hu_of hr
    rw [show defBody sother_side = [_] from rfl]
    refine ⟨_, (pss_one (ps_ret (pe_make M_Sum G_Sum_init (hr.mono (by first | decide | omega)) rfl T.mg_Sum b_Sum_init .nil pass0 (pa_cons (pe_call G_turned_terms (hr.mono (by first | decide | omega)) rfl mg_turned_terms kp_turned_terms b_turned_terms .nil pass0 (pa_cons (pe_fld (pv 0) rfl) pa_nil)) (pa_cons (pe_op op_sub (pe_un un_neg (pe_fld (pv 0) rfl)) pe_int) pa_nil))))), ?_⟩
    obtain ⟨dx, t, hp, ht, hz⟩ := S
    refine ⟨_, rfl, p, C, dx, _, _, rfl, hp, T.cl, T.nT, sflds_terms _ _, t, s0.1, rfl, ht, hz, fun r H1 s1 tp => ?_⟩
    refine ⟨_, rfl, p, C, dx, _, _, rfl, s1 _ _ hp, T.cl, T.nN, sflds_number _ _, _, rfl, _, _, rfl, rfl, fun x dx2 hx hdx ne => ?_⟩
    have h1 : Same H1 (upd (upd H1 dx2 (.own x)) x (.ins C dx2 [])) := made_same hx hdx
    refine ⟨x, dx2, r, (opp s0).2, (opp s0).1, rfl, upd_same, .inr (tp.same h1), (by show (s0.1.map _).length ≤ 1000; rw [List.length_map]; exact hz), fun H2 but S2 => ⟨rfl, ?_⟩⟩
    exact k x H2 (fun b o z => but b o (h1 _ _ (s1 _ _ z)) (ne_of_none (s1 _ _ z) hx)) S2
end
end Hw
namespace Hw
open PySem L2 PyProof.Rows
section
variable {P : Program} {w : World} {K : PySem.W.Frag} {mg : Str → Option Value} {base : Heap}
abbrev sdivided : Stmt := top 22
theorem sc_divided : FnScope ["total", "divisor"] ["total", "divisor"] (defScope sdivided) := ⟨rfl, rfl, rfl, by decide +kernel, rfl, by decide +kernel, by decide +kernel⟩
theorem ok_divided {f C : Addr} {fd : FuncData} {n : Nat} (F : Fun K "divided" "divided" sdivided f fd) (T : Txt K mg C) (J : TxP K mg) (d_init : Mr P w K mg base 1 C ["self", "terms", "number"] (spInit C)) : FnOk P w K mg base CX0 3 f fd ["total", "divisor"] (spDivided C) := by
  obtain ⟨f_init, fd_init, G_Sum_init, M_Sum, b_Sum_init⟩ := d_init
  refine F.ok sc_divided (fun vs H Q E h => ?_) (fun cdv A outer s H vs Q E hr h => ?_)
  · obtain ⟨p, ts, n0, d, rfl, S, hd, hd5, k⟩ := h
    rfl
  · obtain ⟨p, ts, n0, d, rfl, S, hd, hd5, k⟩ := h
    have hu := hu_of hr
    rw [show defBody sdivided = [_] from rfl]
    refine ⟨_, (pss_one (ps_ret (pe_make M_Sum G_Sum_init (hr.mono (by first | decide | omega)) rfl T.mg_Sum b_Sum_init .nil pass0 (pa_cons (pe_comp (compSc_mk ["thing", "weight"] ["divisor"] [1] rfl (by decide +kernel) (by decide +kernel) (by with_unfolding_all rfl) (by exact ⟨rfl, trivial⟩) (by rfl) rfl (by rfl)) rfl (pi_tup (pe_fld (pv 0) rfl)) (fun _ _ _ _ => (pg_tupK (K := K) (n := 2) rfl rfl (pgs_cons (pg_name (i := 0) (show List.Nodup (["thing", "weight", "divisor"] : List Str) by decide +kernel) rfl (Or.inl rfl) (Or.inr rfl)) (pgs_cons (pg_name (i := 1) (show List.Nodup (["thing", "weight", "divisor"] : List Str) by decide +kernel) rfl (Or.inl rfl) (Or.inr rfl)) pgs_nil)))) (fun _ _ _ _ => pts_nil) (fun _ _ _ _ => (pe_tup (pa_cons (pv 0) (pa_cons (pe_op op_fdiv (pv 1) (pv 2)) pa_nil))))) (pa_cons (pe_op op_fdiv (pe_fld (pv 0) rfl) (pv 1)) pa_nil))))), ?_⟩
    obtain ⟨dx, t, hp, ht, hz⟩ := S
    refine ⟨_, rfl, p, C, dx, _, _, rfl, hp, T.cl, T.nT, sflds_terms _ _, t, rfl, comp_tp ht (fun i ys H' => Same H H' ∧ Prs H' ys ((ts.take i).map fun q => (q.1, q.2 / d))) ⟨Same.refl _, .nil⟩ (fun i ys H' q => Kp.of q.1) ?_ ?_⟩
    · rintro i v pr ys H' hi ⟨b, rfl, hb⟩ ⟨sm, py⟩
      have hil : i < ts.length := (List.getElem?_eq_some_iff.mp hi).1
      refine ⟨b, _, rfl, SqT.of hb, rfl, _, _, rfl, _, _, rfl, rfl, Ext.two, alwT ⟨_, rfl, _, rfl, _, rfl, _, _, rfl, rfl, ⟨by omega, by omega⟩, (by show 2 ≤ sizeLine; exact Nat.le_of_lt (line 2 (by decide))), fun q hq => ⟨?_, Same.new sm hq, ?_⟩⟩⟩
      · rw [prs_len py, List.length_map, List.length_take]
        exact line _ (by omega)
      · rw [take_snoc hi, List.map_append]
        exact prs_app (py.keep fun _ _ z => new hq _ _ z) (prs_one ⟨q, rfl, upd_same⟩)
    rintro ys H' ⟨sm, py⟩ q hq
    rw [List.take_length] at py
    have s1 : Same H (upd H' q (.lst ys)) := Same.new sm hq
    refine ⟨_, rfl, p, C, dx, _, _, rfl, s1 _ _ hp, T.cl, T.nN, sflds_number _ _, _, rfl, _, _, rfl, rfl, ⟨by omega, by omega⟩, fun x dx2 hx hdx ne => ?_⟩
    have h1 : Same (upd H' q (.lst ys)) (upd (upd (upd H' q (.lst ys)) dx2 (.own x)) x (.ins C dx2 [])) := made_same hx hdx
    refine ⟨x, dx2, q, n0 / d, ts.map fun q => (q.1, q.2 / d), rfl, upd_same, .inl ⟨ys, h1 _ _ upd_same, py.keep fun _ _ z => h1 _ _ (new hq _ _ z)⟩, (by rw [List.length_map]; exact hz), fun H2 but S2 => ⟨rfl, ?_⟩⟩
    exact k x H2 (fun b o z => but b o (h1 _ _ (s1 _ _ z)) (ne_of_none (s1 _ _ z) hx)) S2
end
end Hw
namespace Hw
open PySem L2 PyProof.Rows
section
variable {P : Program} {w : World} {K : PySem.W.Frag} {mg : Str → Option Value} {base : Heap}
abbrev sline_of : Stmt := top 21
theorem sc_line_of : FnScope ["lines", "line", "pairs", "number", "often", "place"] ["lines", "line"] (defScope sline_of) := ⟨rfl, rfl, rfl, by decide +kernel, rfl, by decide +kernel, by decide +kernel⟩
theorem ok_line_of {f C : Addr} {fd : FuncData} {n : Nat} (F : Fun K "line_of" "line_of" sline_of f fd) (T : Txt K mg C) (J : TxP K mg) (d_sum_of : Dn P w K mg base 3 "sum_of" ["pairs", "number"] (spSumOf C)) (d_divided : Dn P w K mg base 3 "divided" ["total", "divisor"] (spDivided C)) : FnOk P w K mg base CX0 4 f fd ["lines", "line"] (spLineOf C) := by
  obtain ⟨f_sum_of, fd_sum_of, G_sum_of, mg_sum_of, kp_sum_of, b_sum_of⟩ := d_sum_of
  obtain ⟨f_divided, fd_divided, G_divided, mg_divided, kp_divided, b_divided⟩ := d_divided
  refine F.ok sc_line_of (fun vs H Q E h => ?_) (fun cdv A outer s H vs Q E hr h => ?_)
  · obtain ⟨xs, L, v, us, ss, l, rfl, hL, hS, hx, hg, hv, hr0, k⟩ := h
    rfl
  · obtain ⟨xs, L, v, us, ss, l, rfl, hL, hS, hx, hg, hv, hr0, k⟩ := h
    have hu := hu_of hr
    rw [show defBody sline_of = [_, _, _, _, _] from rfl]
    refine ⟨_, (pss_cons (ps_if (pt_cmpR op_eq (pe_ix ix_seq (pv 1) pe_int (fun _ _ => rfl)) pe_str (nomark _)) (pss_one (ps_ret (pe_call G_divided (hr.mono (by first | decide | omega)) rfl mg_divided kp_divided b_divided .nil pass0 (pa_cons (pe_ix ix_list (pv 0) (pe_ix ix_seq (pv 1) pe_int (fun _ _ => rfl)) (fun _ _ => rfl)) (pa_cons (pe_ix ix_seq (pv 1) pe_int (fun _ _ => rfl)) pa_nil))))) pss_nil)
      (pss_cons (ps_set (i := 2) sc_line_of.nd rfl (Or.inl rfl) (pe_lst pa_nil))
      (pss_cons (ps_set (i := 3) sc_line_of.nd rfl (Or.inl rfl) pe_int)
      (pss_cons (ps_for PassesOwn.never rfl (pi_tup (pe_ix ix_seq (pv 1) pe_int (fun _ _ => rfl))) (pg_tup rfl (pgs_cons (pg_name (i := 4) sc_line_of.nd rfl (Or.inr rfl)) (pgs_cons (pg_name (i := 5) sc_line_of.nd rfl (Or.inl rfl)) pgs_nil))) (pss_cons (ps_expr (pe_bm PySem.F.plainAttrs_list PySem.F.slot_list_extend PySem.F.type_list_extend mt_extend (pv 2) (pa_cons (pe_comp (compSc_mk ["thing", "weight"] ["often"] [4] rfl (by decide +kernel) (by decide +kernel) (by with_unfolding_all rfl) (by exact ⟨rfl, trivial⟩) (by rfl) rfl (by rfl)) rfl (pi_tup (pe_fld (pe_ix ix_list (pv 0) (pv 5) (fun _ _ => rfl)) rfl)) (fun _ _ _ _ => (pg_tupK (K := K) (n := 2) rfl rfl (pgs_cons (pg_name (i := 0) (show List.Nodup (["thing", "weight", "often"] : List Str) by decide +kernel) rfl (Or.inl rfl) (Or.inr rfl)) (pgs_cons (pg_name (i := 1) (show List.Nodup (["thing", "weight", "often"] : List Str) by decide +kernel) rfl (Or.inl rfl) (Or.inr rfl)) pgs_nil)))) (fun _ _ _ _ => pts_nil) (fun _ _ _ _ => (pe_tup (pa_cons (pv 0) (pa_cons (pe_op op_mul (pv 2) (pv 1)) pa_nil))))) pa_nil)))
      (pss_one (ps_set (i := 3) sc_line_of.nd rfl (Or.inl rfl) (pe_op op_add (pv 3) (pe_op op_mul (pv 4) (pe_fld (pe_ix ix_list (pv 0) (pv 5) (fun _ _ => rfl)) rfl)))))))
      (pss_one (ps_ret (pe_call G_sum_of (hr.mono (by first | decide | omega)) rfl mg_sum_of kp_sum_of b_sum_of .nil pass0 (pa_cons (pv 2) (pa_cons (pv 3) pa_nil))))))))), ?_⟩
    have hl := paired_len hS
    cases l with
    | cut k0 d =>
      obtain ⟨a, rfl, sq⟩ := hv
      obtain ⟨h1, h5, s, es, hm⟩ := hr0
      have hk : k0 < us.length := by rw [hl]; exact (List.getElem?_eq_some_iff.mp es).1
      obtain ⟨p, s', ep, es', S⟩ := sm_at hS hk
      rw [es] at es'
      cases es'
      refine ⟨_, rfl, ixV sq rfl ⟨rfl, _, rfl, iteDT rfl ?_⟩⟩
      refine ⟨_, rfl, _, rfl, ixV sq rfl ⟨L, _, _, _, rfl, rfl, SqL.of hL, atI_nat ep, _, rfl, ixV sq rfl ?_⟩⟩
      exact ⟨p, s.1, s.2, d, rfl, S, h1, h5, fun r H1 s1 S1 => k r (s.1.map fun q => (q.1, q.2 / d), s.2 / d) H1 s1 ⟨s, es, rfl⟩ S1⟩
    | add ws =>
      obtain ⟨a, t, ps, rfl, sq, et, hp⟩ := hv
      obtain ⟨h1, h5, hw⟩ := hr0
      have pl := paired_len hp
      refine ⟨_, rfl, ixV sq rfl ⟨rfl, _, rfl, iteDF (by decide +kernel) ?_⟩⟩
      refine ⟨Nat.zero_le _, fun pr hpr => ?_⟩
      have s1 := new (o := .lst []) hpr
      have sq1 := sq.same s1
      refine ⟨_, rfl, ixV sq1 rfl ⟨t, rfl, ⟨ps, SqT.of (s1 _ _ et)⟩, for_tup (xs := ps) (fun i σ H' => ∃ o1 o2, σ = [some (.ref L), some (.ref a), some (.ref pr), some (.int (catN ss (ws.take i))), o1, o2] ∧ But pr H H' ∧ Lp H' pr (catP ss (ws.take i))) ⟨none, none, rfl, But.of s1, ⟨[], upd_same, .nil⟩⟩ ?_ ?_ ?_⟩⟩
      · rintro i σ H' _ ⟨o1, o2, rfl, b1, _⟩
        exact SqT.of (b1 _ _ et (ne_of_none et hpr))
      · rintro i v σ H' hi ⟨o1, o2, rfl, b1, lp⟩
        have hil : i < ps.length := (List.getElem?_eq_some_iff.mp hi).1
        obtain ⟨x, ex, q, rfl, eq⟩ := paired_at hp hi
        obtain ⟨w1, w2, w3⟩ := hw x (List.mem_of_getElem? ex)
        have sN : Same H H' := b1.same hpr
        obtain ⟨p, s, ep, es, S⟩ := sm_at (hS.hard (Hard.of sN)) (k := x.2) (by rw [hl]; exact w3)
        obtain ⟨dx, tt, hp1, htt, hz⟩ := S
        have gs := hg s (List.mem_of_getElem? es)
        have s3 := gs.len hx
        have eD := getD_of es
        have hL1 := sN _ _ hL
        have cl := catP_len hx hg (ws := ws.take i) fun p hp => (hw p (List.mem_of_mem_take hp)).2.2
        rw [List.length_take] at cl
        obtain ⟨vs, evs, rvs⟩ := lp
        refine ⟨q, _, rfl, SqT.of (sN _ _ eq), rfl, _, _, rfl, _, _, rfl, rfl, ?_⟩
        refine ⟨_, rfl, .inl ⟨rfl, _, SqL.of evs⟩, _, rfl, _, rfl, L, _, _, _, rfl, rfl, SqL.of hL1, atI_nat ep, p, C, dx, _, _, rfl, hp1, T.cl, T.nT, sflds_terms _ _, tt, rfl, comp_tp htt (fun j ys H2 => Same H' H2 ∧ Prs H2 ys ((s.1.take j).map fun q => (q.1, x.1 * q.2))) ⟨Same.refl _, .nil⟩ (fun j ys H2 q => Kp.of q.1) ?_ ?_⟩
        · rintro j v pr0 ys H2 hj ⟨b, rfl, hb⟩ ⟨sm, py⟩
          have hjl : j < s.1.length := (List.getElem?_eq_some_iff.mp hj).1
          refine ⟨b, _, rfl, SqT.of hb, rfl, _, _, rfl, _, _, rfl, rfl, Ext.two, alwT ⟨_, rfl, _, rfl, _, rfl, _, _, rfl, rfl, .inl ⟨by omega, by omega⟩, (by show 2 ≤ sizeLine; exact Nat.le_of_lt (line 2 (by decide))), fun q hq => ⟨?_, Same.new sm hq, ?_⟩⟩⟩
          · rw [prs_len py, List.length_map, List.length_take]
            exact line _ (by omega)
          · rw [take_snoc hj, List.map_append]
            exact prs_app (py.keep fun _ _ z => new hq _ _ z) (prs_one ⟨q, rfl, upd_same⟩)
        rintro ys H2 ⟨sm, py⟩ lq hlq
        rw [List.take_length] at py
        have s5 : Same H' (upd H2 lq (.lst ys)) := sm.trans (new hlq)
        have pyl := prs_len py
        rw [List.length_map] at pyl
        have rl := prs_len rvs
        refine ⟨pr, lq, _, _, rfl, rfl, s5 _ _ evs, upd_same, (by rw [rl, pyl]; exact Nat.le_of_lt (line _ (by omega))), ?_⟩
        have npr : ∀ c ys, (upd H2 lq (.lst ys)) c = some (.tup ys) → True := fun _ _ _ => trivial
        have evs5 := s5 _ _ evs
        have py5 := py.keep fun _ _ z => new (o := .lst ys) hlq _ _ z
        have rv5 := rvs.keep fun _ _ z => s5 _ _ z
        have s6 : But pr (upd H2 lq (.lst ys)) (upd (upd H2 lq (.lst ys)) pr (.lst (vs ++ ys))) := But.upd
        have np : ∀ {c : Addr} {o : HO}, H' c = some o → c ≠ pr → (upd (upd H2 lq (.lst ys)) pr (.lst (vs ++ ys))) c = some o := fun z n => s6 _ _ (s5 _ _ z) n
        have npL : L ≠ pr := ne_of_none hL hpr
        have npp : p ≠ pr := fun z => by rw [z, evs] at hp1; cases hp1
        refine ⟨_, rfl, _, rfl, _, rfl, _, rfl, L, _, _, _, rfl, rfl, SqL.of (np hL1 npL), atI_nat ep, p, C, dx, _, _, rfl, np hp1 npp, T.cl, T.nN, sflds_number _ _, _, _, rfl, rfl, .inl ⟨by omega, by omega⟩, _, _, rfl, rfl, ?_⟩
        have et1 : ws.take (i + 1) = ws.take i ++ [x] := take_snoc ex
        refine ⟨some (.int x.1), some (.int x.2), ?_, (b1.trans (But.of s5)).trans s6, ?_⟩
        · rw [et1, catN_snoc, eD]
          rfl
        · rw [et1, catP_snoc, eD]
          exact ⟨_, upd_same, (prs_app rv5 py5).keep (s6.tups evs5)⟩
      · rintro σ H' ⟨o1, o2, rfl, b1, lp⟩
        rw [pl, List.take_length] at lp ⊢
        have cl := catP_len hx hg (ws := ws) fun p hp => (hw p hp).2.2
        exact ⟨_, rfl, _, rfl, pr, catN ss ws, catP ss ws, rfl, .inl lp, by omega, fun r ts H2 s2 g _ S2 => k r (ts, catN ss ws) H2 ((b1.same hpr).trans s2) ⟨g, rfl⟩ S2⟩
end
end Hw
namespace Hw
open PySem L2 PyProof.Rows
section
variable {P : Program} {w : World} {K : PySem.W.Frag} {mg : Str → Option Value} {base : Heap}
abbrev sboth_end_well : Stmt := top 26
theorem sc_both_end_well : FnScope ["lines", "line", "splits"] ["lines", "line", "splits"] (defScope sboth_end_well) := ⟨rfl, rfl, rfl, by decide +kernel, rfl, by decide +kernel, by decide +kernel⟩
theorem ok_both_end_well {f C : Addr} {fd : FuncData} {n : Nat} (F : Fun K "both_end_well" "both_end_well" sboth_end_well f fd) (T : Txt K mg C) (J : TxP K mg) (d_other_side : Dn P w K mg base 3 "other_side" ["total"] (spOther C)) (d_ends_well : Dn P w K mg base (14 * n + 5) "ends_well" ["lines", "paper", "splits"] (spEW C n)) : FnOk P w K mg base CX0 (14 * n + 6) f fd ["lines", "line", "splits"] (spBoth2 C n) := by
  obtain ⟨f_other_side, fd_other_side, G_other_side, mg_other_side, kp_other_side, b_other_side⟩ := d_other_side
  obtain ⟨f_ends_well, fd_ends_well, G_ends_well, mg_ends_well, kp_ends_well, b_ends_well⟩ := d_ends_well
  refine F.ok sc_both_end_well (fun vs H Q E h => ?_) (fun cdv A outer s H vs Q E hr h => ?_)
  · obtain ⟨xs, L, a, p, q1, q2, m, us, ss, s0, rfl, hm, hL, hS, hx, hg, hul, sq, S, gs, k1, k2, k⟩ := h
    rfl
  · obtain ⟨xs, L, a, p, q1, q2, m, us, ss, s0, rfl, hm, hL, hS, hx, hg, hul, sq, S, gs, k1, k2, k⟩ := h
    have hu := hu_of hr
    rw [show defBody sboth_end_well = [_, _] from rfl]
    refine ⟨_, (pss_cons (ps_if (pt_not (pt_val (pe_call G_ends_well (hr.mono (by first | decide | omega)) rfl mg_ends_well kp_ends_well b_ends_well .nil pass0 (pa_cons (pe_op op_cat (pv 0) (pe_lst (pa_cons (pe_ix ix_seq (pv 1) pe_int (fun _ _ => rfl)) pa_nil))) (pa_cons (pe_ix ix_seq (pv 1) pe_int (fun _ _ => rfl)) (pa_cons (pv 2) pa_nil)))))) (pss_one (ps_ret pe_bl)) pss_nil)
      (pss_one (ps_ret (pe_call G_ends_well (hr.mono (by first | decide | omega)) rfl mg_ends_well kp_ends_well b_ends_well .nil pass0 (pa_cons (pe_op op_cat (pv 0) (pe_lst (pa_cons (pe_call G_other_side (hr.mono (by first | decide | omega)) rfl mg_other_side kp_other_side b_other_side .nil pass0 (pa_cons (pe_ix ix_seq (pv 1) pe_int (fun _ _ => rfl)) pa_nil)) pa_nil))) (pa_cons (pe_ix ix_seq (pv 1) pe_int (fun _ _ => rfl)) (pa_cons (pv 2) pa_nil))))))), ?_⟩
    have one : ∀ (z : V), (us ++ [z]).length + 10 * n ≤ 60 := fun z => by rw [List.length_append]; show us.length + 1 + 10 * n ≤ 60; omega
    have go : ∀ {s1 : Sm}, Gm xs s1 → ∀ t ∈ ss ++ [s1], Gm xs t := fun h t ht => by
      rcases List.mem_append.mp ht with z | z
      · exact hg t z
      · rw [List.mem_singleton.mp z]; exact h
    refine ⟨_, rfl, _, rfl, ixV sq rfl ⟨Nat.le_of_lt (line 1 (by decide)), fun l1 h1 => ?_⟩⟩
    have s1 := new (o := .lst [V.ref p]) h1
    refine ⟨L, l1, us, [V.ref p], rfl, rfl, s1 _ _ hL, upd_same, (Nat.le_of_lt (line _ (by have := one (V.ref p); rw [List.length_append] at this; omega))), fun l2 h2 => ?_⟩
    have s2 := s1.trans (new (o := .lst (us ++ [V.ref p])) h2)
    have h20 : H l2 = none := none_of_new h2
    refine ⟨_, rfl, ixV (sq.same s2) rfl ⟨_, rfl, true, xs, l2, q1, m, H, us ++ [V.ref p], ss ++ [s0], rfl, hm, upd_same, paired_snoc (hS.hard (Hard.of s2)) ⟨p, rfl, S.same s2⟩, hx, go gs, one _, h20, s2, k1, fun H3 b3 => ⟨true, rfl, ifF rfl ?_⟩⟩⟩
    have s3 : Same H H3 := fun b o z => b3 _ _ (s2 _ _ z) (ne_of_none z h20)
    refine ⟨_, rfl, _, rfl, ixV (sq.same s3) rfl ⟨p, s0, rfl, S.same s3, fun r H4 s4 S4 => ⟨Nat.le_of_lt (line 1 (by decide)), fun l5 h5 => ?_⟩⟩⟩
    have s5 := (s3.trans s4).trans (new (o := .lst [V.ref r]) h5)
    have S5 := S4.same (new (o := .lst [V.ref r]) h5)
    refine ⟨L, l5, us, [V.ref r], rfl, rfl, s5 _ _ hL, upd_same, (Nat.le_of_lt (line _ (by have := one (V.ref r); rw [List.length_append] at this; omega))), fun l6 h6 => ?_⟩
    have n6 := new (o := .lst (us ++ [V.ref r])) h6
    have s6 := s5.trans n6
    have h60 : H l6 = none := Option.eq_none_iff_forall_not_mem.mpr fun o z => by
      have := s5 _ _ z
      rw [h6] at this
      cases this
    refine ⟨_, rfl, ixV (sq.same s6) rfl ⟨_, rfl, true, xs, l6, q2, m, H, us ++ [V.ref r], ss ++ [opp s0], rfl, hm, upd_same, paired_snoc (hS.hard (Hard.of s6)) ⟨r, rfl, S5.same n6⟩, hx, go (gm_opp gs), one _, h60, s6, k2, fun H7 b7 => ?_⟩⟩
    exact k _ fun b o z => b7 _ _ (s6 _ _ z) (ne_of_none z h60)
end
end Hw
namespace Hw
open PySem L2 PyProof.Rows
section
variable {P : Program} {w : World} {K : PySem.W.Frag} {mg : Str → Option Value} {base : Heap}
abbrev sends_well : Stmt := top 25
theorem sc_ends_well : FnScope ["lines", "paper", "splits", "place", "line"] ["lines", "paper", "splits"] (defScope sends_well) := ⟨rfl, rfl, rfl, by decide +kernel, rfl, by decide +kernel, by decide +kernel⟩
theorem ok_ends_well {f C : Addr} {fd : FuncData} {n : Nat} (F : Fun K "ends_well" "ends_well" sends_well f fd) (T : Txt K mg C) (J : TxP K mg) (d_is_several : Dn P w K mg base 1 "is_several" ["what"] spSev) (d_is_split : Dn P w K mg base 4 "is_split" ["line"] (spIsSplit C)) (d_both_end_well : Dn P w K mg base (14 * n + 6) "both_end_well" ["lines", "line", "splits"] (spBoth2 C n)) (d_is_right : Dn P w K mg base 5 "is_right" ["lines", "line"] (spIsRight C)) (d_line_of : Dn P w K mg base 4 "line_of" ["lines", "line"] (spLineOf C)) (d_is_never : Dn P w K mg base 1 "is_never" ["total"] (spNever C)) : FnOk P w K mg base CX0 (14 * n + 19) f fd ["lines", "paper", "splits"] (spEW C (n + 1)) := by
  obtain ⟨f_is_several, fd_is_several, G_is_several, mg_is_several, kp_is_several, b_is_several⟩ := d_is_several
  obtain ⟨f_is_split, fd_is_split, G_is_split, mg_is_split, kp_is_split, b_is_split⟩ := d_is_split
  obtain ⟨f_both_end_well, fd_both_end_well, G_both_end_well, mg_both_end_well, kp_both_end_well, b_both_end_well⟩ := d_both_end_well
  obtain ⟨f_is_right, fd_is_right, G_is_right, mg_is_right, kp_is_right, b_is_right⟩ := d_is_right
  obtain ⟨f_line_of, fd_line_of, G_line_of, mg_line_of, kp_line_of, b_line_of⟩ := d_line_of
  obtain ⟨f_is_never, fd_is_never, G_is_never, mg_is_never, kp_is_never, b_is_never⟩ := d_is_never
  refine F.ok sc_ends_well (fun vs H Q E h => ?_) (fun cdv A outer s H vs Q E hr h => ?_)
  · obtain ⟨b0, xs, L, pp, m, H0, us, ss, rfl, hm, hL, hS, hx, hg, hul, h0, s0, hpp, k⟩ := h
    rfl
  · obtain ⟨b0, xs, L, pp, m, H0, us, ss, rfl, hm, hL, hS, hx, hg, hul, h0, s0, hpp, k⟩ := h
    have hu := hu_of hr
    rw [show defBody sends_well = [_, _, _] from rfl]
    refine ⟨_, (pss_cons (ps_if (pt_not (pt_val (pe_call G_is_several (hr.mono (by first | decide | omega)) rfl mg_is_several kp_is_several b_is_several .nil pass0 (pa_cons (pv 1) pa_nil)))) (pss_one (ps_ret pe_bl)) pss_nil)
      (pss_cons (ps_for PassesOwn.never rfl (pi_enum rfl J.enumerate boot_enumerate (pa_cons (pv 1) pa_nil)) (pg_tup rfl (pgs_cons (pg_name (i := 3) sc_ends_well.nd rfl (Or.inl rfl)) (pgs_cons (pg_name (i := 4) sc_ends_well.nd rfl (Or.inl rfl)) pgs_nil))) (pss_cons (ps_if (pt_val (pe_call G_is_split (hr.mono (by first | decide | omega)) rfl mg_is_split kp_is_split b_is_split .nil pass0 (pa_cons (pv 4) pa_nil))) (pss_one (ps_ret (pe_and (pe_cmpR op_eq (pv 3) (pe_op op_sub (pe_callB call_len_seq (by rfl) T.len PySem.boot_len (pa_cons (pv 1) pa_nil)) pe_int) (nomark _)) (pe_and (pe_cmpR op_gt (pv 2) pe_int (nomark _)) (pe_one (pe_call G_both_end_well (hr.mono (by first | decide | omega)) rfl mg_both_end_well kp_both_end_well b_both_end_well .nil pass0 (pa_cons (pv 0) (pa_cons (pv 4) (pa_cons (pe_op op_sub (pv 2) pe_int) pa_nil))))))))) pss_nil)
      (pss_cons (ps_if (pt_not (pt_val (pe_call G_is_right (hr.mono (by first | decide | omega)) rfl mg_is_right kp_is_right b_is_right .nil pass0 (pa_cons (pv 0) (pa_cons (pv 4) pa_nil))))) (pss_one (ps_ret pe_bl)) pss_nil)
      (pss_one (ps_expr (pe_bm PySem.F.plainAttrs_list PySem.F.slot_list_append PySem.F.type_list_append mt_append (pv 0) (pa_cons (pe_call G_line_of (hr.mono (by first | decide | omega)) rfl mg_line_of kp_line_of b_line_of .nil pass0 (pa_cons (pv 0) (pa_cons (pv 4) pa_nil))) pa_nil)))))))
      (pss_one (ps_ret (pe_and (pe_cmpR op_gt (pe_callB call_len_seq (by rfl) T.len PySem.boot_len (pa_cons (pv 0) pa_nil)) pe_int (nomark _)) (pe_one (pe_call G_is_never (hr.mono (by first | decide | omega)) rfl mg_is_never kp_is_never b_is_never .nil pass0 (pa_cons (pe_ix ix_list (pv 0) (pe_un un_neg pe_int) (fun _ _ => rfl)) pa_nil)))))))), ?_⟩
    obtain ⟨ls0, ls, vs, sqp, hls, l8, hpp⟩ := hpp
    have sqH := sqp.same s0
    have npL : pp ≠ L := fun z => by
      rcases sqp with q | q <;> rw [z, h0] at q <;> cases q
    refine ⟨_, rfl, pp, vs, rfl, sqH, fun H1 s1 => ⟨true, rfl, ifF rfl ?_⟩⟩
    have lls := paired_len hls
    have lus := paired_len hS
    have stay : ∀ (i : Nat) (σ : L2.St) (H' : Hp), But L H1 H' → ∀ o, H1 pp = some o → H' pp = some o := fun i σ H' b o z => b _ _ z npL
    have key : ∀ {F : List Sm → Prop}, Ok ls ss F → ∃ F' : List Sm → Prop, F' = F ∧ Ok ls ss F' := fun h => ⟨_, rfl, h⟩
    obtain ⟨FF, hok, hend⟩ : ∃ FF : List Sm → Prop, Ok ls ss FF ∧ ((vs = ls0 ∧ ∀ z, FF z → Neg b0 z) ∨ b0 = true ∧ ∃ a p q1 q2 t, vs = ls0 ++ [V.ref a] ∧ SqV H0 a [.str "split", .ref p, .ref q1, .ref q2] ∧ SumAt C H0 p t.1 t.2 ∧ Gm xs t ∧ ∀ z, FF z → PapAt C xs true n H0 q1 (z ++ [t]) ∧ PapAt C xs true n H0 q2 (z ++ [opp t])) := by
      rcases hpp with ⟨e, o⟩ | ⟨eb, a, p, q1, q2, t, e, h1, h2, h3, o⟩
      · exact ⟨_, o, .inl ⟨e, fun _ z => z⟩⟩
      · exact ⟨_, o, .inr ⟨eb, a, p, q1, q2, t, e, h1, h2, h3, fun _ z => z⟩⟩
    have vls : ls.length ≤ vs.length ∧ vs.length ≤ ls.length + 1 := by
      rcases hend with ⟨e, _⟩ | ⟨_, _, _, _, _, _, e, _⟩
      · rw [e]; omega
      · rw [e, List.length_append]; simp; omega
    refine ⟨_, rfl, pp, rfl, for_enum (sqH.same s1) (fun i σ H' => ∃ (o1 o2 : Option V) (us' : List V) (ss' : List Sm), σ = [some (.ref L), some (.ref pp), some (.int m), o1, o2] ∧ But L H1 H' ∧ H' L = some (.lst us') ∧ Sms C H' us' ss' ∧ (∀ t ∈ ss', Gm xs t) ∧ us'.length ≤ us.length + i ∧ i ≤ ls.length ∧ Ok (ls.drop i) ss' FF) ⟨none, none, us, ss, rfl, fun _ _ z _ => z, s1 _ _ hL, hS.hard (Hard.of s1), hg, by omega, Nat.zero_le _, hok⟩ (fun i σ H' q => stay i σ H' (let ⟨_, _, _, _, _, b, _⟩ := q; b)) ?_ ?_⟩
    · rintro i x t σ H' hi ht ⟨o1, o2, us', ss', rfl, b1, hL1, hS1, hg1, hl1, il, ok1⟩
      have n1 := new (o := .tup [.int i, x]) ht
      have sA : Same H0 (upd H' t (.tup [.int i, x])) := fun b o z => n1 _ _ (b1 _ _ (s1 _ _ (s0 _ _ z)) fun q => by rw [q, h0] at z; cases z)
      have bA : But L H (upd H' t (.tup [.int i, x])) := ((But.of s1).trans b1).trans (But.of n1)
      have hL1 := n1 _ _ hL1
      have hS1 := hS1.hard (Hard.of n1)
      have ett : (upd H' t (.tup [.int i, x])) t = some (.tup [.int i, x]) := upd_same
      have bA1 : But L H1 (upd H' t (.tup [.int i, x])) := b1.trans (But.of n1)
      generalize upd H' t (.tup [.int i, x]) = H2 at n1 sA bA bA1 hL1 hS1 ett ⊢
      refine ⟨t, _, rfl, SqT.of ett, rfl, _, _, rfl, _, _, rfl, rfl, ?_⟩
      by_cases hc : i < ls.length
      · have hx0 : ls0[i]? = some x := by
          rcases hend with ⟨e, _⟩ | ⟨_, _, _, _, _, _, e, _⟩
          · rw [← e]; exact hi
          · rw [e, List.getElem?_append_left (by omega)] at hi; exact hi
        obtain ⟨l, el, hln⟩ := paired_at hls hx0
        have hdr : ls.drop i = l :: ls.drop (i + 1) := by
          rw [List.drop_eq_getElem_cons hc]
          rw [List.getElem?_eq_getElem hc] at el
          rw [Option.some.inj el]
        rw [hdr] at ok1
        obtain ⟨rt, ok1⟩ := ok1
        have lnA := hln.same sA
        obtain ⟨a, ys, rfl, sqa, y4⟩ : ∃ a ys, x = .ref a ∧ SqV H2 a ys ∧ ys.length ≠ 4 := by
          cases l with
          | cut k0 d => obtain ⟨a, e, q⟩ := lnA; exact ⟨a, _, e, q, by simp⟩
          | add ws => obtain ⟨a, t, ps, e, q, _⟩ := lnA; exact ⟨a, _, e, q, by simp⟩
        refine ⟨_, rfl, a, ys, rfl, sqa, .inl ⟨y4, fun H3 s3 => ⟨_, rfl, ifF rfl ?_⟩⟩⟩
        refine ⟨_, rfl, _, rfl, L, _, us', ss', l, rfl, s3 _ _ hL1, hS1.hard (Hard.of s3), lnA.same s3, rt, fun H4 s4 => ⟨_, rfl, ifF rfl ?_⟩⟩
        have s34 := s3.trans s4
        refine ⟨_, rfl, .inl ⟨rfl, _, SqL.of (s34 _ _ hL1)⟩, _, rfl, _, rfl, xs, L, _, us', ss', l, rfl, s34 _ _ hL1, hS1.hard (Hard.of s34), hx, hg1, lnA.same s34, rt, fun r sm H5 s5 hIs S5 => ?_⟩
        have s35 := s34.trans s5
        have hL5 := s35 _ _ hL1
        refine ⟨L, _, _, rfl, rfl, hL5, line _ (by omega), ?_⟩
        have h5 : Hard H5 (upd H5 L (.lst (us' ++ [V.ref r]))) := hard_upd hL5
        refine ⟨_, _, us' ++ [V.ref r], ss' ++ [sm], rfl, (bA1.trans (But.of s35)).trans But.upd, upd_same, paired_snoc ((hS1.hard (Hard.of s35)).hard h5) ⟨r, rfl, S5.hard h5⟩, fun t ht => ?_, (by rw [List.length_append]; show us'.length + 1 ≤ _; omega), hc, ok1 sm hIs⟩
        rcases List.mem_append.mp ht with z | z
        · exact hg1 t z
        · rw [List.mem_singleton.mp z]; exact is_gm hg1 rt hIs
      · have hie : i = ls.length := by omega
        have hiv : i < vs.length := (List.getElem?_eq_some_iff.mp hi).1
        rcases hend with ⟨e, _⟩ | ⟨eb, a, p, q1, q2, t0, e, sq4, Sp, gt, hF⟩
        · rw [e] at hiv; omega
        have hxa : x = .ref a := by
          rw [e, List.getElem?_append_right (by omega), show i - ls0.length = 0 by omega] at hi
          exact (Option.some.inj hi).symm
        subst hxa
        subst eb
        have gl := gt.len hx
        refine ⟨_, rfl, a, _, rfl, sq4.same sA, .inr ⟨p, _, _, t0.1, t0.2, rfl, Sp.same sA, gt.1, gl, fun H3 s3 => ⟨_, rfl, ifT rfl ?_⟩⟩⟩
        have sqp3 : SqV H3 pp vs := sqp.same (sA.trans s3)
        have evl : (vs.length : Int) - 1 = (i : Int) := by
          rw [e, List.length_append]; simp; omega
        refine ⟨_, rfl, _, rfl, pp, _, rfl, lenV sqp3, _, _, rfl, rfl, rfl, _, rfl, iteDT (by show V.int (i : Int) = V.int ((vs.length : Int) - 1); rw [evl]) ?_⟩
        have ok2 : FF ss' := by
          rw [List.drop_of_length_le (by omega)] at ok1
          exact ok1
        obtain ⟨pa, pb⟩ := hF _ ok2
        cases n with
        | zero => exact pa.elim
        | succ n =>
          refine ⟨_, rfl, _, _, rfl, rfl, _, rfl, iteDT (by show (0 : Int) < m; omega) ?_⟩
          have s03 := sA.trans s3
          refine ⟨_, rfl, _, rfl, _, rfl, _, _, rfl, rfl, xs, L, a, p, q1, q2, m - 1, us', ss', t0, rfl, (by show ((n + 1 : Nat) : Int) ≤ m - 1 + 1; omega), s3 _ _ hL1, hS1.hard (Hard.of s3), hx, hg1, ?_, sq4.same s03, Sp.same s03, gt, pa.same s03, pb.same s03, fun H4 s4 => ?_⟩
          · omega
          · exact k _ (bA.trans (But.of (s3.trans s4)))
    · rintro σ H' ⟨o1, o2, us', ss', rfl, b1, hL1, hS1, hg1, hl1, il, ok1⟩
      obtain ⟨e, hF⟩ : vs = ls0 ∧ ∀ z, FF z → Neg b0 z := by
        rcases hend with h | ⟨_, a, p, q1, q2, t0, e, _⟩
        · exact h
        · rw [e, List.length_append] at il
          simp at il
          omega
      have ok2 : FF ss' := by
        rw [List.drop_of_length_le (by omega)] at ok1
        exact ok1
      obtain ⟨nn, egl, hneg⟩ := hF _ ok2
      have lss := paired_len hS1
      have pos : 0 < us'.length := by
        rw [lss]
        cases ss' with
        | nil => cases egl
        | cons _ _ => exact Nat.succ_pos _
      obtain ⟨p, s', ep, es, S⟩ := sm_at hS1 (k := us'.length - 1) (by omega)
      have es2 : s' = ([], nn) := by
        rw [List.getLast?_eq_getElem?, ← lss, es] at egl
        exact Option.some.inj egl
      subst es2
      refine ⟨_, rfl, L, _, rfl, .inl (SqL.of hL1), _, _, rfl, rfl, _, rfl, iteDT (by show (0 : Int) < (us'.length : Int); omega) ?_⟩
      refine ⟨_, rfl, _, rfl, L, _, _, _, rfl, rfl, SqL.of hL1, atI_m1 pos ep, p, [], nn, rfl, S, ?_⟩
      show Q (V.bl (decide (nn < 0))) _
      rw [hneg]
      exact k _ ((But.of s1).trans b1)
end
end Hw
namespace Hw
open PySem L2 PyProof.Rows
section
variable {P : Program} {w : World} {K : PySem.W.Frag} {mg : Str → Option Value} {base : Heap}
abbrev srefutes : Stmt := top 20
theorem sc_refutes : FnScope ["case", "paper"] ["case", "paper"] (defScope srefutes) := ⟨rfl, rfl, rfl, by decide +kernel, rfl, by decide +kernel, by decide +kernel⟩
theorem ok_refutes {f C : Addr} {fd : FuncData} {n : Nat} (F : Fun K "refutes" "refutes" srefutes f fd) (T : Txt K mg C) (J : TxP K mg) (d_is_several : Dn P w K mg base 1 "is_several" ["what"] spSev) (d_is_sum : Dn P w K mg base 3 "is_sum" ["what"] (spIsSum C)) (d_ends_well : Dn P w K mg base 33 "ends_well" ["lines", "paper", "splits"] (spEW C 2)) : FnOk P w K mg base CX0 36 f fd ["case", "paper"] (spRefutes C) := by
  obtain ⟨f_is_several, fd_is_several, G_is_several, mg_is_several, kp_is_several, b_is_several⟩ := d_is_several
  obtain ⟨f_is_sum, fd_is_sum, G_is_sum, mg_is_sum, kp_is_sum, b_is_sum⟩ := d_is_sum
  obtain ⟨f_ends_well, fd_ends_well, G_ends_well, mg_ends_well, kp_ends_well, b_ends_well⟩ := d_ends_well
  obtain ⟨tMS, mgMS⟩ := J.most
  refine F.ok sc_refutes (fun vs H Q E h => ?_) (fun cdv A outer s H vs Q E hr h => ?_)
  · obtain ⟨b0, xs, c, pp, us, ss, rfl, sq, hS, hx, hg, hl, hp, k⟩ := h
    rfl
  · obtain ⟨b0, xs, c, pp, us, ss, rfl, sq, hS, hx, hg, hl, hp, k⟩ := h
    have hu := hu_of hr
    rw [show defBody srefutes = [_, _] from rfl]
    refine ⟨_, (pss_cons (ps_if (PW.pt (pw_or (pt_not (pt_val (pe_call G_is_several (hr.mono (by first | decide | omega)) rfl mg_is_several kp_is_several b_is_several .nil pass0 (pa_cons (pv 0) pa_nil)))) (pw_or1 (pt_not (pt_val (pe_callB (call_all rfl) (by rfl) J.all boot_all (pa_cons (pe_comp (compSc_mk ["total"] [] [] rfl (by decide +kernel) (by decide +kernel) (by with_unfolding_all rfl) (by exact trivial) (by rfl) rfl (by rfl)) rfl (pi_seq (pv 0)) (fun _ _ _ _ => (pg_name (i := 0) (show List.Nodup (["total"] : List Str) by decide +kernel) rfl (Or.inl rfl) (Or.inr rfl))) (fun _ _ _ _ => pts_nil) (fun _ _ _ _ => (pe_call G_is_sum (hr.mono (by first | decide | omega)) rfl mg_is_sum kp_is_sum b_is_sum .nil pass0 (pa_cons (pv 0) pa_nil)))) pa_nil))))))) (pss_one (ps_ret pe_bl)) pss_nil)
      (pss_one (ps_ret (pe_call G_ends_well (hr.mono (by first | decide | omega)) rfl mg_ends_well kp_ends_well b_ends_well .nil pass0 (pa_cons (pe_callTy call_list_of (by rfl) T.list boot_list (pa_cons (pv 0) pa_nil)) (pa_cons (pv 1) (pa_cons (pe_glob (v := .int 20) rfl mgMS ⟨_, rfl⟩) pa_nil))))))), ?_⟩
    have lus := paired_len hS
    refine ⟨_, rfl, c, us, rfl, sq, fun H1 s1 => ⟨true, rfl, ifF rfl ?_⟩⟩
    have sq1 := sq.same s1
    refine ⟨_, rfl, c, rfl, comp_sqV sq1 (fun i ys H' => Same H1 H' ∧ ys = (List.replicate i true).map V.bl) ⟨Same.refl _, rfl⟩ (fun i ys H' q o z => q.1 _ _ z) ?_ ?_⟩
    · rintro i v ys H' hi ⟨s2, rfl⟩
      obtain ⟨sm, es, p, rfl, S⟩ := paired_at hS hi
      have gs := hg sm (List.mem_of_getElem? es)
      have hil : i < us.length := (List.getElem?_eq_some_iff.mp hi).1
      refine ⟨Ext.one, alwT ⟨_, rfl, p, sm.1, sm.2, rfl, S.same (s1.trans s2), gs.1, gs.len hx, fun H3 s3 => ⟨?_, s2.trans s3, rep_snoc i⟩⟩⟩
      rw [rep_len]; exact line _ (by omega)
    rintro ys H' ⟨s2, rfl⟩ q hq
    refine ⟨q, _, rfl, SqL.of upd_same, _, rfl, ifF (by rw [rep_all]; rfl) ?_⟩
    have s3 := (s1.trans s2).trans (new (o := .lst ((List.replicate us.length true).map V.bl)) hq)
    refine ⟨_, rfl, c, us, rfl, lenV (sq.same s3), fun L hL => ?_⟩
    have s4 := s3.trans (new (o := .lst us) hL)
    have hL0 : H L = none := Option.eq_none_iff_forall_not_mem.mpr fun o z => by
      have := s3 _ _ z
      rw [hL] at this
      cases this
    refine ⟨_, rfl, b0, xs, L, pp, 20, H, us, ss, rfl, (by decide), upd_same, hS.hard (Hard.of s4), hx, hg, by omega, hL0, s4, hp, fun H5 b5 => ?_⟩
    exact k _ fun b o z => b5 _ _ (s4 _ _ z) (ne_of_none z hL0)
end
end Hw
namespace Hw
open PySem L2 PyProof.Rows
section
variable {P : Program} {w : World} {K : PySem.W.Frag} {mg : Str → Option Value} {base : Heap}
abbrev sl_value : Stmt := top 57
theorem sc_l_value : FnScope ["_law_total", "_law_numbers"] ["_law_total", "_law_numbers"] (defScope sl_value) := ⟨rfl, rfl, rfl, by decide +kernel, rfl, by decide +kernel, by decide +kernel⟩
theorem ok_l_value {f : Addr} {fd : FuncData} {n : Nat} (F : Fun K "_law_value" "_law_value" sl_value f fd) {Z : Cz} {Db : Addr} (T : Txt K mg Z.s) (J : TxP K mg) (U : Tx4 K mg Z Db)  : FnOk P w K mg base CX0 1 f fd ["_law_total", "_law_numbers"] (spLValC Z.s) := by
  refine F.ok sc_l_value (fun vs H Q E h => ?_) (fun cdv A outer s H vs Q E hr h => ?_)
  · obtain ⟨p, b, s, ns, rfl, S, gm, hb, l6, sml, k⟩ := h
    rfl
  · obtain ⟨p, b, s, ns, rfl, S, gm, hb, l6, sml, k⟩ := h
    have hu := hu_of hr
    rw [show defBody sl_value = [_] from rfl]
    refine ⟨_, (pss_one (ps_ret (pe_op op_add (pe_fld (pv 0) rfl) (pe_callB (call_sum rfl) (by rfl) T.sum boot_sum (pa_cons (pe_comp (compSc_mk ["_law_thing", "_law_times"] ["_law_numbers"] [1] rfl (by decide +kernel) (by decide +kernel) (by with_unfolding_all rfl) (by exact ⟨rfl, trivial⟩) (by rfl) rfl (by rfl)) rfl (pi_tup (pe_fld (pv 0) rfl)) (fun _ _ _ _ => (pg_tupK (K := K) (n := 2) rfl rfl (pgs_cons (pg_name (i := 0) (show List.Nodup (["_law_thing", "_law_times", "_law_numbers"] : List Str) by decide +kernel) rfl (Or.inl rfl) (Or.inr rfl)) (pgs_cons (pg_name (i := 1) (show List.Nodup (["_law_thing", "_law_times", "_law_numbers"] : List Str) by decide +kernel) rfl (Or.inl rfl) (Or.inr rfl)) pgs_nil)))) (fun _ _ _ _ => pts_nil) (fun _ _ _ _ => (pe_op op_mul (pv 1) (pe_ix (ix_listK (K := K) rfl) (pv 2) (pe_callTy call_intD (by rfl) T.int boot_int (pa_cons (pe_slice sl_str (pv 0) (po_some pe_int) po_none) pa_nil)) (fun _ _ => rfl))))) pa_nil))))), ?_⟩
    obtain ⟨ts, n⟩ := s
    have gl : ts.length ≤ 6 := by
      have := gm.len (by rw [xsN_len]; exact l6)
      exact this
    obtain ⟨dx, t, hp, ht, hz⟩ := S
    refine ⟨_, rfl, p, Z.s, dx, _, _, rfl, hp, T.cl, T.nN, sflds_number _ _, _, rfl, p, Z.s, dx, _, _, rfl, hp, T.cl, T.nT, sflds_terms _ _, t, rfl, comp_tp ht (fun i ys H' => H' = H ∧ ys = ((ts.take i).map fun q => q.2 * nf ns q.1).map V.int) ⟨rfl, rfl⟩ (fun i ys H' q => q.1 ▸ Kp.refl) ?_ ?_⟩
    · rintro i v pr ys H' hi ⟨a, rfl, ha⟩ ⟨rfl, rfl⟩
      have hil : i < ts.length := (List.getElem?_eq_some_iff.mp hi).1
      have hm : pr.1 ∈ xsN ns.length := gm.2 _ (List.mem_map.mpr ⟨pr, List.mem_of_getElem? hi, rfl⟩)
      obtain ⟨j, hj, ej⟩ := List.mem_map.mp hm
      have hj := List.mem_range.mp hj
      have j6 : j < 6 := by omega
      obtain ⟨x0, w0⟩ := pr
      have ej : uk j = x0 := ej
      subst ej
      have eg : ns[j]? = some (nf ns (uk j)) := by rw [nf_uk j6, List.getD_eq_getElem?_getD, List.getElem?_eq_getElem hj]; rfl
      have egi : atI (ns.map V.int) (j : Int) = some (V.int (nf ns (uk j))) := atI_nat (by rw [List.getElem?_map, eg]; rfl)
      have uz : (uk j).length ≤ sizeLine := by
        have : j = 0 ∨ j = 1 ∨ j = 2 ∨ j = 3 ∨ j = 4 ∨ j = 5 := by omega
        rw [sizeLine_eq]
        rcases this with e | e | e | e | e | e <;> subst e <;> decide +kernel
      refine ⟨a, _, rfl, SqT.of ha, rfl, _, _, rfl, _, _, rfl, rfl, Ext.two, alwT ⟨_, rfl, _, rfl, _, rfl, _, rfl, _, rfl, uz, j, j6, by rw [uk_cut j6], b, _, _, _, rfl, rfl, SqL.of hb, egi, _, _, rfl, rfl, .inr (sml _ (List.mem_of_getElem? eg)).w, ?_, rfl, ?_⟩⟩
      · rw [List.length_map, List.length_map, List.length_take]
        exact line _ (by omega)
      · rw [take_snoc hi, List.map_append, List.map_append]
        rfl
    · rintro ys H' ⟨rfl, rfl⟩ q hq
      refine ⟨q, _, rfl, SqL.of upd_same, _, _, rfl, rfl, ?_⟩
      rw [List.take_length, lin_sum]
      exact k _ (new hq)
end
end Hw
namespace Hw
open PySem L2 PyProof.Rows
section
variable {P : Program} {w : World} {K : PySem.W.Frag} {mg : Str → Option Value} {base : Heap}
abbrev slaw : Stmt := top 58
theorem sc_law : FnScope ["_law_script", "_law_draw", "_law_names_here", "_law_rows", "_law_steps", "_law_times", "_law_number", "_law_enough", "_law_due", "_law_debt", "_law_cases", "_law_weights_here", "_law_paper", "_law_numbers", "_law_things", "_law_turn", "_law_less"] ["_law_script"] (defScope slaw) := ⟨rfl, rfl, rfl, by decide +kernel, rfl, by decide +kernel, by decide +kernel⟩
theorem ok_law {f : Addr} {fd : FuncData} {n : Nat} (F : Fun K "law" "law" slaw f fd) {Z : Cz} {Db : Addr} (T : Txt K mg Z.s) (J : TxP K mg) (U : Tx4 K mg Z Db) (d_l_cell_at : Dn P w K mg base 2 "_law_cell_at" ["_law_script", "_law_k"] (spCell K)) (d_l_next : Dn P w K mg base 2 "_law_next" ["_law_draw", "_law_size"] spNext) (d_l_names : Dn P w K mg base 3 "_law_names" ["_law_draw", "_law_many"] spNamesC) (d_l_chain : Dn P w K mg base 3 "_law_chain" ["_law_draw", "_law_names_here"] (spChain Z)) (d_l_bound : Dn P w K mg base 1 "_law_bound" ["_law_steps"] spBnd) (d_init : Mr P w K mg base 1 Z.s ["self", "terms", "number"] (spInit Z.s)) (d_cinit : Mr P w K mg base 1 Z.c ["self", "one", "sign", "other"] (spCInit Z)) (d_dbinit : Mr P w K mg base 1 Db ["self", "kind", "at", "ahead", "condition"] (spDbt Db)) (d_owed : Dn P w K mg base 9 "owed" ["debt"] (spOwed Z Db)) (d_l_weights : Dn P w K mg base 1 "_law_weights" ["_law_steps"] spWts) (d_refutes : Dn P w K mg base 36 "refutes" ["case", "paper"] (spRefutes Z.s)) (d_l_greatest : Dn P w K mg base 1 "_law_greatest" ["_law_first", "_law_steps"] spGrt) (d_along : Dn P w K mg base 3 "along" ["ahead", "numbers"] (spAlongC Z)) (d_cholds : Mt P w K mg base 2 Z.c "holds" ["self", "numbers"] (spCH Z)) (d_l_value : Dn P w K mg base 1 "_law_value" ["_law_total", "_law_numbers"] (spLValC Z.s)) : FnOk P w K mg base CX0 40 f fd ["_law_script"] (spLaw K) := by
  obtain ⟨f_l_cell_at, fd_l_cell_at, G_l_cell_at, mg_l_cell_at, kp_l_cell_at, b_l_cell_at⟩ := d_l_cell_at
  obtain ⟨f_l_next, fd_l_next, G_l_next, mg_l_next, kp_l_next, b_l_next⟩ := d_l_next
  obtain ⟨f_l_names, fd_l_names, G_l_names, mg_l_names, kp_l_names, b_l_names⟩ := d_l_names
  obtain ⟨f_l_chain, fd_l_chain, G_l_chain, mg_l_chain, kp_l_chain, b_l_chain⟩ := d_l_chain
  obtain ⟨f_l_bound, fd_l_bound, G_l_bound, mg_l_bound, kp_l_bound, b_l_bound⟩ := d_l_bound
  obtain ⟨f_init, fd_init, G_Sum_init, M_Sum, b_Sum_init⟩ := d_init
  obtain ⟨f_ci, fd_ci, G_Compare_init, M_Compare, b_Compare_init⟩ := d_cinit
  obtain ⟨f_db, fd_db, G_Debt_init, M_Debt, b_Debt_init⟩ := d_dbinit
  obtain ⟨f_owed, fd_owed, G_owed, mg_owed, kp_owed, b_owed⟩ := d_owed
  obtain ⟨f_l_weights, fd_l_weights, G_l_weights, mg_l_weights, kp_l_weights, b_l_weights⟩ := d_l_weights
  obtain ⟨f_refutes, fd_refutes, G_refutes, mg_refutes, kp_refutes, b_refutes⟩ := d_refutes
  obtain ⟨f_l_greatest, fd_l_greatest, G_l_greatest, mg_l_greatest, kp_l_greatest, b_l_greatest⟩ := d_l_greatest
  obtain ⟨f_along, fd_along, G_along, mg_along, kp_along, b_along⟩ := d_along
  obtain ⟨f_cholds, fd_cholds, G_cholds, m_cholds, b_cholds⟩ := d_cholds
  obtain ⟨f_l_value, fd_l_value, G_l_value, mg_l_value, kp_l_value, b_l_value⟩ := d_l_value
  refine F.ok sc_law (fun vs H Q E h => ?_) (fun cdv A outer s H vs Q E hr h => ?_)
  · obtain ⟨a, ns0, rfl, hs, hn, k⟩ := h
    rfl
  · obtain ⟨a, ns0, rfl, hs, hn, k⟩ := h
    have hu := hu_of hr
    rw [show defBody slaw = [_, _, _, _, _, _, _, _, _, _, _, _, _, _, _, _, _, _, _, _] from rfl]
    refine ⟨_, (pss_cons (ps_set (i := 1) sc_law.nd rfl (Or.inr rfl) (pe_lst (pa_cons (pe_call G_l_cell_at (hr.mono (by first | decide | omega)) rfl mg_l_cell_at kp_l_cell_at b_l_cell_at .nil pass0 (pa_cons (pv 0) (pa_cons pe_int pa_nil))) (pa_cons pe_int pa_nil))))
      (pss_cons (ps_set (i := 2) sc_law.nd rfl (Or.inl rfl) (pe_call G_l_names (hr.mono (by first | decide | omega)) rfl mg_l_names kp_l_names b_l_names .nil pass0 (pa_cons (pv 1) (pa_cons (pe_op op_add pe_int (pe_call G_l_next (hr.mono (by first | decide | omega)) rfl mg_l_next kp_l_next b_l_next .nil pass0 (pa_cons (pv 1) (pa_cons pe_int pa_nil)))) pa_nil))))
      (pss_cons (ps_asg (pe_call G_l_chain (hr.mono (by first | decide | omega)) rfl mg_l_chain kp_l_chain b_l_chain .nil pass0 (pa_cons (pe_lst (pa_cons (pe_call G_l_cell_at (hr.mono (by first | decide | omega)) rfl mg_l_cell_at kp_l_cell_at b_l_cell_at .nil pass0 (pa_cons (pv 0) (pa_cons pe_int pa_nil))) (pa_cons pe_int pa_nil))) (pa_cons (pv 2) pa_nil))) (pg_tup rfl (pgs_cons (pg_name (i := 3) sc_law.nd rfl (Or.inl rfl)) (pgs_cons (pg_name (i := 4) sc_law.nd rfl (Or.inl rfl)) pgs_nil))))
      (pss_cons (ps_asg (pe_call G_l_bound (hr.mono (by first | decide | omega)) rfl mg_l_bound kp_l_bound b_l_bound .nil pass0 (pa_cons (pv 4) pa_nil)) (pg_tup rfl (pgs_cons (pg_name (i := 5) sc_law.nd rfl (Or.inl rfl)) (pgs_cons (pg_name (i := 6) sc_law.nd rfl (Or.inl rfl)) pgs_nil))))
      (pss_cons (ps_set (i := 7) sc_law.nd rfl (Or.inl rfl) (pe_cmpR op_eq (pe_call G_l_next (hr.mono (by first | decide | omega)) rfl mg_l_next kp_l_next b_l_next .nil pass0 (pa_cons (pv 1) (pa_cons pe_int pa_nil))) pe_int (nomark _)))
      (pss_cons (ps_aug (i := 6) sc_law.nd rfl (Or.inl rfl) (pe_ix ix_list (pe_lst (pa_cons (pe_op op_sub (pe_un un_neg pe_int) (pe_call G_l_next (hr.mono (by first | decide | omega)) rfl mg_l_next kp_l_next b_l_next .nil pass0 (pa_cons (pv 1) (pa_cons pe_int pa_nil)))) (pa_cons (pe_call G_l_next (hr.mono (by first | decide | omega)) rfl mg_l_next kp_l_next b_l_next .nil pass0 (pa_cons (pv 1) (pa_cons pe_int pa_nil))) pa_nil))) (pe_callTy call_int1 (by rfl) T.int boot_int (pa_cons (pv 7) pa_nil)) (fun _ _ => rfl)) ip_add)
      (pss_cons (ps_set (i := 8) sc_law.nd rfl (Or.inl rfl) (pe_make M_Compare G_Compare_init (hr.mono (by first | decide | omega)) rfl U.mgC b_Compare_init .nil pass0 (pa_cons (pe_make M_Sum G_Sum_init (hr.mono (by first | decide | omega)) rfl T.mg_Sum b_Sum_init .nil pass0 (pa_cons (pe_tup (pa_cons (pe_tup (pa_cons (pe_ix ix_list (pv 2) (pe_un un_neg pe_int) (fun _ _ => rfl)) (pa_cons pe_int pa_nil))) pa_nil)) (pa_cons pe_int pa_nil))) (pa_cons pe_str (pa_cons (pe_make M_Sum G_Sum_init (hr.mono (by first | decide | omega)) rfl T.mg_Sum b_Sum_init .nil pass0 (pa_cons (pe_tup (pa_cons (pe_tup (pa_cons (pe_ix ix_list (pv 2) pe_int (fun _ _ => rfl)) (pa_cons (pv 5) pa_nil))) pa_nil)) (pa_cons (pv 6) pa_nil))) pa_nil)))))
      (pss_cons (ps_set (i := 9) sc_law.nd rfl (Or.inl rfl) (pe_make M_Debt G_Debt_init (hr.mono (by first | decide | omega)) rfl U.mgD b_Debt_init .nil pass0 (pa_cons pe_str (pa_cons pe_int (pa_cons (pe_callTy call_tuple_of (by rfl) T.tuple boot_tuple (pa_cons (pv 3) pa_nil)) (pa_cons (pv 8) pa_nil))))))
      (pss_cons (ps_set (i := 10) sc_law.nd rfl (Or.inl rfl) (pe_call G_owed (hr.mono (by first | decide | omega)) rfl mg_owed kp_owed b_owed .nil pass0 (pa_cons (pv 9) pa_nil)))
      (pss_cons (ps_set (i := 11) sc_law.nd rfl (Or.inr rfl) (pe_call G_l_weights (hr.mono (by first | decide | omega)) rfl mg_l_weights kp_l_weights b_l_weights .nil pass0 (pa_cons (pv 4) pa_nil)))
      (pss_cons (ps_if (pt_cmpR op_eq (pe_callB call_len_seq (by rfl) T.len PySem.boot_len (pa_cons (pv 11) pa_nil)) pe_int (nomark _)) (pss_one (ps_ret (pe_cmpR (op_eqL 2 (uL hr)) (pv 10) (pe_ix ix_list (pe_lst (pa_cons (pe_lst (pa_cons (pe_tup pa_nil) pa_nil)) (pa_cons (pe_lst pa_nil) pa_nil))) (pe_callTy call_int1 (by rfl) T.int boot_int (pa_cons (pv 7) pa_nil)) (fun _ _ => rfl)) (nomark _)))) pss_nil)
      (pss_cons (ps_if (pt_cmpR op_ne (pe_callB call_len_seq (by rfl) T.len PySem.boot_len (pa_cons (pv 10) pa_nil)) pe_int (nomark _)) (pss_one (ps_ret pe_bl)) pss_nil)
      (pss_cons (ps_set (i := 12) sc_law.nd rfl (Or.inl rfl) (pe_tup (pa_cons (pe_tup (pa_cons pe_str (pa_cons (pe_callTy call_tuple_of (by rfl) T.tuple boot_tuple (pa_cons (pe_comp (compSc_mk ["_law_k"] ["_law_weights_here"] [11] rfl (by decide +kernel) (by decide +kernel) (by with_unfolding_all rfl) (by exact ⟨rfl, trivial⟩) (by rfl) rfl (by rfl)) rfl (pi_range1 rfl T.range (pa_cons (pe_callB call_len_seq (by rfl) T.len PySem.boot_len (pa_cons (pv 11) pa_nil)) pa_nil)) (fun _ _ _ _ => (pg_name (i := 0) (show List.Nodup (["_law_k", "_law_weights_here"] : List Str) by decide +kernel) rfl (Or.inl rfl) (Or.inr rfl))) (fun _ _ _ _ => pts_nil) (fun _ _ _ _ => (pe_tup (pa_cons (pe_ix (ix_listK (K := K) rfl) (pv 1) (pv 0) (fun _ _ => rfl)) (pa_cons (pv 0) pa_nil))))) pa_nil)) pa_nil))) pa_nil)))
      (pss_cons (ps_if (pt_cmpR op_ne (pe_call G_refutes (hr.mono (by first | decide | omega)) rfl mg_refutes kp_refutes b_refutes .nil pass0 (pa_cons (pe_ix ix_list (pv 10) pe_int (fun _ _ => rfl)) (pa_cons (pv 12) pa_nil))) (pv 7) (nomark _)) (pss_one (ps_ret pe_bl)) pss_nil)
      (pss_cons (ps_set (i := 13) sc_law.nd rfl (Or.inr rfl) (pe_call G_l_greatest (hr.mono (by first | decide | omega)) rfl mg_l_greatest kp_l_greatest b_l_greatest .nil pass0 (pa_cons (pe_op op_sub (pe_call G_l_next (hr.mono (by first | decide | omega)) rfl mg_l_next kp_l_next b_l_next .nil pass0 (pa_cons (pv 1) (pa_cons pe_int pa_nil))) pe_int) (pa_cons (pv 4) pa_nil))))
      (pss_cons (ps_set (i := 14) sc_law.nd rfl (Or.inl rfl) (pe_call G_along (hr.mono (by first | decide | omega)) rfl mg_along kp_along b_along .nil pass0 (pa_cons (pe_fld (pv 9) rfl) (pa_cons (pv 13) pa_nil))))
      (pss_cons (ps_if (PW.pt (pw_or (pt_cmpR op_isN (pv 14) pe_non (nomark _)) (pw_or1 (pt_cmpR op_ne (pe_meth (pv 8) U.cc m_cholds G_cholds (hr.mono (by first | decide | omega)) b_cholds .nil pass0 (pa_cons (pv 14) pa_nil)) (pv 7) (nomark _))))) (pss_one (ps_ret pe_bl)) pss_nil)
      (pss_cons (ps_if (pt_cmpR op_eq (pe_cmpR (op_eqNilL (uN hr)) (pe_comp (compSc_mk ["_law_total"] ["_law_numbers"] [13] rfl (by decide +kernel) (by decide +kernel) (by with_unfolding_all rfl) (by exact ⟨rfl, trivial⟩) (by rfl) rfl (by rfl)) rfl (pi_tup (pe_ix ix_list (pv 10) pe_int (fun _ _ => rfl))) (fun _ _ _ _ => (pg_name (i := 0) (show List.Nodup (["_law_total", "_law_numbers"] : List Str) by decide +kernel) rfl (Or.inl rfl) (Or.inr rfl))) (fun _ _ _ _ => (pts_one (pt_cmpR op_lt (pe_call G_l_value (hr.mono (by first | decide | omega)) rfl mg_l_value kp_l_value b_l_value .nil pass0 (pa_cons (pv 0) (pa_cons (pv 1) pa_nil))) pe_int (nomark _)))) (fun _ _ _ _ => pe_int)) (pe_lst pa_nil) (nomark _)) (pv 7) (nomark _)) (pss_one (ps_ret pe_bl)) pss_nil)
      (pss_cons (ps_for PassesOwn.never rfl (pi_range1 rfl T.range (pa_cons pe_int pa_nil)) (pg_name (i := 15) sc_law.nd rfl (Or.inl rfl)) (pss_cons (ps_setC (i := 16) sc_law.nd rfl (Or.inl rfl) (compSc_mk ["_law_number"] ["_law_draw"] [1] rfl (by decide +kernel) (by decide +kernel) (by with_unfolding_all rfl) (by exact ⟨rfl, trivial⟩) (by rfl) rfl (by rfl)) rfl (pi_list (pv 13)) (fun _ _ _ _ => (pg_name (i := 0) (show List.Nodup (["_law_number", "_law_draw"] : List Str) by decide +kernel) rfl (Or.inl rfl) (Or.inr rfl))) (fun _ _ _ _ => pts_nil) (fun _ _ _ _ => (pe_op op_sub (pv 0) (pe_call G_l_next (hr.mono (by first | decide | omega)) rfl mg_l_next kp_l_next b_l_next .nil pass0 (pa_cons (pv 1) (pa_cons pe_int pa_nil))))))
      (pss_cons (ps_set (i := 14) sc_law.nd rfl (Or.inl rfl) (pe_call G_along (hr.mono (by first | decide | omega)) rfl mg_along kp_along b_along .nil pass0 (pa_cons (pe_fld (pv 9) rfl) (pa_cons (pv 16) pa_nil))))
      (pss_one (ps_if (PW.pt (pw_and (pt_cmpR op_notN (pv 14) pe_non (nomark _)) (pw_and (pt_val (pv 7)) (pw_and1 (pt_not (pt_val (pe_meth (pv 8) U.cc m_cholds G_cholds (hr.mono (by first | decide | omega)) b_cholds .nil pass0 (pa_cons (pv 14) pa_nil)))))))) (pss_one (ps_ret pe_bl)) pss_nil)))))
      (pss_one (ps_ret pe_bl))))))))))))))))))))), ?_⟩
    refine ⟨_, rfl, a, ns0, 0, rfl, hs, fun r0 => ⟨(by show 2 ≤ sizeLine; exact Nat.le_of_lt (line 2 (by decide))), fun d hd => ?_⟩⟩
    have s0 := new (o := .lst [V.int r0, V.int 0]) hd
    have D0 : Dr (upd H d (.lst [V.int r0, V.int 0])) d := ⟨r0, 0, upd_same⟩
    generalize upd H d (.lst [V.int r0, V.int 0]) = H0 at s0 D0 ⊢
    refine ⟨_, rfl, _, rfl, d, 5, rfl, D0, (by decide), fun r1 H1 h1 b1 d1 => ⟨_, _, rfl, rfl, d, 2 + r1, (by rw [Int.natCast_add]; rfl), d1, by omega, fun l nm H2 b2 d2 hl0 el nl n8 nd => ?_⟩⟩
    have sA : Same H H2 := fun b o z => b2 _ _ (b1 _ _ (s0 _ _ z) (ne_of_none z hd)) (ne_of_none z hd)
    refine ⟨_, rfl, a, ns0, 1, rfl, sql_keep sA hs, fun r2 => ⟨(by show 2 ≤ sizeLine; exact Nat.le_of_lt (line 2 (by decide))), fun d0 hd0 => ⟨_, rfl, d0, l, nm, rfl, ⟨r2, 0, upd_same⟩, new hd0 _ _ el, (ne_of_none el hd0), by omega, by omega, fun rr rw' sw us ws st H4 b4 er erw esw pr ps ok stl => ?_⟩⟩⟩
    have nld : l ≠ d := d1.ne hl0
    have d4 : Dr H4 d := by
      obtain ⟨x, y, q⟩ := d2
      exact ⟨x, y, b4 _ _ (new hd0 _ _ q) (ne_of_none q hd0)⟩
    have el4 : H4 l = some (.lst (nm.map V.str)) := b4 _ _ (new hd0 _ _ el) (ne_of_none el hd0)
    have neq : ∀ {x o}, H4 x = some o → (∀ p q, o ≠ .lst [.int p, .int q]) → x ≠ d := fun e h => by
      obtain ⟨x, y, q⟩ := d4
      exact ne_of e q (h x y)
    clear d2 b2 b1 d1 b4 hd0 s0 D0
    have st5 : st.length ≤ 5 := by omega
    refine ⟨rr, _, rfl, SqT.of er, rfl, _, _, rfl, _, _, rfl, rfl, ?_⟩
    refine ⟨_, rfl, sw, ws, st, rfl, esw, ps, ok, st5, fun rb H5 s5 eb => ⟨rb, _, rfl, SqT.of eb, rfl, _, _, rfl, _, _, rfl, rfl, ?_⟩⟩
    refine ⟨_, rfl, d, 2, rfl, d4.same s5, (by decide), fun r3 H6 h6 b6 d6 => ⟨rfl, ?_⟩⟩
    generalize decide (V.int (r3 : Int) = V.int 1) = B
    refine ⟨_, rfl, _, rfl, _, rfl, d, 3, rfl, d6, (by decide), fun r4 H7 h7 b7 d7 => ⟨_, _, rfl, rfl, _, rfl, d, 3, rfl, d7, (by decide), fun r5 H8 h8 b8 d8 => ⟨(by show 2 ≤ sizeLine; exact Nat.le_of_lt (line 2 (by decide))), fun q hq => ?_⟩⟩⟩
    obtain ⟨δ, hδ, hB, δ1, δ2⟩ : ∃ δ : Int, atI [V.int (-1 - (r4 : Int)), V.int (r5 : Int)] (if B = true then 1 else 0) = some (V.int δ) ∧ decide (-δ - 1 < 0) = B ∧ -3 ≤ δ ∧ δ ≤ 2 := by
      cases B with
      | false => exact ⟨-1 - (r4 : Int), rfl, decide_eq_false (by omega), by omega, by omega⟩
      | true => exact ⟨(r5 : Int), rfl, decide_eq_true (by omega), by omega, by omega⟩
    refine ⟨_, rfl, .inr ⟨_, rfl, q, _, _, _, rfl, rfl, SqL.of upd_same, hδ, _, _, rfl, rfl, ?_⟩⟩
    have nrd : rw' ≠ d := neq erw fun p q z => by
      have e := HO.lst.inj z
      rw [e] at pr
      unfold rowsN at pr
      cases pr with
      | cons h _ => obtain ⟨_, e, _⟩ := h; cases e
    have nsd : sw ≠ d := neq esw fun p q z => by
      have e := HO.lst.inj z
      rw [e] at ps
      cases ps with
      | cons h _ => obtain ⟨_, e, _⟩ := h; cases e
    have bA : But d H4 H8 := (((But.of s5).trans b6).trans b7).trans b8
    have hA := d4.soft bA
    have sq := new (o := .lst [V.int (-1 - (r4 : Int)), V.int (r5 : Int)]) hq
    have I0 : ChI Z H4 d rw' sw us ws (rowsN nm st) st (upd H8 q (.lst [V.int (-1 - (r4 : Int)), V.int (r5 : Int)])) := (⟨bA, d8, bA _ _ erw nrd, bA _ _ esw nsd, Paired.mapP pr fun _ _ z => z.hard hA, Paired.mapP ps fun _ _ z => z.hard hA⟩ : ChI Z H4 d rw' sw us ws (rowsN nm st) st H8).same sq
    have el9 := sq _ _ (bA _ _ el4 nld)
    generalize upd H8 q (.lst [V.int (-1 - (r4 : Int)), V.int (r5 : Int)]) = H9 at I0 el9 ⊢
    clear sq hA bA b6 b7 b8 d6 d7 d8 hq
    have gm' : (nm.map V.str)[(nm.map V.str).length - 1]? = some (V.str (nm.getD st.length "")) := by
      rw [List.length_map, List.getElem?_map, List.getD_eq_getElem?_getD, show nm.length - 1 = st.length by omega, List.getElem?_eq_getElem (by omega)]; rfl
    have g0' : (nm.map V.str)[0]? = some (V.str (nm.getD 0 "")) := by
      rw [List.getElem?_map, List.getD_eq_getElem?_getD, List.getElem?_eq_getElem (by omega)]; rfl
    refine ⟨_, rfl, _, rfl, l, _, _, _, rfl, rfl, SqL.of el9, atI_m1 (by rw [List.length_map]; omega) gm', (by show 2 ≤ sizeLine; exact Nat.le_of_lt (line 2 (by decide))), fun q2 hq2 => ⟨(Nat.le_of_lt (line 1 (by decide))), fun t2 ht2 => fun x dx hx hdx nxd => ?_⟩⟩
    have sA := (new (H := H9) (o := .tup [.str (nm.getD st.length ""), .int 1]) hq2).trans (new (o := .tup [V.ref q2]) ht2)
    have hm := made_same (o := .own x) (o' := .ins Z.s dx []) hx hdx
    refine ⟨x, dx, t2, 0, [(nm.getD st.length "", 1)], rfl, upd_same, .inr ⟨[V.ref q2], hm _ _ upd_same, prs_one ⟨q2, rfl, hm _ _ (new ht2 _ _ upd_same)⟩⟩, (by show 1 ≤ 1000; decide), fun H10 but' S10 => ⟨rfl, ?_⟩⟩
    have s10 : Same H9 H10 := fun b o z => but' b o (hm _ _ (sA _ _ z)) (ne_of_none (sA _ _ z) hx)
    clear sA hm but'
    have el10 := s10 _ _ el9
    refine ⟨_, rfl, l, _, _, _, rfl, rfl, SqL.of el10, atI_nat (j := 0) g0', _, rfl, (by show 2 ≤ sizeLine; exact Nat.le_of_lt (line 2 (by decide))), fun q3 hq3 => ⟨(Nat.le_of_lt (line 1 (by decide))), fun t3 ht3 => ⟨_, rfl, fun x3 dx3 hx3 hdx3 nxd3 => ?_⟩⟩⟩
    have sA := (new (H := H10) (o := .tup [.str (nm.getD 0 ""), .int (bP st)]) hq3).trans (new (o := .tup [V.ref q3]) ht3)
    have hm := made_same (o := .own x3) (o' := .ins Z.s dx3 []) hx3 hdx3
    refine ⟨x3, dx3, t3, (bN st + δ), [(nm.getD 0 "", (bP st))], rfl, upd_same, .inr ⟨[V.ref q3], hm _ _ upd_same, prs_one ⟨q3, rfl, hm _ _ (new ht3 _ _ upd_same)⟩⟩, (by show 1 ≤ 1000; decide), fun H11 but' S11 => ⟨rfl, ?_⟩⟩
    have s11 : Same H10 H11 := fun b o z => but' b o (hm _ _ (sA _ _ z)) (ne_of_none (sA _ _ z) hx3)
    clear sA hm but'
    refine fun x4 dx4 hx4 hdx4 nxd4 => ?_
    have hm := made_same (o := .own x4) (o' := .ins Z.c dx4 []) hx4 hdx4
    refine ⟨x4, dx4, x, x3, "<=", rfl, upd_same, fun H12 but' e12 => ⟨rfl, ?_⟩⟩
    have s12 : Same H11 H12 := fun b o z => but' b o (hm _ _ z) (ne_of_none z hx4)
    have I1 := ((I0.same s10).same s11).same s12
    have C1 : CmpAt Z H12 x4 ([(nm.getD st.length "", 1)], 0) "<=" ([(nm.getD 0 "", bP st)], bN st + δ) := ⟨dx4, x, x3, e12, (S10.same s11).same s12, S11.same s12⟩
    clear hm but' e12 s12 s11 s10 S10 S11 I0 el10 el9
    refine ⟨_, rfl, rw', us, rfl, .inl ⟨SqL.of I1.er, fun tp htp => ?_⟩⟩
    have s13 := new (o := .tup us) htp
    have I2 := I1.same s13
    have C2 := C1.same s13
    have etp : (upd H12 tp (.tup us)) tp = some (.tup us) := upd_same
    generalize upd H12 tp (.tup us) = H13 at s13 I2 C2 etp ⊢
    refine ⟨_, rfl, fun pd dxp hpd hdxp npd => ?_⟩
    have hm := made_same (o := .own pd) (o' := .ins Db dxp []) hpd hdxp
    refine ⟨pd, dxp, tp, x4, "claim", 0, rfl, upd_same, fun H14 but' e14 => ⟨rfl, ?_⟩⟩
    have s14 : Same H13 H14 := fun b o z => but' b o (hm _ _ z) (ne_of_none z hpd)
    have I3 := I2.same s14
    have C3 := C2.same s14
    have etp := s14 _ _ etp
    obtain ⟨owf, egs, efin, e0, en, edom⟩ := chain_run nd ok stl (by omega)
    have c5 := cnt_le st
    have gmm : ∀ j, j < nm.length → nm.getD j "" ∈ nm := fun j hj => by rw [List.getD_eq_getElem?_getD, List.getElem?_eq_getElem hj]; exact List.getElem_mem hj
    have p35 : (3 : Int) ^ st.length ≤ 243 := by
      have : st.length = 0 ∨ st.length = 1 ∨ st.length = 2 ∨ st.length = 3 ∨ st.length = 4 ∨ st.length = 5 := by omega
      rcases this with e | e | e | e | e | e <;> rw [e] <;> decide
    have rl12 : (rowsN nm st).length ≤ 12 := by
      have e2 := chN_len nm st 0
      have : (rowsN nm st).length = (chN nm 0 st).length + 1 := rfl
      omega
    refine ⟨_, rfl, pd, tp, x4, dxp, "claim", nm.getD 0 "", nm.getD st.length "", 0, bP st, bN st + δ, us, rowsN nm st, rfl, e14, etp, I3.pr, rl12, owf, C3, (by rw [edom]; exact gmm 0 (by omega)), (by rw [edom]; exact gmm _ (by omega)), bP_pos ok, (by have := bP_le ok; omega), (by rw [en]; omega), fun rc ss cl H15 s15 sg gcl ecl hc => ?_⟩
    rw [egs] at sg
    rw [en] at sg gcl
    have ecl : ∀ f, ev cl f = clF st δ f := fun f => by rw [ecl f, efin f, e0 f]; rfl
    have I4 := I3.same s15
    have C4 := C3.same s15
    have e15 := s15 _ _ e14
    have etp := s15 _ _ etp
    clear hm but' s14 s15 e14 I3 C3 I2 C2 I1 C1
    refine ⟨_, rfl, sw, ws, st, rfl, I4.es, I4.ps, ok, st5, fun wq H16 s16 ewq => ?_⟩
    have I5 := I4.same s16
    have C5 := C4.same s16
    have e16 := s16 _ _ e15
    have etp := s16 _ _ etp
    have hc := hc.same s16
    clear s16 I4 C4 e15
    have lwt : ((wts st ++ [1]).map V.int).length = cntS st + 1 := by rw [List.length_map, List.length_append, wts_len]; rfl
    have lss : ss.length = cntS st := by rw [paired_len sg, gsF_len]
    generalize eLw : (wts st ++ [1]).map V.int = lw at lwt ewq
    by_cases hz : cntS st = 0
    · refine ⟨_, rfl, wq, _, rfl, .inl (SqL.of ewq), rfl, _, rfl, iteDT (by rw [lwt, hz]; rfl) ?_⟩
      have ecl2 : cl = ([], -δ - 1) := const_neg gcl.1 fun f => (ecl f).trans (clF_con hz δ f)
      have ess : ss = [] := List.length_eq_zero_iff.mp (lss.trans hz)
      rw [ecl2, ess] at hc
      obtain ⟨cv, erc, prc⟩ := hc
      refine ⟨_, rfl, Nat.zero_le _, fun ae hae => ⟨(Nat.le_of_lt (line 1 (by decide))), fun l1 hl1 => ⟨Nat.zero_le _, fun l2 hl2 => ⟨(by show 2 ≤ sizeLine; exact Nat.le_of_lt (line 2 (by decide))), fun l3 hl3 => ⟨_, rfl, .inr ⟨_, rfl, l3, _, _, (if B = true then V.ref l2 else V.ref l1), rfl, rfl, SqL.of upd_same, (by cases B <;> rfl), ?_⟩⟩⟩⟩⟩⟩
      have sE := (((new (o := .tup []) hae).trans (new (o := .lst [V.ref ae]) hl1)).trans (new (o := .lst []) hl2)).trans (new (o := .lst [V.ref l1, V.ref l2]) hl3)
      have erc' := sE _ _ erc
      cases B with
      | true =>
        have hn : nevB ([], -δ - 1) = true := hB
        unfold cw at prc
        rw [hn] at prc
        cases prc
        exact ⟨rc, l2, [], [], rfl, rfl, .inl ⟨SqL.of erc', SqL.of (new hl3 _ _ upd_same)⟩, .nil, k _⟩
      | false =>
        have hn : nevB ([], -δ - 1) = false := hB
        unfold cw at prc
        rw [hn] at prc
        cases prc with
        | cons h0 t0 =>
        cases t0
        obtain ⟨tc, vs, rfl, etc, pv'⟩ := h0
        cases pv'
        exact ⟨rc, l1, [V.ref tc], [V.ref ae], rfl, rfl, .inl ⟨SqL.of erc', SqL.of (new hl3 _ _ (new hl2 _ _ upd_same))⟩, .cons (.inr ⟨tc, ae, [], [], rfl, rfl, .inr ⟨SqT.of (sE _ _ etc), SqT.of (new hl3 _ _ (new hl2 _ _ (new hl1 _ _ upd_same)))⟩, .nil⟩) .nil, k _⟩
    refine ⟨_, rfl, wq, _, rfl, .inl (SqL.of ewq), rfl, _, rfl, iteDF (by rw [lwt]; intro z; injection z with z; omega) ?_⟩
    show tNext _ [some (.ref a), some (.ref d), some (.ref l), some (.ref rw'), some (.ref sw), some (.int (bP st)), some (.int (bN st + δ)), some (.bl B), some (.ref x4), some (.ref pd), some (.ref rc), some (.ref wq), none, none, none, none, none] H16
    have hpos : 0 < cntS st := by omega
    rw [cw_nc (nc_ne ecl (clF_nc ok hpos (by omega) δ))] at hc
    obtain ⟨cv, erc, prc⟩ := hc
    cases prc with
    | cons hcc t0 =>
    cases t0
    obtain ⟨tc, vs, rfl, etc, sms⟩ := hcc
    have lvs := paired_len sms
    rw [List.length_append] at lvs
    have lvs : vs.length = ss.length + 1 := lvs
    refine ⟨_, rfl, rc, _, rfl, .inl (SqL.of erc), rfl, _, rfl, ifF rfl ?_⟩
    refine ⟨_, rfl, wq, _, rfl, .inl (SqL.of ewq), (cntS st + 1 : Nat), (by rw [lwt]), by omega, by omega, comp_range (n := ((cntS st + 1 : Nat) : Int).toNat) (fun i ys H' => Same H16 H' ∧ Paired (WkAt H') ys (idxW 0 ((wts st ++ [1]).take i))) ⟨Same.refl _, .nil⟩ ?_ ?_⟩
    · rintro i ys H' hi ⟨sm, pw⟩
      have hi : i < cntS st + 1 := hi
      have hw : (wts st ++ [1])[i]? = some ((wts st ++ [1]).getD i 0) := by rw [List.getD_eq_getElem?_getD, List.getElem?_eq_getElem (by rw [List.length_append, wts_len]; exact hi)]; rfl
      have hwl : atI lw (0 + (i : Int)) = some (V.int ((wts st ++ [1]).getD i 0)) := atI_z (by rw [← eLw, List.getElem?_map, hw]; rfl)
      have lp := paired_len pw
      rw [idxW_len, List.length_take] at lp
      refine ⟨Ext.one, alwT ⟨_, rfl, _, rfl, wq, _, _, _, rfl, rfl, SqL.of (sm _ _ ewq), hwl, _, rfl, (by show 2 ≤ sizeLine; exact Nat.le_of_lt (line 2 (by decide))), fun t ht => ⟨line _ (by omega), sm.trans (new ht), ?_⟩⟩⟩
      rw [take_snoc hw, idxW_snoc]
      have e : 0 + ((wts st ++ [1]).take i).length = i := by rw [List.length_take, List.length_append, wts_len, Nat.zero_add]; show min i (cntS st + 1) = i; omega
      rw [e]
      exact paired_snoc (Paired.mapP pw fun _ _ z => z.same (new ht)) ⟨t, rfl, by rw [upd_same, Int.zero_add]⟩
    rintro ys H17 ⟨s17, pw⟩ qc hqc
    have e : (wts st ++ [1]).take (((cntS st + 1 : Nat) : Int).toNat) = wts st ++ [1] := List.take_of_length_le (by rw [List.length_append, wts_len]; show cntS st + 1 ≤ _; omega)
    rw [e] at pw
    refine ⟨qc, _, rfl, .inl ⟨SqL.of upd_same, fun tw htw => ⟨(by show 2 ≤ sizeLine; exact Nat.le_of_lt (line 2 (by decide))), fun t1 ht1 => ⟨(Nat.le_of_lt (line 1 (by decide))), fun pp hpp => ?_⟩⟩⟩⟩
    have sB := (((new (o := .lst ys) hqc).trans (new (o := .tup ys) htw)).trans (new (o := .tup [.str "add", .ref tw]) ht1)).trans (new (o := .tup [V.ref t1]) hpp)
    have PA : PapAt Z.s (xsN (1 + cntS st)) B 2 (upd (upd (upd (upd H17 qc (.lst ys)) tw (.tup ys)) t1 (.tup [.str "add", .ref tw])) pp (.tup [V.ref t1])) pp (ss ++ [cl]) := ⟨[V.ref t1], [.add (idxW 0 (wts st ++ [1]))], [V.ref t1], .inr upd_same, .cons ⟨t1, tw, ys, rfl, .inr (new hpp _ _ upd_same), new hpp _ _ (new ht1 _ _ upd_same), Paired.mapP pw fun _ _ z => z.same sB⟩ .nil, (by show 1 ≤ 8; decide), .inl ⟨rfl, pap_ok st5 ok sg ⟨gcl, ecl⟩ hB⟩⟩
    have sC := s17.trans sB
    generalize upd (upd (upd (upd H17 qc (.lst ys)) tw (.tup ys)) t1 (.tup [.str "add", .ref tw])) pp (.tup [V.ref t1]) = H18 at sC PA ⊢
    have I6 := I5.same sC
    have C6 := C5.same sC
    have e18 := sC _ _ e16
    have etp := sC _ _ etp
    have erc := sC _ _ erc
    have etc := sC _ _ etc
    have sms : Sms Z.s H18 vs (ss ++ [cl]) := Paired.mapP sms fun _ _ ⟨p0, e0, S0⟩ => ⟨p0, e0, S0.same sC⟩
    clear sB s17 sC I5 C5 e16 pw
    show tNext _ [some (.ref a), some (.ref d), some (.ref l), some (.ref rw'), some (.ref sw), some (.int (bP st)), some (.int (bN st + δ)), some (.bl B), some (.ref x4), some (.ref pd), some (.ref rc), some (.ref wq), some (.ref pp), none, none, none, none] H18
    have l6x : (xsN (1 + cntS st)).length ≤ 6 := by rw [xsN_len]; omega
    have gAll := gm_all (sg_snoc sg ⟨gcl, ecl⟩)
    refine ⟨_, rfl, rc, _, _, _, rfl, rfl, SqL.of erc, atI_0 _ _, _, rfl, B, xsN (1 + cntS st), tc, pp, vs, ss ++ [cl], rfl, .inr etc, sms, l6x, gAll, by omega, PA, fun H19 s19 => ⟨_, rfl, rfl, _, rfl, ifF (by simp) ?_⟩⟩
    have I7 := I6.same s19
    refine ⟨_, rfl, d, 2001, rfl, I7.dr, (by decide), fun r6 H20 h20 b20 d20 => ⟨_, _, rfl, rfl, ?_⟩⟩
    have I8 := I7.but nrd nsd b20 d20
    have hH : Hard H18 H20 := (Hard.of s19).trans (I7.dr.soft b20)
    have nrc : rc ≠ d := by
      obtain ⟨x0, y0, q0⟩ := I6.dr
      exact ne_of erc q0 fun z => by have e := HO.lst.inj z; injection e with e _; cases e
    have C7 := C6.hard hH
    have e20 := hH.i _ _ _ _ e18
    have etp := hH.t _ _ etp
    have erc := b20 _ _ (s19 _ _ erc) nrc
    have etc := hH.t _ _ etc
    have sms : Sms Z.s H20 vs (ss ++ [cl]) := Paired.mapP sms fun _ _ ⟨p0, e0, S0⟩ => ⟨p0, e0, S0.hard hH⟩
    clear hH C6 e18 I6 I7 s19 b20 PA
    obtain ⟨A1, hA1⟩ : ∃ z : Int, z = (r6 : Int) - 1000 := ⟨_, rfl⟩
    refine ⟨_, rfl, sw, A1, ws, st, (by rw [hA1]; rfl), I8.es, I8.ps, ok, st5, fun nq H21 hnq s21 enq => ?_⟩
    have A1a : -1000 ≤ A1 := by omega
    have A1b : A1 ≤ 1000 := by omega
    have nqd : nq ≠ d := I8.dr.ne hnq
    have lns : (A1 :: grt A1 st).length = 1 + cntS st := by rw [List.length_cons, grt_len]; omega
    have smN := grt_sm ok st5 A1a A1b
    have bf := best_fin (st := st) (a := A1) (by omega)
    generalize eNs : A1 :: grt A1 st = ns at enq lns smN bf
    have I9 := I8.same s21
    have C8 := C7.same s21
    have e21 := s21 _ _ e20
    have etp := s21 _ _ etp
    have erc := s21 _ _ erc
    have etc := s21 _ _ etc
    have sms : Sms Z.s H21 vs (ss ++ [cl]) := Paired.mapP sms fun _ _ ⟨p0, e0, S0⟩ => ⟨p0, e0, S0.same s21⟩
    clear C7 e20 I8 hnq s21
    show tNext _ [some (.ref a), some (.ref d), some (.ref l), some (.ref rw'), some (.ref sw), some (.int (bP st)), some (.int (bN st + δ)), some (.bl B), some (.ref x4), some (.ref pd), some (.ref rc), some (.ref wq), some (.ref pp), some (.ref nq), none, none, none] H21
    have gd0 : nm.getD 0 "" ∈ dom (oRun (rowsN nm st) o0).e := by rw [edom]; exact gmm 0 (by omega)
    have gdm : nm.getD st.length "" ∈ dom (oRun (rowsN nm st) o0).e := by rw [edom]; exact gmm _ (by omega)
    have sm1 : ∀ (z : Str) (w0 : Int), 1 ≤ w0 → w0 ≤ 1000 → Sml [(z, w0)] := fun z w0 h1 h2 p hp => by rw [List.mem_singleton.mp hp]; exact ⟨by show -(2 ^ 60) < w0; omega, by show w0 < 2 ^ 60; omega⟩
    have bP1 := bP_pos ok
    have bP2 : bP st ≤ 1000 := by have := bP_le ok; omega
    refine ⟨_, rfl, pd, Db, dxp, _, _, rfl, e21, U.cd, U.nd _ (by decide +kernel), dfl_ahead _ _ _ _, _, rfl, tp, nq, us, rowsN nm st, ns, rfl, etp, I9.pr, rl12, owf, enq, by rw [en, lns], by omega, fun dd ee H22 s22 edd nr _ => ?_, fun H22 s22 hx' => ?_⟩
    rotate_left
    · obtain ⟨g, hg, hlt⟩ := hx'
      rw [egs] at hg
      have := bf.1 g hg
      omega
    obtain ⟨dx5, u5, w5, ec5, _, _⟩ := id (C8.same s22)
    have kin : ∀ (z : Str) (w0 : Int), z ∈ dom (oRun (rowsN nm st) o0).e → ∀ t ∈ keys [(z, w0)], t ∈ keys ee := fun z w0 hz t ht => by
      rw [nr.1]
      have : t = z := List.mem_singleton.mp ht
      rw [this]; exact hz
    have hb1 : decide (get ee (nm.getD st.length "") ≤ bN st + δ + bP st * get ee (nm.getD 0 "")) = B := by
      rw [nr.2 _ gd0, nr.2 _ gdm, efin, e0, bf.2, ← hB]
      exact decide_eq_decide.mpr ⟨fun h => by omega, fun h => by omega⟩
    refine ⟨_, rfl, rfl, _, rfl, ifF rfl ⟨_, rfl, x4, dx5, _, rfl, ec5, cf_no (by decide +kernel) (by decide +kernel) (by decide +kernel), _, rfl, x4, dd, _, _, "<=", ee, rfl, C8.same s22, edd, sm1 _ _ (by decide) (by decide), sm1 _ _ bP1 bP2, kin _ _ gdm, kin _ _ gd0, fun H23 s23 => ⟨_, rfl, rfl, _, rfl, ifF (by rw [due_b hb1]; simp) ?_⟩⟩⟩
    have sD := s22.trans s23
    have I10 := I9.same sD
    have C9 := C8.same sD
    have e23 := sD _ _ e21
    have etp := sD _ _ etp
    have erc := sD _ _ erc
    have etc := sD _ _ etc
    have enq := sD _ _ enq
    have sms : Sms Z.s H23 vs (ss ++ [cl]) := Paired.mapP sms fun _ _ ⟨p0, e0, S0⟩ => ⟨p0, e0, S0.same sD⟩
    clear sD s22 s23 I9 C8 e21 edd nr hb1 kin ec5
    refine ⟨_, rfl, rc, _, _, _, rfl, rfl, SqL.of erc, atI_0 _ _, tc, rfl, ⟨vs, SqT.of etc⟩, comp_tup (xs := vs) (fun i ys H' => Same H23 H' ∧ ys = if ss.length < i ∧ B = true then [V.int 1] else []) ⟨Same.refl _, (by rw [if_neg (fun z => absurd z.1 (Nat.not_lt_zero _))])⟩ (fun i ys H' _ q => SqT.of (q.1 _ _ etc)) ?_ ?_⟩
    · rintro i v ys H' hi ⟨sm, rfl⟩
      obtain ⟨s, es, p0, rfl, S⟩ := paired_at sms hi
      have il : i < vs.length := (List.getElem?_eq_some_iff.mp hi).1
      obtain ⟨gf, egf, hgf⟩ := paired_at (sg_snoc sg ⟨gcl, ecl⟩) es
      have y0 : (if ss.length < i ∧ B = true then [V.int 1] else ([] : List V)) = [] := if_neg fun z => by have := z.1; omega
      rw [y0]
      refine ⟨Ext.one, _, rfl, _, rfl, p0, nq, s, ns, rfl, S.same sm, (by rw [lns]; exact gAll s (List.mem_of_getElem? es)), sm _ _ enq, by omega, smN, fun H'' s2 => ⟨_, _, rfl, rfl, _, rfl, ?_⟩⟩
      by_cases hl' : i < ss.length
      · have e0' : ev s (nf ns) = 0 := by
          rw [hgf.2]
          refine bf.1 gf ?_
          rw [List.getElem?_append_left (by rw [gsF_len]; omega)] at egf
          exact List.mem_of_getElem? egf
        refine iteDF (by rw [e0']; omega) ⟨sm.trans s2, (if_neg fun z => ?_).symm⟩
        have := z.1
        omega
      · have hil : i = ss.length := by omega
        have ec' : ev s (nf ns) = -δ - 1 := by
          rw [hil, List.getElem?_append_right (Nat.le_refl _), Nat.sub_self] at es
          have e1 : s = cl := (Option.some.inj es).symm
          rw [e1, ecl]
          unfold clF
          rw [bf.2]
          omega
        cases B with
        | true => exact iteDT (by rw [ec']; exact of_decide_eq_true hB) ⟨(by show 0 < sizeLine; exact line 0 (by decide)), sm.trans s2, by rw [if_pos ⟨by omega, rfl⟩]; rfl⟩
        | false => exact iteDF (by rw [ec']; exact of_decide_eq_false hB) ⟨sm.trans s2, by rw [if_neg (fun z => Bool.false_ne_true z.2)]⟩
    rintro ys H24 ⟨s24, eys⟩ qn hqn
    have eys : ys = if B = true then [V.int 1] else [] := by
      rw [eys]
      by_cases hb : B = true
      · rw [if_pos hb, if_pos ⟨by omega, hb⟩]
      · rw [if_neg hb, if_neg fun z => hb z.2]
    refine ⟨Nat.zero_le _, fun l9 hl9 => ⟨qn, l9, ys, rfl, rfl, SqL.of (new hl9 _ _ upd_same), SqL.of upd_same, _, rfl, rfl, _, rfl, iteDF (by rw [eys]; cases B <;> simp) ?_⟩⟩
    have sE := (s24.trans (new (o := .lst ys) hqn)).trans (new (o := .lst []) hl9)
    have I11 := I10.same sE
    have Ca := C9.same sE
    have e25 := sE _ _ e23
    have etp := sE _ _ etp
    have enq := sE _ _ enq
    generalize upd (upd H24 qn (.lst ys)) l9 (.lst []) = H25 at sE I11 Ca e25 etp enq ⊢
    clear sE C9 I10 e23 s24 hqn hl9 sms etc erc
    refine ⟨(8 : Int), rfl, by decide, by decide, for_range (n := (8 : Int).toNat) (fun i σ H' => ∃ o14 o15 o16 : Option V, σ = [some (.ref a), some (.ref d), some (.ref l), some (.ref rw'), some (.ref sw), some (.int (bP st)), some (.int (bN st + δ)), some (.bl B), some (.ref x4), some (.ref pd), some (.ref rc), some (.ref wq), some (.ref pp), some (.ref nq), o14, o15, o16] ∧ But d H25 H' ∧ Dr H' d) ⟨_, _, _, rfl, (fun _ _ z _ => z), I11.dr⟩ ?_ ?_⟩
    · rintro i σ H26 hi ⟨o14, o15, o16, rfl, b26, d26⟩
      have en26 := b26 _ _ enq nqd
      refine ⟨_, rfl, nq, rfl, ⟨_, SqL.of en26⟩, comp_list (xs := ns.map V.int) (fun j ys H' => But d H26 H' ∧ Dr H' d ∧ ∃ ms : List Int, ys = ms.map V.int ∧ ms.length = j) ⟨(fun _ _ z _ => z), d26, [], rfl, rfl⟩ (fun j ys H' _ q => SqL.of (q.1 _ _ en26 nqd)) ?_ ?_⟩
      · rintro j v ys H' hj ⟨bj, dj, ms, rfl, ml⟩
        have hjl : j < (ns.map V.int).length := (List.getElem?_eq_some_iff.mp hj).1
        rw [List.length_map, lns] at hjl
        rw [List.getElem?_map] at hj
        obtain ⟨z, hz1, hz2⟩ := Option.map_eq_some_iff.mp hj
        subst hz2
        refine ⟨Ext.one, alwT ⟨_, rfl, _, rfl, d, 3, rfl, dj, (by decide), fun r9 H'' h9 b9 d9 => ⟨_, _, rfl, rfl, ?_, bj.trans b9, d9, ms ++ [z - (r9 : Int)], ?_, ?_⟩⟩⟩
        · rw [List.length_map, ml]; exact line _ (by omega)
        · rw [List.map_append]; rfl
        · rw [List.length_append, ml]; rfl
      rintro ys H27 ⟨b27, d27, ms, rfl, ml⟩ mq hmq
      rw [List.length_map, lns] at ml
      have sM := new (o := .lst (ms.map V.int)) hmq
      have bM := (b26.trans b27).trans (But.of sM)
      have dM := d27.same sM
      have emq : (upd H27 mq (.lst (ms.map V.int))) mq = some (.lst (ms.map V.int)) := upd_same
      generalize upd H27 mq (.lst (ms.map V.int)) = H28 at sM bM dM emq ⊢
      have hM : Hard H25 H28 := I11.dr.soft bM
      have I12 := I11.but nrd nsd bM dM
      have Cb := Ca.hard hM
      refine ⟨_, rfl, pd, Db, dxp, _, _, rfl, hM.i _ _ _ _ e25, U.cd, U.nd _ (by decide +kernel), dfl_ahead _ _ _ _, _, rfl, tp, mq, us, rowsN nm st, ms, rfl, hM.t _ _ etp, I12.pr, rl12, owf, emq, by rw [en, ml], by omega, fun dd ee H29 s29 edd nr gz => ?_, fun H29 s29 _ => ?_⟩
      rotate_left
      · refine ⟨_, rfl, rfl, _, rfl, ifF rfl (ifF rfl ⟨_, _, _, rfl, bM.trans (But.of s29), dM.same s29⟩)⟩
      obtain ⟨dx5, u5, w5, ec5, _, _⟩ := id (Cb.same s29)
      refine ⟨_, rfl, rfl, _, rfl, ifT rfl ⟨_, rfl, _, rfl, ?_⟩⟩
      cases B with
      | false => exact ifF rfl (ifF rfl ⟨_, _, _, rfl, bM.trans (But.of s29), dM.same s29⟩)
      | true =>
        have kin : ∀ (z : Str) (w0 : Int), z ∈ dom (oRun (rowsN nm st) o0).e → ∀ t ∈ keys [(z, w0)], t ∈ keys ee := fun z w0 hz t ht => by
          rw [nr.1]
          have : t = z := List.mem_singleton.mp ht
          rw [this]; exact hz
        rw [egs] at gz
        have hb1 : decide (get ee (nm.getD st.length "") ≤ bN st + δ + bP st * get ee (nm.getD 0 "")) = true := by
          rw [nr.2 _ gd0, nr.2 _ gdm, efin, e0]
          have := less_fin ok gz
          have h0 := of_decide_eq_true hB
          exact decide_eq_true (by omega)
        refine ifT rfl ⟨_, rfl, x4, dx5, _, rfl, ec5, cf_no (by decide +kernel) (by decide +kernel) (by decide +kernel), _, rfl, x4, dd, _, _, "<=", ee, rfl, Cb.same s29, edd, sm1 _ _ (by decide) (by decide), sm1 _ _ bP1 bP2, kin _ _ gdm, kin _ _ gd0, fun H30 s30 => ⟨_, rfl, ifF (by rw [due_b hb1]; rfl) ⟨_, _, _, rfl, (bM.trans (But.of s29)).trans (But.of s30), (dM.same s29).same s30⟩⟩⟩
    rintro σ H26 ⟨o14, o15, o16, rfl, _, _⟩
    exact k _
end
end Hw
namespace Hw
open PySem L2 PyProof.Rows
section
variable {P : Program} {w : World} {K : PySem.W.Frag} {mg : Str → Option Value} {base : Heap}
abbrev svalueS : Stmt := inClass (top 5) 1
theorem sc_valueS : FnScope ["self", "numbers"] ["self", "numbers"] (defScope svalueS) := ⟨rfl, rfl, rfl, by decide +kernel, rfl, by decide +kernel, by decide +kernel⟩
theorem ok_valueS {f : Addr} {fd : FuncData} {n : Nat} (F : Fun K "value" "Sum.value" svalueS f fd) {Z : Cz} {Db : Addr} (T : Txt K mg Z.s) (J : TxP K mg) (U : Tx4 K mg Z Db)  : FnOk P w K mg base CX0 1 f fd ["self", "numbers"] (spValueS Z.s) := by
  refine F.ok sc_valueS (fun vs H Q E h => ?_) (fun cdv A outer s H vs Q E hr h => ?_)
  · obtain ⟨p, d, ts, ns, n, rfl, S, N, hw, hk, k⟩ := h
    rfl
  · obtain ⟨p, d, ts, ns, n, rfl, S, N, hw, hk, k⟩ := h
    have hu := hu_of hr
    rw [show defBody svalueS = [_] from rfl]
    refine ⟨_, (pss_one (ps_ret (pe_op op_add (pe_fld (pv 0) rfl) (pe_callB (call_sum rfl) (by rfl) T.sum boot_sum (pa_cons (pe_comp (compSc_mk ["thing", "weight"] ["numbers"] [1] rfl (by decide +kernel) (by decide +kernel) (by with_unfolding_all rfl) (by exact ⟨rfl, trivial⟩) (by rfl) rfl (by rfl)) rfl (pi_tup (pe_fld (pv 0) rfl)) (fun _ _ _ _ => (pg_tupK (K := K) (n := 2) rfl rfl (pgs_cons (pg_name (i := 0) (show List.Nodup (["thing", "weight", "numbers"] : List Str) by decide +kernel) rfl (Or.inl rfl) (Or.inr rfl)) (pgs_cons (pg_name (i := 1) (show List.Nodup (["thing", "weight", "numbers"] : List Str) by decide +kernel) rfl (Or.inl rfl) (Or.inr rfl)) pgs_nil)))) (fun _ _ _ _ => pts_nil) (fun _ _ _ _ => (pe_op op_mul (pv 1) (pe_dget hu (pv 2) (pv 0) (fun _ _ => rfl))))) pa_nil))))), ?_⟩
    obtain ⟨dx, t, hp, ht, hz⟩ := S
    have tz := line _ (show ts.length ≤ 100000 by omega)
    refine ⟨_, rfl, p, Z.s, dx, _, _, rfl, hp, T.cl, T.nN, sflds_number _ _, _, rfl, p, Z.s, dx, _, _, rfl, hp, T.cl, T.nT, sflds_terms _ _, t, rfl, comp_tp ht (fun i ys H' => H' = H ∧ ys = ((ts.take i).map fun q => q.2 * get ns q.1).map V.int) ⟨rfl, rfl⟩ (fun i ys H' q => q.1 ▸ Kp.refl) ?_ ?_⟩
    · rintro i v pr ys H' hi ⟨a, rfl, ha⟩ ⟨rfl, rfl⟩
      have hil : i < ts.length := (List.getElem?_eq_some_iff.mp hi).1
      have hm : pr.1 ∈ keys ns := hk _ (List.mem_map.mpr ⟨pr, List.mem_of_getElem? hi, rfl⟩)
      refine ⟨a, _, rfl, SqT.of ha, rfl, _, _, rfl, _, _, rfl, rfl, Ext.two, alwT ⟨_, rfl, _, rfl, _, rfl, d, _, rfl, nums_get N hm, _, _, rfl, rfl, .inl (hw pr (List.mem_of_getElem? hi)).w, ?_, rfl, ?_⟩⟩
      · rw [List.length_map, List.length_map, List.length_take]
        omega
      · rw [take_snoc hi, List.map_append, List.map_append]
        rfl
    · rintro ys H' ⟨rfl, rfl⟩ q hq
      refine ⟨q, _, rfl, SqL.of upd_same, _, _, rfl, rfl, ?_⟩
      rw [List.take_length, lin_sum]
      exact k _ (new hq)
end
end Hw
namespace Hw
open PySem L2 PyProof.Rows
section
variable {P : Program} {w : World} {K : PySem.W.Frag} {mg : Str → Option Value} {base : Heap}
abbrev scinit : Stmt := inClass (top 13) 0
theorem sc_cinit : FnScope ["self", "one", "sign", "other"] ["self", "one", "sign", "other"] (defScope scinit) := ⟨rfl, rfl, rfl, by decide +kernel, rfl, by decide +kernel, by decide +kernel⟩
theorem ok_cinit {f : Addr} {fd : FuncData} {n : Nat} (F : Fun K "__init__" "Compare.__init__" scinit f fd) {Z : Cz} {Db : Addr} (T : Txt K mg Z.s) (J : TxP K mg) (U : Tx4 K mg Z Db)  : FnOk P w K mg base CX0 1 f fd ["self", "one", "sign", "other"] (spCInit Z) := by
  refine F.ok sc_cinit (fun vs H Q E h => ?_) (fun cdv A outer s H vs Q E hr h => ?_)
  · obtain ⟨p, dx, u, w, s, rfl, hp, k⟩ := h
    rfl
  · obtain ⟨p, dx, u, w, s, rfl, hp, k⟩ := h
    have hu := hu_of hr
    rw [show defBody scinit = [_, _, _] from rfl]
    refine ⟨_, (pss_cons (ps_fld (pv 0) (pv 1) rfl)
      (pss_cons (ps_fld (pv 0) (pv 2) rfl)
      (pss_one (ps_fld (pv 0) (pv 3) rfl)))), ?_⟩
    refine ⟨_, rfl, _, rfl, p, _, dx, _, rfl, hp, U.cc, U.n1, (by show 0 < 1000; decide), ?_⟩
    refine ⟨_, rfl, _, rfl, p, _, dx, _, rfl, upd_same, U.cc, U.n2, (by show 1 < 1000; decide), ?_⟩
    refine ⟨_, rfl, _, rfl, p, _, dx, _, rfl, upd_same, U.cc, U.n3, (by show 2 < 1000; decide), ?_⟩
    exact k _ ((But.upd.trans But.upd).trans But.upd) upd_same
end
end Hw
namespace Hw
open PySem L2 PyProof.Rows
section
variable {P : Program} {w : World} {K : PySem.W.Frag} {mg : Str → Option Value} {base : Heap}
abbrev sdbinit : Stmt := inClass (top 44) 0
theorem sc_dbinit : FnScope ["self", "kind", "at", "ahead", "condition"] ["self", "kind", "at", "ahead", "condition"] (defScope sdbinit) := ⟨rfl, rfl, rfl, by decide +kernel, rfl, by decide +kernel, by decide +kernel⟩
theorem ok_dbinit {f : Addr} {fd : FuncData} {n : Nat} (F : Fun K "__init__" "Debt.__init__" sdbinit f fd) {Z : Cz} {Db : Addr} (T : Txt K mg Z.s) (J : TxP K mg) (U : Tx4 K mg Z Db)  : FnOk P w K mg base CX0 1 f fd ["self", "kind", "at", "ahead", "condition"] (spDbt Db) := by
  refine F.ok sc_dbinit (fun vs H Q E h => ?_) (fun cdv A outer s H vs Q E hr h => ?_)
  · obtain ⟨p, dx, h0, c, k0, a, rfl, hp, k⟩ := h
    rfl
  · obtain ⟨p, dx, h0, c, k0, a, rfl, hp, k⟩ := h
    have hu := hu_of hr
    rw [show defBody sdbinit = [_, _, _, _] from rfl]
    refine ⟨_, (pss_cons (ps_fld (pv 0) (pv 1) rfl)
      (pss_cons (ps_fld (pv 0) (pv 2) rfl)
      (pss_cons (ps_fld (pv 0) (pv 3) rfl)
      (pss_one (ps_fld (pv 0) (pv 4) rfl))))), ?_⟩
    refine ⟨_, rfl, _, rfl, p, _, dx, _, rfl, hp, U.cd, U.nd _ (by decide +kernel), (by show 0 < 1000; decide), ?_⟩
    refine ⟨_, rfl, _, rfl, p, _, dx, _, rfl, upd_same, U.cd, U.nd _ (by decide +kernel), (by show 1 < 1000; decide), ?_⟩
    refine ⟨_, rfl, _, rfl, p, _, dx, _, rfl, upd_same, U.cd, U.nd _ (by decide +kernel), (by show 2 < 1000; decide), ?_⟩
    refine ⟨_, rfl, _, rfl, p, _, dx, _, rfl, upd_same, U.cd, U.nd _ (by decide +kernel), (by show 3 < 1000; decide), ?_⟩
    exact k _ (((But.upd.trans But.upd).trans But.upd).trans But.upd) upd_same
end
end Hw
namespace Hw
open PySem L2 PyProof.Rows
section
variable {P : Program} {w : World} {K : PySem.W.Frag} {mg : Str → Option Value} {base : Heap}
abbrev scompares : Stmt := top 14
theorem sc_compares : FnScope ["one", "sign", "other"] ["one", "sign", "other"] (defScope scompares) := ⟨rfl, rfl, rfl, by decide +kernel, rfl, by decide +kernel, by decide +kernel⟩
theorem ok_compares {f : Addr} {fd : FuncData} {n : Nat} (F : Fun K "compares" "compares" scompares f fd) {Z : Cz} {Db : Addr} (T : Txt K mg Z.s) (J : TxP K mg) (U : Tx4 K mg Z Db)  : FnOk P w K mg base CX0 1 f fd ["one", "sign", "other"] spCompares := by
  refine F.ok sc_compares (fun vs H Q E h => ?_) (fun cdv A outer s H vs Q E hr h => ?_)
  · obtain ⟨x, y, s, rfl, k⟩ := h
    rfl
  · obtain ⟨x, y, s, rfl, k⟩ := h
    have hu := hu_of hr
    rw [show defBody scompares = [_, _, _, _, _, _] from rfl]
    refine ⟨_, (pss_cons (ps_if (pt_cmpR op_eq (pv 1) pe_str (nomark _)) (pss_one (ps_ret (pe_cmpR op_lt (pv 0) (pv 2) (nomark _)))) pss_nil)
      (pss_cons (ps_if (pt_cmpR op_eq (pv 1) pe_str (nomark _)) (pss_one (ps_ret (pe_cmpR op_le (pv 0) (pv 2) (nomark _)))) pss_nil)
      (pss_cons (ps_if (pt_cmpR op_eq (pv 1) pe_str (nomark _)) (pss_one (ps_ret (pe_cmpR op_eq (pv 0) (pv 2) (nomark _)))) pss_nil)
      (pss_cons (ps_if (pt_cmpR op_eq (pv 1) pe_str (nomark _)) (pss_one (ps_ret (pe_cmpR op_ne (pv 0) (pv 2) (nomark _)))) pss_nil)
      (pss_cons (ps_if (pt_cmpR op_eq (pv 1) pe_str (nomark _)) (pss_one (ps_ret (pe_cmpR op_ge (pv 0) (pv 2) (nomark _)))) pss_nil)
      (pss_one (ps_ret (pe_cmpR op_gt (pv 0) (pv 2) (nomark _))))))))), ?_⟩
    by_cases e0 : s = "<"
    · subst e0
      refine ⟨_, rfl, rfl, _, rfl, iteDT rfl ?_⟩
      refine ⟨_, rfl, _, rfl, _, _, rfl, rfl, ?_⟩
      have e : cmpB "<" x y = decide (x < y) := by unfold cmpB; rw [if_pos rfl]
      rw [e] at k
      exact k
    refine ⟨_, rfl, rfl, _, rfl, iteDF (str_ne e0) ?_⟩
    by_cases e1 : s = "<="
    · subst e1
      refine ⟨_, rfl, rfl, _, rfl, iteDT rfl ?_⟩
      refine ⟨_, rfl, _, rfl, _, _, rfl, rfl, ?_⟩
      have e : cmpB "<=" x y = decide (x ≤ y) := by unfold cmpB; rw [if_neg (by decide +kernel), if_pos rfl]
      rw [e] at k
      exact k
    refine ⟨_, rfl, rfl, _, rfl, iteDF (str_ne e1) ?_⟩
    by_cases e2 : s = "="
    · subst e2
      refine ⟨_, rfl, rfl, _, rfl, iteDT rfl ?_⟩
      refine ⟨_, rfl, _, rfl, rfl, ?_⟩
      have e : cmpB "=" x y = decide (V.int x = V.int y) := by unfold cmpB; rw [if_neg (by decide +kernel), if_neg (by decide +kernel), if_pos rfl]; exact dec_i.symm
      rw [e] at k
      exact k
    refine ⟨_, rfl, rfl, _, rfl, iteDF (str_ne e2) ?_⟩
    by_cases e3 : s = "!="
    · subst e3
      refine ⟨_, rfl, rfl, _, rfl, iteDT rfl ?_⟩
      refine ⟨_, rfl, _, rfl, rfl, ?_⟩
      have e : cmpB "!=" x y = !decide (V.int x = V.int y) := by unfold cmpB; rw [if_neg (by decide +kernel), if_neg (by decide +kernel), if_neg (by decide +kernel), if_pos rfl]; rw [dec_i]
      rw [e] at k
      exact k
    refine ⟨_, rfl, rfl, _, rfl, iteDF (str_ne e3) ?_⟩
    by_cases e4 : s = ">="
    · subst e4
      refine ⟨_, rfl, rfl, _, rfl, iteDT rfl ?_⟩
      refine ⟨_, rfl, _, rfl, _, _, rfl, rfl, ?_⟩
      have e : cmpB ">=" x y = decide (y ≤ x) := by unfold cmpB; rw [if_neg (by decide +kernel), if_neg (by decide +kernel), if_neg (by decide +kernel), if_neg (by decide +kernel), if_pos rfl]
      rw [e] at k
      exact k
    refine ⟨_, rfl, rfl, _, rfl, iteDF (str_ne e4) ?_⟩
    refine ⟨_, rfl, _, rfl, _, _, rfl, rfl, ?_⟩
    have e : cmpB s x y = decide (y < x) := by unfold cmpB; rw [if_neg e0, if_neg e1, if_neg e2, if_neg e3, if_neg e4]
    rw [e] at k
    exact k
end
end Hw
namespace Hw
open PySem L2 PyProof.Rows
section
variable {P : Program} {w : World} {K : PySem.W.Frag} {mg : Str → Option Value} {base : Heap}
abbrev srefuse_too_many : Stmt := top 17
theorem sc_refuse_too_many : FnScope ["count"] ["count"] (defScope srefuse_too_many) := ⟨rfl, rfl, rfl, by decide +kernel, rfl, by decide +kernel, by decide +kernel⟩
theorem ok_refuse_too_many {f : Addr} {fd : FuncData} {n : Nat} (F : Fun K "refuse_too_many" "refuse_too_many" srefuse_too_many f fd) {Z : Cz} {Db : Addr} (T : Txt K mg Z.s) (J : TxP K mg) (U : Tx4 K mg Z Db) (d_most : ∃ t, mg "MOST_CASES" = some (.int 64 t)) : FnOk P w K mg base CX0 1 f fd ["count"] spRefuse := by
  obtain ⟨tM, mgM⟩ := d_most
  refine F.ok sc_refuse_too_many (fun vs H Q E h => ?_) (fun cdv A outer s H vs Q E hr h => ?_)
  · obtain ⟨k0, rfl, hk, k⟩ := h
    rfl
  · obtain ⟨k0, rfl, hk, k⟩ := h
    have hu := hu_of hr
    rw [show defBody srefuse_too_many = [_] from rfl]
    refine ⟨_, (pss_one (ps_if (pt_cmpR op_gt (pv 0) (pe_glob (v := .int 64) rfl mgM ⟨_, rfl⟩) (nomark _)) (pss_one ps_dead) pss_nil)), ?_⟩
    exact ⟨_, rfl, _, _, rfl, rfl, _, rfl, iteDF (by omega) k⟩
end
end Hw
namespace Hw
open PySem L2 PyProof.Rows
section
variable {P : Program} {w : World} {K : PySem.W.Frag} {mg : Str → Option Value} {base : Heap}
abbrev sless_one : Stmt := top 15
theorem sc_less_one : FnScope ["total"] ["total"] (defScope sless_one) := ⟨rfl, rfl, rfl, by decide +kernel, rfl, by decide +kernel, by decide +kernel⟩
theorem ok_less_one {f : Addr} {fd : FuncData} {n : Nat} (F : Fun K "less_one" "less_one" sless_one f fd) {Z : Cz} {Db : Addr} (T : Txt K mg Z.s) (J : TxP K mg) (U : Tx4 K mg Z Db) (d_init : Mr P w K mg base 1 Z.s ["self", "terms", "number"] (spInit Z.s)) (d_less : Mt P w K mg base 5 Z.s "less" ["self", "other"] (spLess Z.s)) : FnOk P w K mg base CX0 6 f fd ["total"] (spLessOne Z.s) := by
  obtain ⟨f_init, fd_init, G_Sum_init, M_Sum, b_Sum_init⟩ := d_init
  obtain ⟨f_less, fd_less, G_Sum_less, m_less, b_Sum_less⟩ := d_less
  refine F.ok sc_less_one (fun vs H Q E h => ?_) (fun cdv A outer s H vs Q E hr h => ?_)
  · obtain ⟨p, a, m, rfl, S0, hl, k⟩ := h
    rfl
  · obtain ⟨p, a, m, rfl, S0, hl, k⟩ := h
    have hu := hu_of hr
    rw [show defBody sless_one = [_] from rfl]
    refine ⟨_, (pss_one (ps_ret (pe_meth (pv 0) T.cl m_less G_Sum_less (hr.mono (by first | decide | omega)) b_Sum_less .nil pass0 (pa_cons (pe_make M_Sum G_Sum_init (hr.mono (by first | decide | omega)) rfl T.mg_Sum b_Sum_init .nil pass0 (pa_cons (pe_tup pa_nil) (pa_cons pe_int pa_nil))) pa_nil)))), ?_⟩
    obtain ⟨dx, t, hp, _⟩ := id S0
    refine ⟨_, rfl, p, dx, _, rfl, hp, sflds_no _ _ (by decide +kernel) (by decide +kernel), ?_⟩
    refine ⟨(by show 0 ≤ sizeLine; exact Nat.zero_le _), fun q hq => ?_⟩
    refine fun x dx' hx hdx ne => ?_
    have h1 := made_same (o := .own x) (o' := .ins Z.s dx' []) hx hdx
    have sq := new (o := .tup []) hq
    refine ⟨x, dx', q, 1, [], rfl, upd_same, .inr ⟨[], h1 _ _ upd_same, .nil⟩, (by show 0 ≤ 1000; decide), fun H1 but S1 => ⟨rfl, ?_⟩⟩
    have s1 : Same H H1 := fun b' o z => but b' o (h1 _ _ (sq _ _ z)) (ne_of_none (sq _ _ z) hx)
    refine ⟨p, x, a, [], m, 1, rfl, S0.same s1, S1, (by show a.length + 0 < 64; omega), fun r ts H2 s2 g l Sr => ?_⟩
    refine k r ts H2 (s1.trans s2) ?_ Sr
    have e : a ++ ([] : Ps).map (fun p => (p.1, -p.2)) = a := List.append_nil a
    rw [e] at g
    exact g
end
end Hw
namespace Hw
open PySem L2 PyProof.Rows
section
variable {P : Program} {w : World} {K : PySem.W.Frag} {mg : Str → Option Value} {base : Heap}
abbrev scases_of_both : Stmt := top 16
theorem sc_cases_of_both : FnScope ["ones", "others", "found", "one"] ["ones", "others"] (defScope scases_of_both) := ⟨rfl, rfl, rfl, by decide +kernel, rfl, by decide +kernel, by decide +kernel⟩
theorem ok_cases_of_both {f : Addr} {fd : FuncData} {n : Nat} (F : Fun K "cases_of_both" "cases_of_both" scases_of_both f fd) {Z : Cz} {Db : Addr} (T : Txt K mg Z.s) (J : TxP K mg) (U : Tx4 K mg Z Db) (d_refuse_too_many : Dn P w K mg base 1 "refuse_too_many" ["count"] spRefuse) : FnOk P w K mg base CX0 2 f fd ["ones", "others"] (spBoth Z) := by
  obtain ⟨f_refuse_too_many, fd_refuse_too_many, G_refuse_too_many, mg_refuse_too_many, kp_refuse_too_many, b_refuse_too_many⟩ := d_refuse_too_many
  refine F.ok sc_cases_of_both (fun vs H Q E h => ?_) (fun cdv A outer s H vs Q E hr h => ?_)
  · obtain ⟨o, u, A0, B, rfl, hA, hB, hle, lA, lB, wA, wB, k⟩ := h
    rfl
  · obtain ⟨o, u, A0, B, rfl, hA, hB, hle, lA, lB, wA, wB, k⟩ := h
    have hu := hu_of hr
    rw [show defBody scases_of_both = [_, _, _, _] from rfl]
    refine ⟨_, (pss_cons (ps_expr (pe_call G_refuse_too_many (hr.mono (by first | decide | omega)) rfl mg_refuse_too_many kp_refuse_too_many b_refuse_too_many .nil pass0 (pa_cons (pe_op op_mul (pe_callB call_len_seq (by rfl) T.len PySem.boot_len (pa_cons (pv 0) pa_nil)) (pe_callB call_len_seq (by rfl) T.len PySem.boot_len (pa_cons (pv 1) pa_nil))) pa_nil)))
      (pss_cons (ps_set (i := 2) sc_cases_of_both.nd rfl (Or.inl rfl) (pe_lst pa_nil))
      (pss_cons (ps_for PassesOwn.never rfl (pi_list (pv 0)) (pg_name (i := 3) sc_cases_of_both.nd rfl (Or.inr rfl)) (pss_one (ps_expr (pe_bm PySem.F.plainAttrs_list PySem.F.slot_list_extend PySem.F.type_list_extend mt_extend (pv 2) (pa_cons (pe_comp (compSc_mk ["other"] ["one"] [3] rfl (by decide +kernel) (by decide +kernel) (by with_unfolding_all rfl) (by exact ⟨rfl, trivial⟩) (by rfl) rfl (by rfl)) rfl (pi_list (pv 1)) (fun _ _ _ _ => (pg_name (i := 0) (show List.Nodup (["other", "one"] : List Str) by decide +kernel) rfl (Or.inl rfl) (Or.inr rfl))) (fun _ _ _ _ => pts_nil) (fun _ _ _ _ => (pe_op (op_catUK (K := K) rfl) (pv 1) (pv 0)))) pa_nil)))))
      (pss_one (ps_ret (pv 2)))))), ?_⟩
    obtain ⟨uo, eo, po⟩ := id hA
    obtain ⟨uu, eu, pu⟩ := id hB
    have lo := paired_len po
    have lu := paired_len pu
    refine ⟨_, rfl, o, _, rfl, .inl (SqL.of eo), _, rfl, u, _, rfl, .inl (SqL.of eu), _, _, rfl, rfl, .inl ⟨by omega, by omega⟩, A0.length * B.length, ?_, hle, ?_⟩
    · show [V.int ((uo.length : Int) * (uu.length : Int))] = _
      rw [lo, lu, Int.natCast_mul]
    refine ⟨(by show 0 ≤ sizeLine; exact Nat.zero_le _), fun F hF => ?_⟩
    have s1 := new (o := .lst []) hF
    refine ⟨_, rfl, o, rfl, ⟨uo, SqL.of (s1 _ _ eo)⟩, for_list (xs := uo) (fun i σ H' => ∃ (a3 : Option V) (ys : List V), σ = [some (.ref o), some (.ref u), some (.ref F), a3] ∧ But F (upd H F (.lst [])) H' ∧ H' F = some (.lst ys) ∧ Paired (CaseAt Z H') ys (bothC (A0.take i) B)) ⟨none, [], rfl, fun _ _ e _ => e, upd_same, .nil⟩ ?_ ?_ ?_⟩
    · rintro i σ H' _ ⟨a3, ys, rfl, but, eF, pr⟩
      exact SqL.of (but _ _ (s1 _ _ eo) (ne_of_none eo hF))
    · rintro i x σ H' hi ⟨a3, ys, rfl, but, eF, pr⟩
      have sH : Same H H' := fun b' o' e => but b' o' (s1 _ _ e) (ne_of_none e hF)
      obtain ⟨a, hai, hx⟩ := paired_at po hi
      obtain ⟨ra, va, rfl, era, pa⟩ := hx.hard (Hard.of sH)
      have lva : va.length ≤ 1000 := by rw [paired_len pa]; exact wA _ (List.mem_of_getElem? hai)
      have lys : ys.length ≤ 64 * 64 := by
        rw [paired_len pr, both_len]
        exact Nat.mul_le_mul (by rw [List.length_take]; omega) lB
      refine ⟨_, rfl, .inl ⟨rfl, _, SqL.of eF⟩, _, rfl, u, rfl, ⟨uu, SqL.of (sH _ _ eu)⟩, comp_list (xs := uu) (fun j zs H2 => Same H' H2 ∧ Paired (CaseAt Z H2) zs ((B.take j).map (a ++ ·))) ⟨fun _ _ z => z, .nil⟩ (fun j zs H2 _ q => SqL.of (q.1 _ _ (sH _ _ eu))) ?_ ?_⟩
      · rintro j y zs H2 hj ⟨sm, pz⟩
        obtain ⟨b, hbj, hy⟩ := paired_at pu hj
        obtain ⟨rb, vb, rfl, erb, pb⟩ := hy.hard (Hard.of (sH.trans sm))
        have pa2 := L2.Paired.mapP pa fun _ _ ⟨q, e, s⟩ => (⟨q, e, s.same sm⟩ : ∃ p, _ = V.ref p ∧ SumAt Z.s H2 p _ _)
        have era2 := sm _ _ era
        have lvb : vb.length ≤ 1000 := by rw [paired_len pb]; exact wB _ (List.mem_of_getElem? hbj)
        have lzs : zs.length ≤ 64 := by
          rw [paired_len pz, List.length_map, List.length_take]
          omega
        have step : ∀ (v : V) (H3 : Hp), Same H2 H3 → CaseAt Z H3 v (a ++ b) → (zs.length < sizeLine ∧ Same H' H3 ∧ Paired (CaseAt Z H3) (zs ++ [v]) ((B.take (j + 1)).map (a ++ ·))) := fun v H3 s3 hc => by
          refine ⟨line _ (by omega), sm.trans s3, ?_⟩
          rw [take_snoc hbj, List.map_append]
          exact paired_snoc (L2.Paired.mapP pz fun _ _ z => z.hard (Hard.of s3)) hc
        refine ⟨Ext.one, alwT ⟨_, rfl, _, rfl, ra, rb, _, _, rfl, rfl, SqT.of era2, SqT.of erb, Nat.le_of_lt (line _ (by omega)), ?_, ?_, ?_⟩⟩
        · intro z
          subst z
          have ea : a = [] := by cases pa2; rfl
          subst ea
          exact step _ _ (fun _ _ z => z) ⟨rb, vb, rfl, erb, pb⟩
        · intro _ z
          subst z
          have eb : b = [] := by cases pb; rfl
          subst eb
          exact step _ _ (fun _ _ z => z) ⟨ra, va, rfl, era2, by rw [List.append_nil]; exact pa2⟩
        · intro _ _ q hq
          refine step _ _ (new hq) ⟨q, va ++ vb, rfl, upd_same, ?_⟩
          exact paired_app (L2.Paired.mapP pa2 fun _ _ ⟨q', e, s⟩ => ⟨q', e, s.same (new hq)⟩) (L2.Paired.mapP pb fun _ _ ⟨q', e, s⟩ => ⟨q', e, s.same (new hq)⟩)
      · rintro zs H2 ⟨sm, pz⟩ q hq
        have lzs : zs.length ≤ 64 := by
          rw [paired_len pz, List.length_map, List.length_take]
          omega
        have eF2 := new (o := .lst zs) hq _ _ (sm _ _ eF)
        rw [lu, List.take_length] at pz
        refine ⟨F, q, ys, zs, rfl, rfl, eF2, upd_same, Nat.le_of_lt (line _ (by omega)), ?_⟩
        have b2 : But F H' (upd (upd H2 q (.lst zs)) F (.lst (ys ++ zs))) := ((But.of (sm.trans (new hq))).trans But.upd)
        have hd2 : Hard H' (upd (upd H2 q (.lst zs)) F (.lst (ys ++ zs))) := Hard.soft b2 eF soft_l
        have b3 : But F H2 (upd (upd H2 q (.lst zs)) F (.lst (ys ++ zs))) := (But.of (new hq)).trans But.upd
        have hd3 : Hard H2 (upd (upd H2 q (.lst zs)) F (.lst (ys ++ zs))) := Hard.soft b3 (sm _ _ eF) soft_l
        refine ⟨some (.ref ra), ys ++ zs, rfl, but.trans b2, upd_same, ?_⟩
        rw [take_snoc hai, both_snoc]
        exact paired_app (L2.Paired.mapP pr fun _ _ z => z.hard hd2) (L2.Paired.mapP pz fun _ _ z => z.hard hd3)
    · rintro σ H' ⟨a3, ys, rfl, but, eF, pr⟩
      have sH : Same H H' := fun b' o' e => but b' o' (s1 _ _ e) (ne_of_none e hF)
      rw [lo, List.take_length] at pr
      exact ⟨_, rfl, k F H' sH ⟨ys, eF, pr⟩⟩
end
end Hw
namespace Hw
open PySem L2 PyProof.Rows
section
variable {P : Program} {w : World} {K : PySem.W.Frag} {mg : Str → Option Value} {base : Heap}
abbrev sonce : Stmt := top 7
theorem sc_once : FnScope ["thing"] ["thing"] (defScope sonce) := ⟨rfl, rfl, rfl, by decide +kernel, rfl, by decide +kernel, by decide +kernel⟩
theorem ok_once {f : Addr} {fd : FuncData} {n : Nat} (F : Fun K "once" "once" sonce f fd) {Z : Cz} {Db : Addr} (T : Txt K mg Z.s) (J : TxP K mg) (U : Tx4 K mg Z Db) (d_init : Mr P w K mg base 1 Z.s ["self", "terms", "number"] (spInit Z.s)) : FnOk P w K mg base CX0 3 f fd ["thing"] (spOnce Z.s) := by
  obtain ⟨f_init, fd_init, G_Sum_init, M_Sum, b_Sum_init⟩ := d_init
  refine F.ok sc_once (fun vs H Q E h => ?_) (fun cdv A outer s H vs Q E hr h => ?_)
  · obtain ⟨x, rfl, k⟩ := h
    rfl
  · obtain ⟨x, rfl, k⟩ := h
    have hu := hu_of hr
    rw [show defBody sonce = [_] from rfl]
    refine ⟨_, (pss_one (ps_ret (pe_make M_Sum G_Sum_init (hr.mono (by first | decide | omega)) rfl T.mg_Sum b_Sum_init .nil pass0 (pa_cons (pe_tup (pa_cons (pe_tup (pa_cons (pv 0) (pa_cons pe_int pa_nil))) pa_nil)) (pa_cons pe_int pa_nil))))), ?_⟩
    refine ⟨_, rfl, (by show 2 ≤ sizeLine; exact Nat.le_of_lt (line 2 (by decide))), fun q hq => ⟨(Nat.le_of_lt (line 1 (by decide))), fun t ht => fun x' dx' hx hdx ne => ?_⟩⟩
    have sA := (new (o := .tup [.str x, .int 1]) hq).trans (new (o := .tup [V.ref q]) ht)
    have h1 : Same (upd (upd H q (.tup [.str x, .int 1])) t (.tup [V.ref q])) (upd (upd (upd (upd H q (.tup [.str x, .int 1])) t (.tup [V.ref q])) dx' (.own x')) x' (.ins Z.s dx' [])) := made_same hx hdx
    refine ⟨x', dx', t, 0, [(x, 1)], rfl, upd_same, .inr ⟨[V.ref q], h1 _ _ upd_same, prs_one ⟨q, rfl, h1 _ _ (new ht _ _ upd_same)⟩⟩, (by show 1 ≤ 1000; decide), fun H2 but S => ⟨rfl, ?_⟩⟩
    exact k x' H2 (fun b o z => but b o (h1 _ _ (sA _ _ z)) (ne_of_none (sA _ _ z) hx)) S
end
end Hw
namespace Hw
open PySem L2 PyProof.Rows
section
variable {P : Program} {w : World} {K : PySem.W.Frag} {mg : Str → Option Value} {base : Heap}
abbrev sunknown : Stmt := top 39
theorem sc_unknown : FnScope ["place"] ["place"] (defScope sunknown) := ⟨rfl, rfl, rfl, by decide +kernel, rfl, by decide +kernel, by decide +kernel⟩
theorem ok_unknown {f : Addr} {fd : FuncData} {n : Nat} (F : Fun K "unknown" "unknown" sunknown f fd) {Z : Cz} {Db : Addr} (T : Txt K mg Z.s) (J : TxP K mg) (U : Tx4 K mg Z Db)  : FnOk P w K mg base CX0 1 f fd ["place"] spUnk := by
  refine F.ok sc_unknown (fun vs H Q E h => ?_) (fun cdv A outer s H vs Q E hr h => ?_)
  · obtain ⟨n0, rfl, h6, k⟩ := h
    rfl
  · obtain ⟨n0, rfl, h6, k⟩ := h
    have hu := hu_of hr
    rw [show defBody sunknown = [_] from rfl]
    refine ⟨_, (pss_one (ps_ret (pe_op op_add_str pe_str (pe_callTy call_str_int (by rfl) T.str boot_str (pa_cons (pv 0) pa_nil))))), ?_⟩
    have lg : ((n0 : Int).natAbs.log2) < 1920 := by
      have : n0 = 0 ∨ n0 = 1 ∨ n0 = 2 ∨ n0 = 3 ∨ n0 = 4 ∨ n0 = 5 := by omega
      rcases this with e | e | e | e | e | e <;> subst e <;> decide +kernel
    have lz : ("?" : Str).length + (Str.ofString (toString (n0 : Int))).length ≤ sizeLine := by
      have : n0 = 0 ∨ n0 = 1 ∨ n0 = 2 ∨ n0 = 3 ∨ n0 = 4 ∨ n0 = 5 := by omega
      rw [sizeLine_eq]
      rcases this with e | e | e | e | e | e <;> subst e <;> decide +kernel
    exact ⟨_, rfl, (n0 : Int), rfl, lg, _, _, rfl, rfl, lz, k⟩
end
end Hw
namespace Hw
open PySem L2 PyProof.Rows
section
variable {P : Program} {w : World} {K : PySem.W.Frag} {mg : Str → Option Value} {base : Heap}
abbrev scholds : Stmt := inClass (top 13) 2
theorem sc_cholds : FnScope ["self", "numbers"] ["self", "numbers"] (defScope scholds) := ⟨rfl, rfl, rfl, by decide +kernel, rfl, by decide +kernel, by decide +kernel⟩
theorem ok_cholds {f : Addr} {fd : FuncData} {n : Nat} (F : Fun K "holds" "Compare.holds" scholds f fd) {Z : Cz} {Db : Addr} (T : Txt K mg Z.s) (J : TxP K mg) (U : Tx4 K mg Z Db) (d_valueS : Mt P w K mg base 1 Z.s "value" ["self", "numbers"] (spValueS Z.s)) (d_compares : Dn P w K mg base 1 "compares" ["one", "sign", "other"] spCompares) : FnOk P w K mg base CX0 2 f fd ["self", "numbers"] (spCH Z) := by
  obtain ⟨f_value, fd_value, G_Sum_value, m_value, b_Sum_value⟩ := d_valueS
  obtain ⟨f_compares, fd_compares, G_compares, mg_compares, kp_compares, b_compares⟩ := d_compares
  refine F.ok sc_cholds (fun vs H Q E h => ?_) (fun cdv A outer s H vs Q E hr h => ?_)
  · obtain ⟨p, d, a, b, s, ns, rfl, hc, hd, wa, wb, ia, ib, k⟩ := h
    rfl
  · obtain ⟨p, d, a, b, s, ns, rfl, hc, hd, wa, wb, ia, ib, k⟩ := h
    have hu := hu_of hr
    rw [show defBody scholds = [_] from rfl]
    refine ⟨_, (pss_one (ps_ret (pe_call G_compares (hr.mono (by first | decide | omega)) rfl mg_compares kp_compares b_compares .nil pass0 (pa_cons (pe_meth (pe_fld (pv 0) rfl) T.cl m_value G_Sum_value (hr.mono (by first | decide | omega)) b_Sum_value .nil pass0 (pa_cons (pv 1) pa_nil)) (pa_cons (pe_fld (pv 0) rfl) (pa_cons (pe_meth (pe_fld (pv 0) rfl) T.cl m_value G_Sum_value (hr.mono (by first | decide | omega)) b_Sum_value .nil pass0 (pa_cons (pv 1) pa_nil)) pa_nil)))))), ?_⟩
    obtain ⟨dx, u, w0, ep, s1, s2⟩ := hc
    obtain ⟨du, tu, hu', _⟩ := id s1
    obtain ⟨dw, tw, hw', _⟩ := id s2
    refine ⟨_, rfl, p, Z.c, dx, _, _, rfl, ep, U.cc, U.n1, lk_c1 _ _ _, u, du, _, rfl, hu', sflds_no _ _ (by decide +kernel) (by decide +kernel), _, rfl, u, d, a.1, ns, a.2, rfl, s1, hd, wa, ia, fun H1 sm1 => ?_⟩
    refine ⟨_, rfl, p, Z.c, dx, _, _, rfl, sm1 _ _ ep, U.cc, U.n2, lk_c2 _ _ _, ?_⟩
    refine ⟨_, rfl, p, Z.c, dx, _, _, rfl, sm1 _ _ ep, U.cc, U.n3, lk_c3 _ _ _, w0, dw, _, rfl, sm1 _ _ hw', sflds_no _ _ (by decide +kernel) (by decide +kernel), _, rfl, w0, d, b.1, ns, b.2, rfl, s2.same sm1, sm1 _ _ hd, wb, ib, fun H2 sm2 => ?_⟩
    exact ⟨_, _, s, rfl, k _ (sm1.trans sm2)⟩
end
end Hw
namespace Hw
open PySem L2 PyProof.Rows
section
variable {P : Program} {w : World} {K : PySem.W.Frag} {mg : Str → Option Value} {base : Heap}
abbrev scput_in : Stmt := inClass (top 13) 3
theorem sc_cput_in : FnScope ["self", "sums"] ["self", "sums"] (defScope scput_in) := ⟨rfl, rfl, rfl, by decide +kernel, rfl, by decide +kernel, by decide +kernel⟩
theorem ok_cput_in {f : Addr} {fd : FuncData} {n : Nat} (F : Fun K "put_in" "Compare.put_in" scput_in f fd) {Z : Cz} {Db : Addr} (T : Txt K mg Z.s) (J : TxP K mg) (U : Tx4 K mg Z Db) (d_put_in : Mt P w K mg base 5 Z.s "put_in" ["self", "sums"] (spPutIn Z.s)) (d_cinit : Mr P w K mg base 1 Z.c ["self", "one", "sign", "other"] (spCInit Z)) : FnOk P w K mg base CX0 6 f fd ["self", "sums"] (spCPI Z) := by
  obtain ⟨f_put_in, fd_put_in, G_Sum_put_in, m_put_in, b_Sum_put_in⟩ := d_put_in
  obtain ⟨f_ci, fd_ci, G_Compare_init, M_Compare, b_Compare_init⟩ := d_cinit
  refine F.ok sc_cput_in (fun vs H Q E h => ?_) (fun cdv A outer s H vs Q E hr h => ?_)
  · obtain ⟨p, d, a, b, s, kvs, S, rfl, hc, rd, rl, ha, hb, hf, k⟩ := h
    rfl
  · obtain ⟨p, d, a, b, s, kvs, S, rfl, hc, rd, rl, ha, hb, hf, k⟩ := h
    have hu := hu_of hr
    rw [show defBody scput_in = [_] from rfl]
    refine ⟨_, (pss_one (ps_ret (pe_make M_Compare G_Compare_init (hr.mono (by first | decide | omega)) rfl U.mgC b_Compare_init .nil pass0 (pa_cons (pe_meth (pe_fld (pv 0) rfl) T.cl m_put_in G_Sum_put_in (hr.mono (by first | decide | omega)) b_Sum_put_in .nil pass0 (pa_cons (pv 1) pa_nil)) (pa_cons (pe_fld (pv 0) rfl) (pa_cons (pe_meth (pe_fld (pv 0) rfl) T.cl m_put_in G_Sum_put_in (hr.mono (by first | decide | omega)) b_Sum_put_in .nil pass0 (pa_cons (pv 1) pa_nil)) pa_nil)))))), ?_⟩
    obtain ⟨dx, u, w0, ep, s1, s2⟩ := hc
    obtain ⟨du, tu, hu', _⟩ := id s1
    obtain ⟨dw, tw, hw', _⟩ := id s2
    refine ⟨_, rfl, p, Z.c, dx, _, _, rfl, ep, U.cc, U.n1, lk_c1 _ _ _, u, du, _, rfl, hu', sflds_no _ _ (by decide +kernel) (by decide +kernel), _, rfl, u, d, a.1, a.2, kvs, S, rfl, s1, .inl rd, rl, ha, hf, fun r1 us1 H1 sm1 g1 S1 => ?_⟩
    refine ⟨_, rfl, p, Z.c, dx, _, _, rfl, sm1 _ _ ep, U.cc, U.n2, lk_c2 _ _ _, ?_⟩
    refine ⟨_, rfl, p, Z.c, dx, _, _, rfl, sm1 _ _ ep, U.cc, U.n3, lk_c3 _ _ _, w0, dw, _, rfl, sm1 _ _ hw', sflds_no _ _ (by decide +kernel) (by decide +kernel), _, rfl, w0, d, b.1, b.2, kvs, S, rfl, s2.same sm1, .inl (sm1 _ _ rd), rl.mono (fun u q z => SumAt.same z sm1), hb, hf, fun r2 us2 H2 sm2 g2 S2 => ?_⟩
    refine fun x dx' hx hdx ne => ?_
    have h1 := made_same (o := .own x) (o' := .ins Z.c dx' []) hx hdx
    refine ⟨x, dx', r1, r2, s, rfl, upd_same, fun H3 but e1 => ⟨rfl, ?_⟩⟩
    have s3 : Same H2 H3 := fun b' o z => but b' o (h1 _ _ z) (ne_of_none z hx)
    exact k x (us1, _) (us2, _) H3 ((sm1.trans sm2).trans s3) g1 rfl g2 rfl ⟨dx', r1, r2, e1, (S1.same sm2).same s3, S2.same s3⟩
end
end Hw
namespace Hw
open PySem L2 PyProof.Rows
section
variable {P : Program} {w : World} {K : PySem.W.Frag} {mg : Str → Option Value} {base : Heap}
abbrev scopposite : Stmt := inClass (top 13) 5
theorem sc_copposite : FnScope ["self"] ["self"] (defScope scopposite) := ⟨rfl, rfl, rfl, by decide +kernel, rfl, by decide +kernel, by decide +kernel⟩
theorem ok_copposite {f : Addr} {fd : FuncData} {n : Nat} (F : Fun K "opposite" "Compare.opposite" scopposite f fd) {Z : Cz} {Db : Addr} (T : Txt K mg Z.s) (J : TxP K mg) (U : Tx4 K mg Z Db) (d_cinit : Mr P w K mg base 1 Z.c ["self", "one", "sign", "other"] (spCInit Z)) (d_oppd : OppD P w K mg) : FnOk P w K mg base CX0 3 f fd ["self"] (spCOp Z) := by
  obtain ⟨f_ci, fd_ci, G_Compare_init, M_Compare, b_Compare_init⟩ := d_cinit
  obtain ⟨D, mgD, kd⟩ := d_oppd
  refine F.ok sc_copposite (fun vs H Q E h => ?_) (fun cdv A outer s H vs Q E hr h => ?_)
  · obtain ⟨p, a, b, s, rfl, hc, ho, k⟩ := h
    rfl
  · obtain ⟨p, a, b, s, rfl, hc, ho, k⟩ := h
    have hu := hu_of hr
    rw [show defBody scopposite = [_] from rfl]
    refine ⟨_, (pss_one (ps_ret (pe_make M_Compare G_Compare_init (hr.mono (by first | decide | omega)) rfl U.mgC b_Compare_init .nil pass0 (pa_cons (pe_fld (pv 0) rfl) (pa_cons (pe_kget rfl mgD kd (pe_fld (pv 0) rfl) (fun _ _ => rfl)) (pa_cons (pe_fld (pv 0) rfl) pa_nil)))))), ?_⟩
    obtain ⟨dx, u, w0, ep, s1, s2⟩ := hc
    refine ⟨_, rfl, p, Z.c, dx, _, _, rfl, ep, U.cc, U.n1, lk_c1 _ _ _, ?_⟩
    refine ⟨_, rfl, p, Z.c, dx, _, _, rfl, ep, U.cc, U.n2, lk_c2 _ _ _, Sum.inr s, _, rfl, oppT_at ho, ?_⟩
    refine ⟨_, rfl, p, Z.c, dx, _, _, rfl, ep, U.cc, U.n3, lk_c3 _ _ _, fun x dx' hx hdx ne => ?_⟩
    have h1 := made_same (o := .own x) (o' := .ins Z.c dx' []) hx hdx
    refine ⟨x, dx', u, w0, oppS s, rfl, upd_same, fun H3 but e1 => ⟨rfl, ?_⟩⟩
    have s3 : Same H H3 := fun b' o z => but b' o (h1 _ _ z) (ne_of_none z hx)
    exact k x H3 s3 ⟨dx', u, w0, e1, s1.same s3, s2.same s3⟩
end
end Hw
namespace Hw
open PySem L2 PyProof.Rows
section
variable {P : Program} {w : World} {K : PySem.W.Frag} {mg : Str → Option Value} {base : Heap}
abbrev sccases : Stmt := inClass (top 13) 6
theorem sc_ccases : FnScope ["self", "rise", "drop"] ["self"] (defScope sccases) := ⟨rfl, rfl, rfl, by decide +kernel, rfl, by decide +kernel, by decide +kernel⟩
theorem ok_ccases {f : Addr} {fd : FuncData} {n : Nat} (F : Fun K "cases" "Compare.cases" sccases f fd) {Z : Cz} {Db : Addr} (T : Txt K mg Z.s) (J : TxP K mg) (U : Tx4 K mg Z Db) (d_less : Mt P w K mg base 5 Z.s "less" ["self", "other"] (spLess Z.s)) (d_less_one : Dn P w K mg base 6 "less_one" ["total"] (spLessOne Z.s)) : FnOk P w K mg base CX0 7 f fd ["self"] (spCCs Z) := by
  obtain ⟨f_less, fd_less, G_Sum_less, m_less, b_Sum_less⟩ := d_less
  obtain ⟨f_less_one, fd_less_one, G_less_one, mg_less_one, kp_less_one, b_less_one⟩ := d_less_one
  refine F.ok sc_ccases (fun vs H Q E h => ?_) (fun cdv A outer s H vs Q E hr h => ?_)
  · obtain ⟨p, a, b, s, xs, rfl, hc, la, lb, ia, ib, hs, k⟩ := h
    rfl
  · obtain ⟨p, a, b, s, xs, rfl, hc, la, lb, ia, ib, hs, k⟩ := h
    have hu := hu_of hr
    rw [show defBody sccases = [_, _, _, _, _, _, _, _] from rfl]
    refine ⟨_, (pss_cons (ps_set (i := 1) sc_ccases.nd rfl (Or.inl rfl) (pe_meth (pe_fld (pv 0) rfl) T.cl m_less G_Sum_less (hr.mono (by first | decide | omega)) b_Sum_less .nil pass0 (pa_cons (pe_fld (pv 0) rfl) pa_nil)))
      (pss_cons (ps_set (i := 2) sc_ccases.nd rfl (Or.inl rfl) (pe_meth (pe_fld (pv 0) rfl) T.cl m_less G_Sum_less (hr.mono (by first | decide | omega)) b_Sum_less .nil pass0 (pa_cons (pe_fld (pv 0) rfl) pa_nil)))
      (pss_cons (ps_if (pt_cmpR op_eq (pe_fld (pv 0) rfl) pe_str (nomark _)) (pss_one (ps_ret (pe_lst (pa_cons (pe_tup (pa_cons (pe_call G_less_one (hr.mono (by first | decide | omega)) rfl mg_less_one kp_less_one b_less_one .nil pass0 (pa_cons (pv 1) pa_nil)) pa_nil)) pa_nil)))) pss_nil)
      (pss_cons (ps_if (pt_cmpR op_eq (pe_fld (pv 0) rfl) pe_str (nomark _)) (pss_one (ps_ret (pe_lst (pa_cons (pe_tup (pa_cons (pv 1) pa_nil)) pa_nil)))) pss_nil)
      (pss_cons (ps_if (pt_cmpR op_eq (pe_fld (pv 0) rfl) pe_str (nomark _)) (pss_one (ps_ret (pe_lst (pa_cons (pe_tup (pa_cons (pe_call G_less_one (hr.mono (by first | decide | omega)) rfl mg_less_one kp_less_one b_less_one .nil pass0 (pa_cons (pv 2) pa_nil)) pa_nil)) pa_nil)))) pss_nil)
      (pss_cons (ps_if (pt_cmpR op_eq (pe_fld (pv 0) rfl) pe_str (nomark _)) (pss_one (ps_ret (pe_lst (pa_cons (pe_tup (pa_cons (pv 2) pa_nil)) pa_nil)))) pss_nil)
      (pss_cons (ps_if (pt_cmpR op_eq (pe_fld (pv 0) rfl) pe_str (nomark _)) (pss_one (ps_ret (pe_lst (pa_cons (pe_tup (pa_cons (pv 1) (pa_cons (pv 2) pa_nil))) pa_nil)))) pss_nil)
      (pss_one (ps_ret (pe_lst (pa_cons (pe_tup (pa_cons (pe_call G_less_one (hr.mono (by first | decide | omega)) rfl mg_less_one kp_less_one b_less_one .nil pass0 (pa_cons (pv 1) pa_nil)) pa_nil)) (pa_cons (pe_tup (pa_cons (pe_call G_less_one (hr.mono (by first | decide | omega)) rfl mg_less_one kp_less_one b_less_one .nil pass0 (pa_cons (pv 2) pa_nil)) pa_nil)) pa_nil)))))))))))), ?_⟩
    obtain ⟨dx, u, w0, ep, s1, s2⟩ := hc
    obtain ⟨du, tu, hu', _⟩ := id s1
    obtain ⟨dw, tw, hw', _⟩ := id s2
    refine ⟨_, rfl, p, Z.c, dx, _, _, rfl, ep, U.cc, U.n3, lk_c3 _ _ _, w0, dw, _, rfl, hw', sflds_no _ _ (by decide +kernel) (by decide +kernel), _, rfl, p, Z.c, dx, _, _, rfl, ep, U.cc, U.n1, lk_c1 _ _ _, w0, u, b.1, a.1, b.2, a.2, rfl, s2, s1, by omega, fun r1 tr H1 sm1 g1 lr Sr => ?_⟩
    refine ⟨_, rfl, p, Z.c, dx, _, _, rfl, sm1 _ _ ep, U.cc, U.n1, lk_c1 _ _ _, u, du, _, rfl, sm1 _ _ hu', sflds_no _ _ (by decide +kernel) (by decide +kernel), _, rfl, p, Z.c, dx, _, _, rfl, sm1 _ _ ep, U.cc, U.n3, lk_c3 _ _ _, u, w0, a.1, b.1, a.2, b.2, rfl, s1.same sm1, s2.same sm1, by omega, fun r2 td H2 sm2 g2 ld Sd => ?_⟩
    have sA := sm1.trans sm2
    have Sr := Sr.same sm2
    have kin : ∀ (x y : Sm), (∀ t ∈ keys x.1, t ∈ xs) → (∀ t ∈ keys y.1, t ∈ xs) → ∀ t ∈ keys (x.1 ++ y.1.map fun p => (p.1, -p.2)), t ∈ xs := fun x y hx hy t ht => by
      rw [keys_ap2, keys_map y.1 fun p => -p.2] at ht
      exact (List.mem_append.mp ht).elim (hx t) (hy t)
    rcases hs with hs | hs
    · subst hs
      refine ⟨_, rfl, p, Z.c, dx, _, _, rfl, sA _ _ ep, U.cc, U.n2, lk_c2 _ _ _, rfl, _, rfl, iteDF (str_ne (by decide +kernel)) ?_⟩
      refine ⟨_, rfl, p, Z.c, dx, _, _, rfl, sA _ _ ep, U.cc, U.n2, lk_c2 _ _ _, rfl, _, rfl, iteDT rfl ?_⟩
      refine ⟨_, rfl, (Nat.le_of_lt (line 1 (by decide))), fun q hq => ⟨(Nat.le_of_lt (line 1 (by decide))), fun F hF => ?_⟩⟩
      have sB := (new (o := .tup [.ref r1]) hq).trans (new (o := .lst [.ref q]) hF)
      refine k F (tr, b.2 - a.2) _ (sA.trans sB) ⟨[.ref q], upd_same, .cons ⟨q, [.ref r1], rfl, new hF _ _ upd_same, .cons ⟨r1, rfl, Sr.same sB⟩ .nil⟩ .nil⟩ (gat_gm g1 (kin b a ib ia)) fun f => ?_
      show b.2 - a.2 + lin tr f = cdif "<=" a b f
      rw [g1.2, lin_append, lin_neg]
      unfold cdif
      rw [if_pos rfl]
      unfold ev
      omega
    · subst hs
      refine ⟨_, rfl, p, Z.c, dx, _, _, rfl, sA _ _ ep, U.cc, U.n2, lk_c2 _ _ _, rfl, _, rfl, iteDF (str_ne (by decide +kernel)) ?_⟩
      refine ⟨_, rfl, p, Z.c, dx, _, _, rfl, sA _ _ ep, U.cc, U.n2, lk_c2 _ _ _, rfl, _, rfl, iteDF (str_ne (by decide +kernel)) ?_⟩
      refine ⟨_, rfl, p, Z.c, dx, _, _, rfl, sA _ _ ep, U.cc, U.n2, lk_c2 _ _ _, rfl, _, rfl, iteDT rfl ?_⟩
      refine ⟨_, rfl, r2, td, a.2 - b.2, rfl, Sd, by omega, fun r3 t3 H3 s3 g3 S3 => ⟨(Nat.le_of_lt (line 1 (by decide))), fun q hq => ⟨(Nat.le_of_lt (line 1 (by decide))), fun F hF => ?_⟩⟩⟩
      have sC := (new (o := .tup [.ref r3]) hq).trans (new (o := .lst [.ref q]) hF)
      have sB := s3.trans sC
      refine k F (t3, a.2 - b.2 - 1) _ (sA.trans sB) ⟨[.ref q], upd_same, .cons ⟨q, [.ref r3], rfl, new hF _ _ upd_same, .cons ⟨r3, rfl, S3.same sC⟩ .nil⟩ .nil⟩ (gat_gm g3 fun t ht => kin a b ia ib t (g2.keys ht)) fun f => ?_
      show a.2 - b.2 - 1 + lin t3 f = cdif ">" a b f
      rw [g3.2, g2.2, lin_append, lin_neg]
      unfold cdif
      rw [if_neg (by decide +kernel)]
      unfold ev
      omega
end
end Hw
namespace Hw
open PySem L2 PyProof.Rows
section
variable {P : Program} {w : World} {K : PySem.W.Frag} {mg : Str → Option Value} {base : Heap}
abbrev sis_never_met : Stmt := top 41
theorem sc_is_never_met : FnScope ["case"] ["case"] (defScope sis_never_met) := ⟨rfl, rfl, rfl, by decide +kernel, rfl, by decide +kernel, by decide +kernel⟩
theorem ok_is_never_met {f : Addr} {fd : FuncData} {n : Nat} (F : Fun K "is_never_met" "is_never_met" sis_never_met f fd) {Z : Cz} {Db : Addr} (T : Txt K mg Z.s) (J : TxP K mg) (U : Tx4 K mg Z Db) (d_is_never : Dn P w K mg base 1 "is_never" ["total"] (spNever Z.s)) : FnOk P w K mg base CX0 2 f fd ["case"] (spNeverMet Z.s) := by
  obtain ⟨f_is_never, fd_is_never, G_is_never, mg_is_never, kp_is_never, b_is_never⟩ := d_is_never
  refine F.ok sc_is_never_met (fun vs H Q E h => ?_) (fun cdv A outer s H vs Q E hr h => ?_)
  · obtain ⟨t, us, ss, rfl, ht, hS, hl, k⟩ := h
    rfl
  · obtain ⟨t, us, ss, rfl, ht, hS, hl, k⟩ := h
    have hu := hu_of hr
    rw [show defBody sis_never_met = [_] from rfl]
    refine ⟨_, (pss_one (ps_ret (pe_callB (call_any rfl) (by rfl) U.any boot_any (pa_cons (pe_comp (compSc_mk ["total"] [] [] rfl (by decide +kernel) (by decide +kernel) (by with_unfolding_all rfl) (by exact trivial) (by rfl) rfl (by rfl)) rfl (pi_tup (pv 0)) (fun _ _ _ _ => (pg_name (i := 0) (show List.Nodup (["total"] : List Str) by decide +kernel) rfl (Or.inl rfl) (Or.inr rfl))) (fun _ _ _ _ => pts_nil) (fun _ _ _ _ => (pe_call G_is_never (hr.mono (by first | decide | omega)) rfl mg_is_never kp_is_never b_is_never .nil pass0 (pa_cons (pv 0) pa_nil)))) pa_nil)))), ?_⟩
    refine ⟨_, rfl, t, rfl, ⟨us, SqT.of ht⟩, comp_tup (xs := us) (fun i ys H' => H' = H ∧ ys = ((ss.take i).map nevB).map V.bl) ⟨rfl, rfl⟩ (fun i ys H' _ q => by rw [q.1]; exact SqT.of ht) ?_ ?_⟩
    · rintro i v ys H' hi ⟨rfl, rfl⟩
      obtain ⟨s, es, p, rfl, S⟩ := paired_at hS hi
      refine ⟨Ext.one, alwT ⟨_, rfl, p, s.1, s.2, rfl, S, ?_, rfl, ?_⟩⟩
      · rw [List.length_map, List.length_map, List.length_take]
        have := paired_len hS
        exact line _ (by omega)
      · rw [take_snoc es, List.map_append, List.map_append]
        rfl
    rintro ys H' ⟨rfl, rfl⟩ q hq
    have el := paired_len hS
    refine ⟨q, _, rfl, SqL.of upd_same, ?_⟩
    rw [el, List.take_length, List.any_map]
    exact k _ (new hq)
end
end Hw
namespace Hw
open PySem L2 PyProof.Rows
section
variable {P : Program} {w : World} {K : PySem.W.Frag} {mg : Str → Option Value} {base : Heap}
abbrev swithout_plain : Stmt := top 42
theorem sc_without_plain : FnScope ["case"] ["case"] (defScope swithout_plain) := ⟨rfl, rfl, rfl, by decide +kernel, rfl, by decide +kernel, by decide +kernel⟩
theorem ok_without_plain {f : Addr} {fd : FuncData} {n : Nat} (F : Fun K "without_plain" "without_plain" swithout_plain f fd) {Z : Cz} {Db : Addr} (T : Txt K mg Z.s) (J : TxP K mg) (U : Tx4 K mg Z Db)  : FnOk P w K mg base CX0 1 f fd ["case"] (spWithout Z.s) := by
  refine F.ok sc_without_plain (fun vs H Q E h => ?_) (fun cdv A outer s H vs Q E hr h => ?_)
  · obtain ⟨t, us, ss, rfl, ht, hS, hl, k⟩ := h
    rfl
  · obtain ⟨t, us, ss, rfl, ht, hS, hl, k⟩ := h
    have hu := hu_of hr
    rw [show defBody swithout_plain = [_] from rfl]
    refine ⟨_, (pss_one (ps_ret (pe_callTy call_tuple_of (by rfl) T.tuple boot_tuple (pa_cons (pe_comp (compSc_mk ["total"] [] [] rfl (by decide +kernel) (by decide +kernel) (by with_unfolding_all rfl) (by exact trivial) (by rfl) rfl (by rfl)) rfl (pi_tup (pv 0)) (fun _ _ _ _ => (pg_name (i := 0) (show List.Nodup (["total"] : List Str) by decide +kernel) rfl (Or.inl rfl) (Or.inr rfl))) (fun _ _ _ _ => (pts_one (pt_cmpR op_gt (pe_callB (call_len_seqK (K := K) rfl) (by rfl) T.len PySem.boot_len (pa_cons (pe_fldK (K := K) rfl (pv 0) rfl) pa_nil)) pe_int (nomark _)))) (fun _ _ _ _ => (pv 0))) pa_nil)))), ?_⟩
    have el := paired_len hS
    refine ⟨_, rfl, t, rfl, ⟨us, SqT.of ht⟩, comp_tup (xs := us) (fun i ys H' => H' = H ∧ Sms Z.s H ys ((ss.take i).filter plnB)) ⟨rfl, .nil⟩ (fun i ys H' _ q => by rw [q.1]; exact SqT.of ht) ?_ ?_⟩
    · rintro i v ys H' hi ⟨rfl, py⟩
      obtain ⟨s, es, p, rfl, S⟩ := paired_at hS hi
      obtain ⟨dx, tt, hp, ⟨vs, et, pr⟩, hz⟩ := id S
      have lv := prs_len pr
      have ly := paired_len py
      have lf : ((ss.take i).filter plnB).length ≤ (ss.take i).length := List.length_filter_le _ _
      rw [List.length_take] at lf
      refine ⟨Ext.one, _, rfl, p, Z.s, dx, _, _, rfl, hp, T.cl, T.nT, sflds_terms _ _, tt, _, rfl, .inr (SqT.of et), _, _, rfl, rfl, _, rfl, ?_⟩
      rw [take_snoc es, List.filter_append]
      obtain ⟨a0, n0⟩ := s
      cases a0 with
      | nil =>
        refine iteDF (fun z => ?_) ⟨rfl, ?_⟩
        · have : vs.length = 0 := lv
          omega
        · show Sms Z.s H' ys (List.filter plnB (List.take i ss) ++ [])
          rw [List.append_nil]
          exact py
      | cons x r =>
        refine iteDT ?_ ⟨_, rfl, line _ (by omega), rfl, paired_snoc py ⟨p, rfl, S⟩⟩
        have : vs.length = r.length + 1 := lv
        show (0 : Int) < (vs.length : Int)
        omega
    rintro ys H' ⟨rfl, py⟩ q hq
    rw [el, List.take_length] at py
    refine ⟨q, _, rfl, .inl ⟨SqL.of upd_same, fun r hr' => ?_⟩⟩
    have s2 := (new (o := .lst ys) hq).trans (new (o := .tup ys) hr')
    exact k r ys _ s2 upd_same (py.hard (Hard.of s2))
end
end Hw
namespace Hw
open PySem L2 PyProof.Rows
section
variable {P : Program} {w : World} {K : PySem.W.Frag} {mg : Str → Option Value} {base : Heap}
abbrev scases_with : Stmt := top 40
theorem sc_cases_with : FnScope ["cases", "condition", "possible"] ["cases", "condition"] (defScope scases_with) := ⟨rfl, rfl, rfl, by decide +kernel, rfl, by decide +kernel, by decide +kernel⟩
theorem ok_cases_with {f : Addr} {fd : FuncData} {n : Nat} (F : Fun K "cases_with" "cases_with" scases_with f fd) {Z : Cz} {Db : Addr} (T : Txt K mg Z.s) (J : TxP K mg) (U : Tx4 K mg Z Db) (d_ccases : Mt P w K mg base 7 Z.c "cases" ["self"] (spCCs Z)) (d_is_never_met : Dn P w K mg base 2 "is_never_met" ["case"] (spNeverMet Z.s)) (d_without_plain : Dn P w K mg base 1 "without_plain" ["case"] (spWithout Z.s)) (d_cases_of_both : Dn P w K mg base 2 "cases_of_both" ["ones", "others"] (spBoth Z)) : FnOk P w K mg base CX0 8 f fd ["cases", "condition"] (spCasesWith Z) := by
  obtain ⟨f_ccases, fd_ccases, G_ccases, m_ccases, b_ccases⟩ := d_ccases
  obtain ⟨f_is_never_met, fd_is_never_met, G_is_never_met, mg_is_never_met, kp_is_never_met, b_is_never_met⟩ := d_is_never_met
  obtain ⟨f_without_plain, fd_without_plain, G_without_plain, mg_without_plain, kp_without_plain, b_without_plain⟩ := d_without_plain
  obtain ⟨f_cases_of_both, fd_cases_of_both, G_cases_of_both, mg_cases_of_both, kp_cases_of_both, b_cases_of_both⟩ := d_cases_of_both
  refine F.ok sc_cases_with (fun vs H Q E h => ?_) (fun cdv A outer s H vs Q E hr h => ?_)
  · obtain ⟨o, p, a, b, s, xs, A0, rfl, hA, la1, lk, hc, la, lb, ia, ib, hs, k⟩ := h
    rfl
  · obtain ⟨o, p, a, b, s, xs, A0, rfl, hA, la1, lk, hc, la, lb, ia, ib, hs, k⟩ := h
    have hu := hu_of hr
    rw [show defBody scases_with = [_, _] from rfl]
    refine ⟨_, (pss_cons (ps_setC (i := 2) sc_cases_with.nd rfl (Or.inl rfl) (compSc_mk ["case"] [] [] rfl (by decide +kernel) (by decide +kernel) (by with_unfolding_all rfl) (by exact trivial) (by rfl) rfl (by rfl)) rfl (pi_list (pe_meth0 (pv 1) U.cc m_ccases G_ccases (hr.mono (by first | decide | omega)) b_ccases .nil pass0)) (fun _ _ _ _ => (pg_name (i := 0) (show List.Nodup (["case"] : List Str) by decide +kernel) rfl (Or.inl rfl) (Or.inr rfl))) (fun _ _ _ _ => (pts_one (pt_not (pt_val (pe_call G_is_never_met (hr.mono (by first | decide | omega)) rfl mg_is_never_met kp_is_never_met b_is_never_met .nil pass0 (pa_cons (pv 0) pa_nil)))))) (fun _ _ _ _ => (pe_call G_without_plain (hr.mono (by first | decide | omega)) rfl mg_without_plain kp_without_plain b_without_plain .nil pass0 (pa_cons (pv 0) pa_nil))))
      (pss_one (ps_ret (pe_call G_cases_of_both (hr.mono (by first | decide | omega)) rfl mg_cases_of_both kp_cases_of_both b_cases_of_both .nil pass0 (pa_cons (pv 0) (pa_cons (pv 2) pa_nil)))))), ?_⟩
    obtain ⟨dx, u, w0, ep, S1, S2⟩ := id hc
    refine ⟨_, rfl, p, dx, _, rfl, ep, cf_no (by decide +kernel) (by decide +kernel) (by decide +kernel), p, a, b, s, xs, rfl, hc, la, lb, ia, ib, hs, fun r c H1 s1 hr1 gc ec => ?_⟩
    obtain ⟨rv, er, pr1⟩ := hr1
    cases pr1 with
    | cons h0 t0 =>
    cases t0
    obtain ⟨t, us, rfl, et, pu⟩ := h0
    cases pu with
    | cons hq tq =>
    cases tq
    obtain ⟨q, rfl, Sq⟩ := hq
    have bl : (if nevB c = true then ([] : Cs) else [[c].filter plnB]).length ≤ 1 := by
      cases nevB c
      · exact Nat.le_refl _
      · exact Nat.zero_le _
    refine ⟨r, rfl, ⟨_, SqL.of er⟩, comp_list (xs := [V.ref t]) (fun j ys H' => Same H1 H' ∧ Paired (CaseAt Z H') ys ((if nevB c = true then ([] : Cs) else [[c].filter plnB]).take j)) ⟨Same.refl _, .nil⟩ (fun j ys H' _ q => SqL.of (q.1 _ _ er)) ?_ ?_⟩
    · rintro j v ys H2 hj ⟨s2, py⟩
      have j0 : j = 0 := by
        have := (List.getElem?_eq_some_iff.mp hj).1
        simp at this
        omega
      subst j0
      cases hj
      cases py
      refine ⟨Ext.one, _, rfl, t, [V.ref q], [c], rfl, s2 _ _ et, .cons ⟨q, rfl, Sq.same s2⟩ .nil, (by show 1 ≤ 20; decide), fun H3 s3 => ⟨_, rfl, ?_⟩⟩
      have e1 : [c].any nevB = nevB c := by simp
      rw [e1]
      cases hn : nevB c with
      | true =>
        refine ifF rfl ⟨s2.trans s3, ?_⟩
        exact .nil
      | false =>
        refine ifT rfl ⟨_, rfl, t, [V.ref q], [c], rfl, s3 _ _ (s2 _ _ et), .cons ⟨q, rfl, (Sq.same s2).same s3⟩ .nil, (by show 1 ≤ 20; decide), fun r4 ws H4 s4 e4 sm4 => ⟨line _ (by decide), (s2.trans s3).trans s4, .cons ⟨r4, ws, rfl, e4, sm4⟩ .nil⟩⟩
    rintro ys H2 ⟨s2, py⟩ po hpo
    have lb1 : ((if nevB c = true then ([] : Cs) else [[c].filter plnB]).take [V.ref t].length) = (if nevB c = true then ([] : Cs) else [[c].filter plnB]) := List.take_of_length_le bl
    rw [lb1] at py
    have sP := new (o := .lst ys) hpo
    have sA := (s1.trans s2).trans sP
    refine ⟨_, rfl, _, rfl, o, po, A0, _, rfl, hA.same sA, ⟨ys, upd_same, Paired.mapP py fun _ _ z => z.hard (Hard.of sP)⟩, ?_, by omega, by omega, (fun x hx => by have := lk x hx; omega), ?_, fun rr H5 s5 h5 => ?_⟩
    · have := Nat.mul_le_mul la1 bl
      omega
    · intro x hx
      cases hn : nevB c with
      | true => rw [hn, if_pos rfl] at hx; cases hx
      | false =>
        rw [hn, if_neg (by decide)] at hx
        rw [List.mem_singleton.mp hx]
        have : ([c].filter plnB).length ≤ [c].length := List.length_filter_le _ _
        have : [c].length = 1 := rfl
        omega
    · exact k rr c H5 (sA.trans s5) gc ec h5
end
end Hw
namespace Hw
open PySem L2 PyProof.Rows
section
variable {P : Program} {w : World} {K : PySem.W.Frag} {mg : Str → Option Value} {base : Heap}
abbrev sowed : Stmt := top 38
theorem sc_owed : FnScope ["debt", "things", "cases", "count", "row"] ["debt"] (defScope sowed) := ⟨rfl, rfl, rfl, by decide +kernel, rfl, by decide +kernel, by decide +kernel⟩
theorem ok_owed {f : Addr} {fd : FuncData} {n : Nat} (F : Fun K "owed" "owed" sowed f fd) {Z : Cz} {Db : Addr} (T : Txt K mg Z.s) (J : TxP K mg) (U : Tx4 K mg Z Db) (d_once : Dn P w K mg base 3 "once" ["thing"] (spOnce Z.s)) (d_unknown : Dn P w K mg base 1 "unknown" ["place"] spUnk) (d_put_in : Mt P w K mg base 5 Z.s "put_in" ["self", "sums"] (spPutIn Z.s)) (d_cput_in : Mt P w K mg base 6 Z.c "put_in" ["self", "sums"] (spCPI Z)) (d_cases_with : Dn P w K mg base 8 "cases_with" ["cases", "condition"] (spCasesWith Z)) (d_copposite : Mt P w K mg base 3 Z.c "opposite" ["self"] (spCOp Z)) : FnOk P w K mg base CX0 9 f fd ["debt"] (spOwed Z Db) := by
  obtain ⟨f_once, fd_once, G_once, mg_once, kp_once, b_once⟩ := d_once
  obtain ⟨f_unknown, fd_unknown, G_unknown, mg_unknown, kp_unknown, b_unknown⟩ := d_unknown
  obtain ⟨f_put_in, fd_put_in, G_Sum_put_in, m_put_in, b_Sum_put_in⟩ := d_put_in
  obtain ⟨f_cput_in, fd_cput_in, G_cput_in, m_cput_in, b_cput_in⟩ := d_cput_in
  obtain ⟨f_cases_with, fd_cases_with, G_cases_with, mg_cases_with, kp_cases_with, b_cases_with⟩ := d_cases_with
  obtain ⟨f_copposite, fd_copposite, G_copposite, m_copposite, b_copposite⟩ := d_copposite
  refine F.ok sc_owed (fun vs H Q E h => ?_) (fun cdv A outer s H vs Q E hr h => ?_)
  · obtain ⟨p, h, c, dx, k0, x0, xm, a, Tm, N, us, rows, rfl, hp, hh, hrw, rl12, owf, hc, hx0, hxm, t1, t2, M6, k⟩ := h
    rfl
  · obtain ⟨p, h, c, dx, k0, x0, xm, a, Tm, N, us, rows, rfl, hp, hh, hrw, rl12, owf, hc, hx0, hxm, t1, t2, M6, k⟩ := h
    have hu := hu_of hr
    rw [show defBody sowed = [_, _, _, _, _] from rfl]
    refine ⟨_, (pss_cons (ps_set (i := 1) sc_owed.nd rfl (Or.inl rfl) pe_dnewK)
      (pss_cons (ps_set (i := 2) sc_owed.nd rfl (Or.inl rfl) (pe_lst (pa_cons (pe_tup pa_nil) pa_nil)))
      (pss_cons (ps_set (i := 3) sc_owed.nd rfl (Or.inl rfl) pe_int)
      (pss_cons (ps_for PassesOwn.never rfl (pi_tup (pe_fld (pv 0) rfl)) (pg_name (i := 4) sc_owed.nd rfl (Or.inl rfl)) (pss_one (ps_if (pt_cmpR op_eq (pe_ix ix_tup (pv 4) pe_int (fun _ _ => rfl)) pe_str (nomark _)) (pss_cons (ps_dput hu (pv 1) (pe_ix ix_tup (pv 4) pe_int (fun _ _ => rfl)) (pe_call G_once (hr.mono (by first | decide | omega)) rfl mg_once kp_once b_once .nil pass0 (pa_cons (pe_call G_unknown (hr.mono (by first | decide | omega)) rfl mg_unknown kp_unknown b_unknown .nil pass0 (pa_cons (pv 3) pa_nil)) pa_nil)) rfl)
      (pss_one (ps_set (i := 3) sc_owed.nd rfl (Or.inl rfl) (pe_op op_add (pv 3) pe_int)))) (pss_one (ps_if (pt_cmpR op_eq (pe_ix ix_tup (pv 4) pe_int (fun _ _ => rfl)) pe_str (nomark _)) (pss_one (ps_dput hu (pv 1) (pe_ix ix_tup (pv 4) pe_int (fun _ _ => rfl)) (pe_meth (pe_ix ix_tup (pv 4) pe_int (fun _ _ => rfl)) T.cl m_put_in G_Sum_put_in (hr.mono (by first | decide | omega)) b_Sum_put_in .nil pass0 (pa_cons (pv 1) pa_nil)) rfl)) (pss_one (ps_set (i := 2) sc_owed.nd rfl (Or.inl rfl) (pe_call G_cases_with (hr.mono (by first | decide | omega)) rfl mg_cases_with kp_cases_with b_cases_with .nil pass0 (pa_cons (pv 2) (pa_cons (pe_meth (pe_ix ix_tup (pv 4) pe_int (fun _ _ => rfl)) U.cc m_cput_in G_cput_in (hr.mono (by first | decide | omega)) b_cput_in .nil pass0 (pa_cons (pv 1) pa_nil)) pa_nil))))))))))
      (pss_one (ps_ret (pe_call G_cases_with (hr.mono (by first | decide | omega)) rfl mg_cases_with kp_cases_with b_cases_with .nil pass0 (pa_cons (pv 2) (pa_cons (pe_meth (pe_meth0 (pe_fld (pv 0) rfl) U.cc m_copposite G_copposite (hr.mono (by first | decide | omega)) b_copposite .nil pass0) U.cc m_cput_in G_cput_in (hr.mono (by first | decide | omega)) b_cput_in .nil pass0 (pa_cons (pv 1) pa_nil)) pa_nil))))))))), ?_⟩
    have lur := paired_len hrw
    intro d hd
    refine ⟨Nat.zero_le _, fun t0 ht0 => ⟨(Nat.le_of_lt (line 1 (by decide))), fun cs0 hcs0 => ?_⟩⟩
    have hd0 : H d = none := hd
    have s1 := ((new (o := .dK []) hd).trans (new (o := .tup []) ht0)).trans (new (o := .lst [V.ref t0]) hcs0)
    have ed : (upd (upd (upd H d (.dK [])) t0 (.tup [])) cs0 (.lst [V.ref t0])) d = some (.dK []) := new hcs0 _ _ (new ht0 _ _ upd_same)
    have ecs : CasesAt Z (upd (upd (upd H d (.dK [])) t0 (.tup [])) cs0 (.lst [V.ref t0])) cs0 [[]] := ⟨_, upd_same, .cons ⟨t0, [], rfl, new hcs0 _ _ upd_same, .nil⟩ .nil⟩
    generalize upd (upd (upd H d (.dK [])) t0 (.tup [])) cs0 (.lst [V.ref t0]) = H1 at s1 ed ecs ⊢
    refine ⟨_, rfl, p, Db, dx, _, _, rfl, s1 _ _ hp, U.cd, U.nd _ (by decide +kernel), dfl_ahead _ _ _ _, h, rfl, ⟨us, SqT.of (s1 _ _ hh)⟩, for_tup (xs := us) (fun i σ H' => ∃ (kvs : List (Key × V)) (S : Sb) (cs : Addr) (ss : List Sm) (n0 : Nat) (stt : OSt) (o4 : Option V), σ = [some (.ref p), some (.ref d), some (.ref cs), some (.int (n0 : Int)), o4] ∧ Same H H' ∧ H' d = some (.dK kvs) ∧ Rl (SumR Z.s H') kvs S ∧ Paired (SR (oRun rows o0).n) S stt.e ∧ CasesAt Z H' cs [ss] ∧ Paired (SG (oRun rows o0).n) ss stt.gs ∧ n0 = stt.n ∧ oRun (rows.drop i) stt = oRun rows o0 ∧ OWf (rows.drop i) stt ∧ kvs.length ≤ i ∧ stt.gs.length ≤ i) ⟨[], [], cs0, [], 0, o0, none, rfl, s1, ed, .nil, .nil, ecs, .nil, rfl, rfl, owf, Nat.le_refl _, Nat.le_refl _⟩ (fun i σ H' _ ⟨_, _, _, _, _, _, _, _, q, _⟩ => SqT.of (q _ _ hh)) ?_ ?_⟩
    · rintro i v σ H2 hi ⟨kvs, S, cs, ss, n0, stt, o4, rfl, s2, ed2, rl, sr, ecs2, sg, en, er, ow, kl, gl⟩
      obtain ⟨r, hri, hrv⟩ := paired_at hrw hi
      have ild := (List.getElem?_eq_some_iff.mp hri).1
      have hdrop : rows.drop i = r :: rows.drop (i + 1) := by
        rw [List.drop_eq_getElem_cons ild]
        rw [List.getElem?_eq_getElem ild] at hri
        rw [Option.some.inj hri]
      rw [hdrop] at er ow
      obtain ⟨ok1, ow⟩ := ow
      have er : oRun (rows.drop (i + 1)) (oStep stt r) = oRun rows o0 := er
      have hrv := hrv.hard (Hard.of s2)
      have dput : ∀ (x : Str) (q : Addr) (m : Sm) (vf : Vf) (H3 : Hp), Same H2 H3 → x ∉ dom stt.e → SumAt Z.s H3 q m.1 m.2 → Gm (xsN (oRun rows o0).n) m → m.1.length ≤ 1 → (∀ f, ev m f = vf f) →
          Same H (upd H3 d (.dK (putK kvs (Sum.inr x) (V.ref q)))) ∧ (upd H3 d (.dK (putK kvs (Sum.inr x) (V.ref q)))) d = some (.dK (kvs ++ [(Sum.inr x, V.ref q)])) ∧ Rl (SumR Z.s (upd H3 d (.dK (putK kvs (Sum.inr x) (V.ref q))))) (kvs ++ [(Sum.inr x, V.ref q)]) (S ++ [(x, m.1, m.2)]) ∧ Paired (SR (oRun rows o0).n) (S ++ [(x, m.1, m.2)]) (stt.e ++ [(x, vf)]) ∧ CasesAt Z (upd H3 d (.dK (putK kvs (Sum.inr x) (V.ref q)))) cs [ss] := fun x q m vf H3 s3 hx S3 gm ml hv => by
        have ed3 := s3 _ _ ed2
        have b3 : But d H3 (upd H3 d (.dK (putK kvs (Sum.inr x) (V.ref q)))) := But.upd
        have hk : Hard H3 (upd H3 d (.dK (putK kvs (Sum.inr x) (V.ref q)))) := Hard.soft b3 ed3 soft_d
        refine ⟨fun b o z => b3 _ _ (s3 _ _ (s2 _ _ z)) (ne_of_none z hd0), by rw [upd_same, putK_new rl sr hx], paired_snoc (Paired.mapP rl fun kv s ⟨e1, u, e2, e3⟩ => ⟨e1, u, e2, (SumAt.same e3 s3).hard hk⟩) ⟨rfl, q, rfl, S3.hard hk⟩, paired_snoc sr ⟨rfl, gm, ml, hv⟩, ?_⟩
        obtain ⟨w1, e1, p1⟩ := ecs2
        refine ⟨w1, ?_, Paired.mapP p1 fun _ _ z => (z.hard (Hard.of s3)).hard hk⟩
        rw [upd_ne (ne_of (s3 _ _ e1) ed3 (by intro z; cases z))]
        exact s3 _ _ e1
      have kz : kvs.length < sizeLine := line _ (by omega)
      cases r with
      | any x =>
        obtain ⟨pr, rfl, ep⟩ := hrv
        obtain ⟨hx, hn6⟩ := ok1
        refine ⟨_, rfl, pr, _, 0, _, rfl, rfl, SqT.of ep, rfl, rfl, _, rfl, iteDT rfl ?_⟩
        refine ⟨_, rfl, n0, rfl, by omega, uk n0, rfl, fun q H3 s3 S3 => ?_⟩
        refine ⟨_, rfl, _, rfl, pr, _, 1, _, rfl, rfl, SqT.of (s3 _ _ ep), rfl, d, _, rfl, DPut.k (k := Sum.inr x) (s3 _ _ ed2) kz, ?_⟩
        obtain ⟨z1, z2, z3, z4, z5⟩ := dput x q ([(uk n0, 1)], 0) (fun f => f (uk stt.n)) H3 s3 hx S3 ⟨⟨.cons (fun _ h => nomatch h) .nil, fun p hp => by rw [List.mem_singleton.mp hp]; show (1 : Int) ≠ 0; decide⟩, fun t ht => by rw [List.mem_singleton.mp ht]; exact uk_in (by rw [← er, o_n]; show n0 < stt.n + 1 + _; omega)⟩ (Nat.le_refl _) (fun f => by show (0 : Int) + (1 * f (uk n0) + 0) = f (uk stt.n); rw [en]; omega)
        refine ⟨_, rfl, _, _, rfl, rfl, ?_⟩
        exact ⟨_, _, cs, ss, n0 + 1, oStep stt (.any x), _, rfl, z1, z2, z3, z4, z5, sg, (by show n0 + 1 = stt.n + 1; omega), er, ow, (by rw [List.length_append]; show kvs.length + 1 ≤ _; omega), (by show stt.gs.length ≤ i + 1; omega)⟩
      | lt x y t c0 =>
        obtain ⟨pr, q0, rfl, ep, Sq⟩ := hrv
        obtain ⟨hx, hy, ht1, ht3⟩ := ok1
        refine ⟨_, rfl, pr, _, 0, _, rfl, rfl, SqT.of ep, rfl, rfl, _, rfl, iteDF (str_ne (by decide +kernel)) ?_⟩
        refine ⟨_, rfl, pr, _, 0, _, rfl, rfl, SqT.of ep, rfl, rfl, _, rfl, iteDT rfl ?_⟩
        obtain ⟨dxq, tq, eq0, _, _⟩ := id Sq
        refine ⟨_, rfl, pr, _, 2, _, rfl, rfl, SqT.of ep, rfl, q0, dxq, _, rfl, eq0, sflds_no _ _ (by decide +kernel) (by decide +kernel), _, rfl, q0, d, [(y, t)], c0, kvs, S, rfl, Sq, .inl ed2, rl, ⟨by show 1 ≤ 3; decide, fun p hp => by rw [List.mem_singleton.mp hp]; exact ⟨by show -(2 ^ 60) < t; omega, by show t < 2 ^ 60; omega⟩⟩, sr_few sr, fun q us3 H3 s3 g3 S3 => ?_⟩
        obtain ⟨gm, ml, hv⟩ := sub_one sr (c := c0) hy (by omega) g3
        refine ⟨_, rfl, _, rfl, pr, _, 1, _, rfl, rfl, SqT.of (s3 _ _ ep), rfl, d, _, rfl, DPut.k (k := Sum.inr x) (s3 _ _ ed2) kz, ?_⟩
        obtain ⟨z1, z2, z3, z4, z5⟩ := dput x q (us3, _) (fun f => t * getV stt.e y f + c0) H3 s3 hx S3 gm ml hv
        exact ⟨_, _, cs, ss, n0, oStep stt (.lt x y t c0), _, rfl, z1, z2, z3, z4, z5, sg, en, er, ow, (by rw [List.length_append]; show kvs.length + 1 ≤ _; omega), (by show stt.gs.length ≤ i + 1; omega)⟩
      | hd x y t c0 =>
        obtain ⟨pr, q0, rfl, ep, hcq⟩ := hrv
        obtain ⟨hx, hy, ht1, ht3, nc⟩ := ok1
        refine ⟨_, rfl, pr, _, 0, _, rfl, rfl, SqT.of ep, rfl, rfl, _, rfl, iteDF (str_ne (by decide +kernel)) ?_⟩
        refine ⟨_, rfl, pr, _, 0, _, rfl, rfl, SqT.of ep, rfl, rfl, _, rfl, iteDF (str_ne (by decide +kernel)) ?_⟩
        obtain ⟨dxq, uq, wq, eq0, _, _⟩ := id hcq
        have lt3 : ∀ (z : Str) (w0 : Int), 1 ≤ w0 → w0 ≤ 3 → Lt3 [(z, w0)] := fun z w0 h1 h2 => ⟨by show 1 ≤ 3; decide, fun p hp => by rw [List.mem_singleton.mp hp]; exact ⟨by show -(2 ^ 60) < w0; omega, by show w0 < 2 ^ 60; omega⟩⟩
        refine ⟨_, rfl, _, rfl, pr, _, 1, _, rfl, rfl, SqT.of ep, rfl, q0, dxq, _, rfl, eq0, cf_no (by decide +kernel) (by decide +kernel) (by decide +kernel), _, rfl, q0, d, ([(x, 1)], 0), ([(y, t)], c0), "<=", kvs, S, rfl, hcq, ed2, rl, lt3 x 1 (by decide) (by decide), lt3 y t ht1 ht3, sr_few sr, fun q a' b' H3 s3 ga ea gb eb hc3 => ?_⟩
        obtain ⟨gma, mla, hva⟩ := sub_one sr (c := 0) hx (by decide) ga
        obtain ⟨gmb, mlb, hvb⟩ := sub_one sr (c := c0) hy (by omega) gb
        have ga' : ∀ f, ev a' f = 1 * getV stt.e x f + 0 := fun f => by rw [← hva f]; show a'.2 + _ = _; rw [ea]; rfl
        have gb' : ∀ f, ev b' f = t * getV stt.e y f + c0 := fun f => by rw [← hvb f]; show b'.2 + _ = _; rw [eb]; rfl
        have lss := paired_len sg
        refine ⟨cs, q, a', b', "<=", (xsN (oRun rows o0).n), [ss], rfl, ecs2.same s3, Nat.le_refl _, (fun z hz => by rw [List.mem_singleton.mp hz]; omega), hc3, by omega, by omega, gma.2, gmb.2, .inl rfl, fun r2 c2 H4 s4 gc ec hcs => ?_⟩
        have ec2 : ∀ f, ev c2 f = t * getV stt.e y f + c0 - getV stt.e x f := fun f => by
          rw [ec f]
          unfold cdif
          rw [if_pos rfl, ga' f, gb' f]
          omega
        rw [cw_nc (nc_ne ec2 nc)] at hcs
        have s34 := s3.trans s4
        exact ⟨kvs, S, r2, ss ++ [c2], n0, oStep stt (.hd x y t c0), _, rfl, s2.trans s34, s34 _ _ ed2, Paired.mapP rl fun kv s ⟨e1, u, e2, e3⟩ => ⟨e1, u, e2, SumAt.same e3 s34⟩, sr, hcs, paired_snoc sg ⟨gc, ec2⟩, en, er, ow, by omega, (by show (stt.gs ++ [_]).length ≤ i + 1; rw [List.length_append]; show stt.gs.length + 1 ≤ _; omega)⟩
    · rintro σ H2 ⟨kvs, S, cs, ss, n0, stt, o4, rfl, s2, ed2, rl, sr, ecs2, sg, en, er, ow, kl, gl⟩
      rw [lur, List.drop_length] at er
      have er : stt = oRun rows o0 := er
      subst er
      have hc2 := hc.same s2
      obtain ⟨dxc, uc, wc, ec0, _, _⟩ := id hc2
      refine ⟨_, rfl, _, rfl, p, Db, dx, _, _, rfl, s2 _ _ hp, U.cd, U.nd _ (by decide +kernel), dfl_cond _ _ _ _, c, dxc, _, rfl, ec0, cf_no (by decide +kernel) (by decide +kernel) (by decide +kernel), c, ([(xm, 1)], 0), ([(x0, Tm)], N), "<=", rfl, hc2, (by decide +kernel), fun r3 H3 s3 hc3 => ?_⟩
      obtain ⟨dx3, u3, w3, e3, _, _⟩ := id hc3
      have lt3 : ∀ (z : Str) (w0 : Int), 1 ≤ w0 → w0 ≤ 1000 → Lt3 [(z, w0)] := fun z w0 h1 h2 => ⟨by show 1 ≤ 3; decide, fun p hp => by rw [List.mem_singleton.mp hp]; exact ⟨by show -(2 ^ 60) < w0; omega, by show w0 < 2 ^ 60; omega⟩⟩
      have eo : oppS "<=" = ">" := by decide +kernel
      rw [eo] at hc3
      refine ⟨r3, dx3, _, rfl, e3, cf_no (by decide +kernel) (by decide +kernel) (by decide +kernel), _, rfl, r3, d, ([(xm, 1)], 0), ([(x0, Tm)], N), ">", kvs, S, rfl, hc3, s3 _ _ ed2, Paired.mapP rl fun kv s ⟨e1, u, e2, e4⟩ => ⟨e1, u, e2, SumAt.same e4 s3⟩, lt3 xm 1 (by decide) (by decide), lt3 x0 Tm t1 t2, sr_few sr, fun q a' b' H4 s4 ga ea gb eb hc4 => ?_⟩
      obtain ⟨gma, mla, hva⟩ := sub_one sr (c := 0) hxm (by decide) ga
      obtain ⟨gmb, mlb, hvb⟩ := sub_one sr (c := N) hx0 (by omega) gb
      have ga' : ∀ f, ev a' f = 1 * getV (oRun rows o0).e xm f + 0 := fun f => by rw [← hva f]; show a'.2 + _ = _; rw [ea]; rfl
      have gb' : ∀ f, ev b' f = Tm * getV (oRun rows o0).e x0 f + N := fun f => by rw [← hvb f]; show b'.2 + _ = _; rw [eb]; rfl
      have lss := paired_len sg
      have lg := (o_gs rows o0).2
      refine ⟨cs, q, a', b', ">", (xsN (oRun rows o0).n), [ss], rfl, ecs2.same (s3.trans s4), Nat.le_refl _, (fun z hz => by rw [List.mem_singleton.mp hz]; have : o0.gs.length = 0 := rfl; omega), hc4, by omega, by omega, gma.2, gmb.2, .inr rfl, fun r2 c2 H5 s5 gc ec hcs => ?_⟩
      refine k r2 ss c2 H5 (((s2.trans s3).trans s4).trans s5) sg gc (fun f => ?_) hcs
      rw [ec f]
      unfold cdif
      rw [if_neg (by decide +kernel), ga' f, gb' f]
      omega
end
end Hw
namespace Hw
open PySem L2 PyProof.Rows
section
variable {P : Program} {w : World} {K : PySem.W.Frag} {mg : Str → Option Value} {base : Heap}
abbrev salong : Stmt := top 46
theorem sc_along : FnScope ["ahead", "numbers", "things", "taken", "row"] ["ahead", "numbers"] (defScope salong) := ⟨rfl, rfl, rfl, by decide +kernel, rfl, by decide +kernel, by decide +kernel⟩
theorem ok_along {f : Addr} {fd : FuncData} {n : Nat} (F : Fun K "along" "along" salong f fd) {Z : Cz} {Db : Addr} (T : Txt K mg Z.s) (J : TxP K mg) (U : Tx4 K mg Z Db) (d_valueS : Mt P w K mg base 1 Z.s "value" ["self", "numbers"] (spValueS Z.s)) (d_cholds : Mt P w K mg base 2 Z.c "holds" ["self", "numbers"] (spCH Z)) : FnOk P w K mg base CX0 3 f fd ["ahead", "numbers"] (spAlongC Z) := by
  obtain ⟨f_value, fd_value, G_Sum_value, m_value, b_Sum_value⟩ := d_valueS
  obtain ⟨f_cholds, fd_cholds, G_cholds, m_cholds, b_cholds⟩ := d_cholds
  refine F.ok sc_along (fun vs H Q E h => ?_) (fun cdv A outer s H vs Q E hr h => ?_)
  · obtain ⟨h, b, us, rows, ns, rfl, hh, hrw, rl12, owf, hb, nl, n6, kd, kn⟩ := h
    rfl
  · obtain ⟨h, b, us, rows, ns, rfl, hh, hrw, rl12, owf, hb, nl, n6, kd, kn⟩ := h
    have hu := hu_of hr
    rw [show defBody salong = [_, _, _, _, _] from rfl]
    refine ⟨_, (pss_cons (ps_if (pt_cmpR op_ne (pe_callB call_len_seq (by rfl) T.len PySem.boot_len (pa_cons (pv 1) pa_nil)) (pe_callB call_len_seq (by rfl) T.len PySem.boot_len (pa_cons (pe_comp (compSc_mk ["row"] [] [] rfl (by decide +kernel) (by decide +kernel) (by with_unfolding_all rfl) (by exact trivial) (by rfl) rfl (by rfl)) rfl (pi_tup (pv 0)) (fun _ _ _ _ => (pg_name (i := 0) (show List.Nodup (["row"] : List Str) by decide +kernel) rfl (Or.inl rfl) (Or.inr rfl))) (fun _ _ _ _ => (pts_one (pt_cmpR op_eq (pe_ix (ix_tupK (K := K) rfl) (pv 0) pe_int (fun _ _ => rfl)) pe_str (nomark _)))) (fun _ _ _ _ => (pv 0))) pa_nil)) (nomark _)) (pss_one (ps_ret pe_non)) pss_nil)
      (pss_cons (ps_set (i := 2) sc_along.nd rfl (Or.inl rfl) pe_dnewK)
      (pss_cons (ps_set (i := 3) sc_along.nd rfl (Or.inl rfl) pe_int)
      (pss_cons (ps_for PassesOwn.never rfl (pi_tup (pv 0)) (pg_name (i := 4) sc_along.nd rfl (Or.inl rfl)) (pss_one (ps_if (pt_cmpR op_eq (pe_ix ix_tup (pv 4) pe_int (fun _ _ => rfl)) pe_str (nomark _)) (pss_cons (ps_dput hu (pv 2) (pe_ix ix_tup (pv 4) pe_int (fun _ _ => rfl)) (pe_ix ix_list (pv 1) (pv 3) (fun _ _ => rfl)) rfl)
      (pss_one (ps_set (i := 3) sc_along.nd rfl (Or.inl rfl) (pe_op op_add (pv 3) pe_int)))) (pss_one (ps_if (pt_cmpR op_eq (pe_ix ix_tup (pv 4) pe_int (fun _ _ => rfl)) pe_str (nomark _)) (pss_one (ps_dput hu (pv 2) (pe_ix ix_tup (pv 4) pe_int (fun _ _ => rfl)) (pe_meth (pe_ix ix_tup (pv 4) pe_int (fun _ _ => rfl)) T.cl m_value G_Sum_value (hr.mono (by first | decide | omega)) b_Sum_value .nil pass0 (pa_cons (pv 2) pa_nil)) rfl)) (pss_one (ps_if (pt_not (pt_val (pe_meth (pe_ix ix_tup (pv 4) pe_int (fun _ _ => rfl)) U.cc m_cholds G_cholds (hr.mono (by first | decide | omega)) b_cholds .nil pass0 (pa_cons (pv 2) pa_nil)))) (pss_one (ps_ret pe_non)) pss_nil)))))))
      (pss_one (ps_ret (pv 2))))))), ?_⟩
    have lur := paired_len hrw
    have lm : (ns.map V.int).length = ns.length := List.length_map ..
    refine ⟨_, rfl, b, _, rfl, .inl (SqL.of hb), _, rfl, h, rfl, ⟨us, SqT.of hh⟩, comp_tup (xs := us) (fun i ys H' => H' = H ∧ ys.length = anyC (rows.take i)) ⟨rfl, rfl⟩ (fun i ys H' _ q => by rw [q.1]; exact SqT.of hh) ?_ ?_⟩
    · rintro i v ys H' hi ⟨rfl, yl⟩
      obtain ⟨r, hri, hrv⟩ := paired_at hrw hi
      have ild := (List.getElem?_eq_some_iff.mp hri).1
      have le := anyC_le (rows.take i)
      rw [List.length_take] at le
      have yz : ys.length < sizeLine := line _ (by omega)
      cases r with
      | any x =>
        obtain ⟨p, rfl, ep⟩ := hrv
        refine ⟨Ext.one, _, rfl, p, _, 0, _, rfl, rfl, SqT.of ep, rfl, rfl, _, rfl, iteDT rfl ⟨_, rfl, yz, rfl, ?_⟩⟩
        rw [List.length_append, take_snoc hri, anyC_snoc, yl]
        rfl
      | lt x y t c =>
        obtain ⟨p, q, rfl, ep, _⟩ := hrv
        refine ⟨Ext.one, _, rfl, p, _, 0, _, rfl, rfl, SqT.of ep, rfl, rfl, _, rfl, iteDF (str_ne (by decide +kernel)) ⟨rfl, ?_⟩⟩
        rw [take_snoc hri, anyC_snoc, yl]
        rfl
      | hd x y t c =>
        obtain ⟨p, q, rfl, ep, _⟩ := hrv
        refine ⟨Ext.one, _, rfl, p, _, 0, _, rfl, rfl, SqT.of ep, rfl, rfl, _, rfl, iteDF (str_ne (by decide +kernel)) ⟨rfl, ?_⟩⟩
        rw [take_snoc hri, anyC_snoc, yl]
        rfl
    rintro ys H' ⟨rfl, yl⟩ q0 hq0
    rw [lur, List.take_length] at yl
    have en : (oRun rows o0).n = anyC rows := by rw [o_n]; show 0 + _ = _; omega
    refine ⟨q0, _, rfl, .inl (SqL.of upd_same), rfl, _, rfl, iteNS (congrArg V.int (by rw [lm]; omega)) ?_⟩
    have sq := new (o := .lst ys) hq0
    intro d hd
    have hd0 : H' d = none := none_of_new hd
    have s1 := sq.trans (new (o := .dK []) hd)
    have ed1 : (upd (upd H' q0 (.lst ys)) d (.dK [])) d = some (.dK (enc [])) := upd_same
    generalize upd (upd H' q0 (.lst ys)) d (.dK []) = H1 at s1 ed1 ⊢
    refine ⟨_, rfl, h, rfl, ⟨us, SqT.of (s1 _ _ hh)⟩, for_tup (xs := us) (fun i σ H2 => ∃ (e : Ps) (stt : OSt) (o4 : Option V), σ = [some (.ref h), some (.ref b), some (.ref d), some (.int (stt.n : Int)), o4] ∧ Same H' H2 ∧ H2 d = some (.dK (enc e)) ∧ NR (nf ns) e stt.e ∧ (∀ g ∈ stt.gs, 0 ≤ g (nf ns)) ∧ oRun (rows.drop i) stt = oRun rows o0 ∧ OWf (rows.drop i) stt ∧ e.length ≤ i) ⟨[], o0, none, rfl, s1, ed1, ⟨rfl, (fun _ h => nomatch h)⟩, (fun _ h => nomatch h), rfl, owf, Nat.le_refl _⟩ (fun i σ H2 _ ⟨_, _, _, _, q, _⟩ => SqT.of (q _ _ hh)) ?_ ?_⟩
    · rintro i v σ H2 hi ⟨e, stt, o4, rfl, s2, ed2, nr, hg, er, ow, el⟩
      obtain ⟨r, hri, hrv⟩ := paired_at hrw hi
      have ild := (List.getElem?_eq_some_iff.mp hri).1
      have hdrop : rows.drop i = r :: rows.drop (i + 1) := by
        rw [List.drop_eq_getElem_cons ild]
        rw [List.getElem?_eq_getElem ild] at hri
        rw [Option.some.inj hri]
      rw [hdrop] at er ow
      obtain ⟨ok1, ow⟩ := ow
      have er : oRun (rows.drop (i + 1)) (oStep stt r) = oRun rows o0 := er
      have hrv := hrv.hard (Hard.of s2)
      have kz : (enc e).length < sizeLine := by rw [enc_len]; exact line _ (by omega)
      have dput : ∀ (x : Str) (n0 : Int) (g : Vf) (H3 : Hp), Same H2 H3 → x ∉ dom stt.e → n0 = g (nf ns) →
          Same H' (upd H3 d (.dK (putK (enc e) (Sum.inr x) (V.int n0)))) ∧ (upd H3 d (.dK (putK (enc e) (Sum.inr x) (V.int n0)))) d = some (.dK (enc (put e x n0))) ∧ NR (nf ns) (put e x n0) (stt.e ++ [(x, g)]) ∧ (put e x n0).length ≤ i + 1 := fun x n0 g H3 s3 hx hn => by
        refine ⟨fun b o z => ?_, by rw [upd_same, enc_put], nr.put hx hn, ?_⟩
        · rw [upd_ne (ne_of_none z hd0)]
          exact s3 _ _ (s2 _ _ z)
        · have := len_put e x n0
          omega
      cases r with
      | any x =>
        obtain ⟨p, rfl, ep⟩ := hrv
        obtain ⟨hx, hn6⟩ := ok1
        have jn : stt.n < ns.length := by
          rw [nl, ← er, o_n]
          show stt.n < stt.n + 1 + _
          omega
        refine ⟨_, rfl, p, _, 0, _, rfl, rfl, SqT.of ep, rfl, rfl, _, rfl, iteDT rfl ?_⟩
        refine ⟨_, rfl, _, rfl, b, _, _, _, rfl, rfl, SqL.of (s2 _ _ hb), atI_nat (v := V.int ns[stt.n]) (by rw [List.getElem?_map, List.getElem?_eq_getElem jn]; rfl), ?_⟩
        refine ⟨_, rfl, _, rfl, p, _, 1, _, rfl, rfl, SqT.of ep, rfl, d, _, rfl, DPut.k (k := Sum.inr x) ed2 kz, ?_⟩
        obtain ⟨z1, z2, z3, z4⟩ := dput x ns[stt.n] (fun f => f (uk stt.n)) H2 (Same.refl _) hx (by show _ = nf ns (uk stt.n); rw [nf_uk hn6, List.getD_eq_getElem?_getD, List.getElem?_eq_getElem jn]; rfl)
        refine ⟨_, rfl, _, _, rfl, rfl, ?_⟩
        exact ⟨_, oStep stt (.any x), _, rfl, z1, z2, z3, hg, er, ow, z4⟩
      | lt x y t c0 =>
        obtain ⟨p, q, rfl, ep, Sq⟩ := hrv
        obtain ⟨hx, hy, ht1, ht3⟩ := ok1
        refine ⟨_, rfl, p, _, 0, _, rfl, rfl, SqT.of ep, rfl, rfl, _, rfl, iteDF (str_ne (by decide +kernel)) ?_⟩
        refine ⟨_, rfl, p, _, 0, _, rfl, rfl, SqT.of ep, rfl, rfl, _, rfl, iteDT rfl ?_⟩
        obtain ⟨dxq, tq, eq0, _, _⟩ := id Sq
        refine ⟨_, rfl, p, _, 2, _, rfl, rfl, SqT.of ep, rfl, q, dxq, _, rfl, eq0, sflds_no _ _ (by decide +kernel) (by decide +kernel), _, rfl, q, d, [(y, t)], e, c0, rfl, Sq, ed2, (fun z hz => by rw [List.mem_singleton.mp hz]; exact ⟨by show -(2 ^ 60) < t; omega, by show t < 2 ^ 60; omega⟩), (fun z hz => by rw [List.mem_singleton.mp hz, nr.1]; exact hy), fun H3 s3 => ?_⟩
        refine ⟨_, rfl, _, rfl, p, _, 1, _, rfl, rfl, SqT.of (s3 _ _ ep), rfl, d, _, rfl, DPut.k (k := Sum.inr x) (s3 _ _ ed2) kz, ?_⟩
        obtain ⟨z1, z2, z3, z4⟩ := dput x (c0 + lin [(y, t)] (get e)) (fun f => t * getV stt.e y f + c0) H3 s3 hx (by show c0 + (t * get e y + 0) = t * getV stt.e y (nf ns) + c0; rw [nr.2 y hy]; omega)
        exact ⟨_, oStep stt (.lt x y t c0), _, rfl, z1, z2, z3, hg, er, ow, z4⟩
      | hd x y t c0 =>
        obtain ⟨p, q, rfl, ep, hcq⟩ := hrv
        obtain ⟨hx, hy, ht1, ht3, nc⟩ := ok1
        refine ⟨_, rfl, p, _, 0, _, rfl, rfl, SqT.of ep, rfl, rfl, _, rfl, iteDF (str_ne (by decide +kernel)) ?_⟩
        refine ⟨_, rfl, p, _, 0, _, rfl, rfl, SqT.of ep, rfl, rfl, _, rfl, iteDF (str_ne (by decide +kernel)) ?_⟩
        obtain ⟨dxq, uq, wq, eq0, _, _⟩ := id hcq
        refine ⟨_, rfl, p, _, 1, _, rfl, rfl, SqT.of ep, rfl, q, dxq, _, rfl, eq0, cf_no (by decide +kernel) (by decide +kernel) (by decide +kernel), _, rfl, q, d, ([(x, 1)], 0), ([(y, t)], c0), "<=", e, rfl, hcq, ed2, (fun z hz => by rw [List.mem_singleton.mp hz]; exact ⟨by show (-(2 ^ 60) : Int) < 1; decide, by show (1 : Int) < 2 ^ 60; decide⟩), (fun z hz => by rw [List.mem_singleton.mp hz]; exact ⟨by show -(2 ^ 60) < t; omega, by show t < 2 ^ 60; omega⟩), (fun z hz => by rw [List.mem_singleton.mp hz, nr.1]; exact hx), (fun z hz => by rw [List.mem_singleton.mp hz, nr.1]; exact hy), fun H3 s3 => ⟨_, rfl, ?_⟩⟩
        have ecb : cmpB "<=" (ev ([(x, 1)], 0) (get e)) (ev ([(y, t)], c0) (get e)) = decide (getV stt.e x (nf ns) ≤ t * getV stt.e y (nf ns) + c0) := by
          have e1 : ev ([(x, 1)], 0) (get e) = getV stt.e x (nf ns) := by
            show (0 : Int) + (1 * get e x + 0) = _
            rw [nr.2 x hx]; omega
          have e2 : ev ([(y, t)], c0) (get e) = t * getV stt.e y (nf ns) + c0 := by
            show c0 + (t * get e y + 0) = _
            rw [nr.2 y hy]; omega
          rw [e1, e2]
          unfold cmpB
          rw [if_neg (by decide +kernel), if_pos rfl]
        rw [ecb]
        by_cases hle : getV stt.e x (nf ns) ≤ t * getV stt.e y (nf ns) + c0
        · rw [decide_eq_true hle]
          refine ifF rfl ?_
          refine ⟨e, oStep stt (.hd x y t c0), _, rfl, s2.trans s3, s3 _ _ ed2, nr, fun g hg' => ?_, er, ow, by omega⟩
          rcases List.mem_append.mp hg' with z | z
          · exact hg g z
          · rw [List.mem_singleton.mp z]
            show 0 ≤ t * getV stt.e y (nf ns) + c0 - getV stt.e x (nf ns)
            omega
        · rw [decide_eq_false hle]
          refine ifT rfl ?_
          refine kn _ (s2.trans s3) ?_
          obtain ⟨m, em⟩ := gs_pre (rows.drop (i + 1)) (oStep stt (.hd x y t c0))
          rw [er] at em
          refine ⟨fun f => t * getV stt.e y f + c0 - getV stt.e x f, ?_, by show t * getV stt.e y (nf ns) + c0 - getV stt.e x (nf ns) < 0; omega⟩
          rw [em]
          exact List.mem_append_left _ (List.mem_append_right _ (List.mem_singleton.mpr rfl))
    · rintro σ H2 ⟨e, stt, o4, rfl, s2, ed2, nr, hg, er, ow, el⟩
      rw [lur, List.drop_length] at er
      have er : stt = oRun rows o0 := er
      subst er
      exact ⟨_, rfl, kd d e H2 s2 ed2 nr hg⟩
end
end Hw
namespace Hw
open PySem L2 PyProof.Rows
section
variable {P : Program} {w : World} {K : PySem.W.Frag} {mg : Str → Option Value} {base : Heap}
abbrev sl_bound : Stmt := top 54
theorem sc_l_bound : FnScope ["_law_steps", "_law_times", "_law_number", "_law_one", "_law_more", "_law_made"] ["_law_steps"] (defScope sl_bound) := ⟨rfl, rfl, rfl, by decide +kernel, rfl, by decide +kernel, by decide +kernel⟩
theorem ok_l_bound {f : Addr} {fd : FuncData} {n : Nat} (F : Fun K "_law_bound" "_law_bound" sl_bound f fd) {Z : Cz} {Db : Addr} (T : Txt K mg Z.s) (J : TxP K mg) (U : Tx4 K mg Z Db)  : FnOk P w K mg base CX0 1 f fd ["_law_steps"] spBnd := by
  refine F.ok sc_l_bound (fun vs H Q E h => ?_) (fun cdv A outer s H vs Q E hr h => ?_)
  · obtain ⟨l, us, st, rfl, hl, hS, ok, l5, k⟩ := h
    rfl
  · obtain ⟨l, us, st, rfl, hl, hS, ok, l5, k⟩ := h
    have hu := hu_of hr
    rw [show defBody sl_bound = [_, _, _, _] from rfl]
    refine ⟨_, (pss_cons (ps_set (i := 1) sc_l_bound.nd rfl (Or.inl rfl) pe_int)
      (pss_cons (ps_set (i := 2) sc_l_bound.nd rfl (Or.inl rfl) pe_int)
      (pss_cons (ps_for PassesOwn.never rfl (pi_list (pv 0)) (pg_tup rfl (pgs_cons (pg_name (i := 3) sc_l_bound.nd rfl (Or.inl rfl)) (pgs_cons (pg_name (i := 4) sc_l_bound.nd rfl (Or.inl rfl)) (pgs_cons (pg_name (i := 5) sc_l_bound.nd rfl (Or.inl rfl)) pgs_nil)))) (pss_cons (ps_set (i := 1) sc_l_bound.nd rfl (Or.inl rfl) (pe_op op_mul (pv 1) (pv 3)))
      (pss_one (ps_set (i := 2) sc_l_bound.nd rfl (Or.inl rfl) (pe_op op_add (pe_op op_mul (pv 2) (pv 3)) (pv 4))))))
      (pss_one (ps_ret (pe_tup (pa_cons (pv 1) (pa_cons (pv 2) pa_nil)))))))), ?_⟩
    refine ⟨_, rfl, l, rfl, ⟨us, SqL.of hl⟩, for_list (xs := us) (fun i σ H' => ∃ o3 o4 o5 : Option V, σ = [some (.ref l), some (.int (bP (st.take i))), some (.int (bN (st.take i))), o3, o4, o5] ∧ H' = H) ⟨none, none, none, rfl, rfl⟩ (fun i σ H' _ ⟨_, _, _, _, q⟩ => by rw [q]; exact SqL.of hl) ?_ ?_⟩
    · rintro i v σ H' hi ⟨o3, o4, o5, rfl, rfl⟩
      obtain ⟨s, es, p, rfl, S⟩ := paired_at hS hi
      refine ⟨p, _, rfl, SqT.of S, rfl, _, _, rfl, _, _, rfl, _, _, rfl, rfl, ?_⟩
      refine ⟨_, rfl, _, rfl, _, _, rfl, rfl, (by obtain ⟨a1, a2, _, _⟩ := ok _ (List.mem_of_getElem? es); exact .inr ⟨by omega, by omega⟩), ?_⟩
      refine ⟨_, rfl, _, rfl, _, _, rfl, rfl, (by obtain ⟨a1, a2, _, _⟩ := ok _ (List.mem_of_getElem? es); exact .inr ⟨by omega, by omega⟩), _, rfl, _, _, rfl, rfl, ?_⟩
      refine ⟨some (.int s.1), some (.int s.2.1), some (.bl s.2.2), ?_, rfl⟩
      rw [take_snoc es, bP_snoc, bN_snoc]
      rfl
    rintro σ H' ⟨o3, o4, o5, rfl, rfl⟩
    refine ⟨_, rfl, _, rfl, (by show 2 ≤ sizeLine; exact Nat.le_of_lt (line 2 (by decide))), fun r hr => k r _ (new hr) ?_⟩
    rw [upd_same, paired_len hS, List.take_length]
end
end Hw
namespace Hw
open PySem L2 PyProof.Rows
section
variable {P : Program} {w : World} {K : PySem.W.Frag} {mg : Str → Option Value} {base : Heap}
abbrev sl_weights : Stmt := top 55
theorem sc_l_weights : FnScope ["_law_steps", "_law_found", "_law_weight", "_law_times", "_law_more", "_law_made"] ["_law_steps"] (defScope sl_weights) := ⟨rfl, rfl, rfl, by decide +kernel, rfl, by decide +kernel, by decide +kernel⟩
theorem ok_l_weights {f : Addr} {fd : FuncData} {n : Nat} (F : Fun K "_law_weights" "_law_weights" sl_weights f fd) {Z : Cz} {Db : Addr} (T : Txt K mg Z.s) (J : TxP K mg) (U : Tx4 K mg Z Db)  : FnOk P w K mg base CX0 1 f fd ["_law_steps"] spWts := by
  refine F.ok sc_l_weights (fun vs H Q E h => ?_) (fun cdv A outer s H vs Q E hr h => ?_)
  · obtain ⟨l, us, st, rfl, hl, hS, ok, l5, k⟩ := h
    rfl
  · obtain ⟨l, us, st, rfl, hl, hS, ok, l5, k⟩ := h
    have hu := hu_of hr
    rw [show defBody sl_weights = [_, _, _, _] from rfl]
    refine ⟨_, (pss_cons (ps_set (i := 1) sc_l_weights.nd rfl (Or.inl rfl) (pe_lst pa_nil))
      (pss_cons (ps_set (i := 2) sc_l_weights.nd rfl (Or.inl rfl) pe_int)
      (pss_cons (ps_for PassesOwn.never rfl (pi_list (pe_revL (pv 0) (pe_un un_neg pe_int))) (pg_tup rfl (pgs_cons (pg_name (i := 3) sc_l_weights.nd rfl (Or.inl rfl)) (pgs_cons (pg_name (i := 4) sc_l_weights.nd rfl (Or.inl rfl)) (pgs_cons (pg_name (i := 5) sc_l_weights.nd rfl (Or.inl rfl)) pgs_nil)))) (pss_cons (ps_if (pt_not (pt_val (pv 5))) (pss_one (ps_set (i := 1) sc_l_weights.nd rfl (Or.inl rfl) (pe_op op_cat (pe_lst (pa_cons (pv 2) pa_nil)) (pv 1)))) pss_nil)
      (pss_one (ps_set (i := 2) sc_l_weights.nd rfl (Or.inl rfl) (pe_op op_mul (pv 2) (pv 3))))))
      (pss_one (ps_ret (pe_op op_cat (pv 1) (pe_lst (pa_cons pe_int pa_nil)))))))), ?_⟩
    have el := paired_len hS
    refine ⟨Nat.zero_le _, fun f0 hf0 => ⟨_, rfl, _, rfl, rfl, l, us, rfl, SqL.of (new hf0 _ _ hl), fun rv hrv => ⟨rv, rfl, ⟨_, SqL.of upd_same⟩, ?_⟩⟩⟩
    have s0 := (new (o := .lst []) hf0).trans (new (o := .lst us.reverse) hrv)
    have erv : (upd (upd H f0 (.lst [])) rv (.lst us.reverse)) rv = some (.lst us.reverse) := upd_same
    have ef0 : (upd (upd H f0 (.lst [])) rv (.lst us.reverse)) f0 = some (.lst []) := new hrv _ _ upd_same
    generalize upd (upd H f0 (.lst [])) rv (.lst us.reverse) = H1 at s0 erv ef0 ⊢
    refine for_list (xs := us.reverse) (fun i σ H' => ∃ (ff : Addr) (o3 o4 o5 : Option V), σ = [some (.ref l), some (.ref ff), some (.int (bP (st.drop (st.length - i)))), o3, o4, o5] ∧ Same H1 H' ∧ H' ff = some (.lst ((wts (st.drop (st.length - i))).map V.int))) ⟨f0, none, none, none, (by rw [Nat.sub_zero, List.drop_length]; rfl), Same.refl _, (by rw [Nat.sub_zero, List.drop_length]; exact ef0)⟩ (fun i σ H' _ ⟨_, _, _, _, _, q, _⟩ => SqL.of (q _ _ erv)) ?_ ?_
    · rintro i v σ H' hi ⟨ff, o3, o4, o5, rfl, sm, ef⟩
      have il : i < us.length := by
        have := (List.getElem?_eq_some_iff.mp hi).1
        rw [List.length_reverse] at this
        exact this
      rw [List.getElem?_reverse il] at hi
      obtain ⟨s, es, p, rfl, S⟩ := paired_at hS hi
      have S := sm _ _ (s0 _ _ S)
      have ed : st.drop (st.length - (i + 1)) = s :: st.drop (st.length - i) := by
        have e1 : us.length - 1 - i = st.length - (i + 1) := by omega
        rw [e1] at es
        have hl' := (List.getElem?_eq_some_iff.mp es).1
        rw [List.drop_eq_getElem_cons hl']
        rw [List.getElem?_eq_getElem hl'] at es
        rw [Option.some.inj es]
        have e2 : st.length - (i + 1) + 1 = st.length - i := by omega
        rw [e2]
      have hsok := ok _ (List.mem_of_getElem? es)
      rw [ed]
      have lw : (wts (st.drop (st.length - i))).length ≤ 5 := by
        rw [wts_len]
        have := cnt_le (st.drop (st.length - i))
        rw [List.length_drop] at this
        omega
      generalize st.drop (st.length - i) = rr at ef lw ⊢
      obtain ⟨t0, c0, m0⟩ := s
      refine ⟨p, _, rfl, SqT.of S, rfl, _, _, rfl, _, _, rfl, _, _, rfl, rfl, ?_⟩
      cases m0 with
      | true =>
        refine ⟨_, rfl, _, rfl, ifF rfl ?_⟩
        refine ⟨_, rfl, _, rfl, _, _, rfl, rfl, (by obtain ⟨a1, a2, _, _⟩ := hsok; exact .inr ⟨by show -(2 ^ 64) < t0; have a1 : 1 ≤ t0 := a1; omega, by show t0 < 2 ^ 64; have a2 : t0 ≤ 3 := a2; omega⟩), ?_⟩
        exact ⟨ff, _, _, _, (by show _ = [some (V.ref l), some (V.ref ff), some (V.int (t0 * bP rr)), _, _, _]; rw [Int.mul_comm]; rfl), sm, ef⟩
      | false =>
        refine ⟨_, rfl, _, rfl, ifT rfl ?_⟩
        refine ⟨_, rfl, (Nat.le_of_lt (line 1 (by decide))), fun q hq => ⟨_, rfl, q, ff, _, _, rfl, rfl, upd_same, new hq _ _ ef, Nat.le_of_lt (line _ (by show 1 + ((wts rr).map V.int).length ≤ _; rw [List.length_map]; omega)), fun f2 hf2 => ?_⟩⟩
        refine ⟨_, rfl, _, rfl, _, _, rfl, rfl, (by obtain ⟨a1, a2, _, _⟩ := hsok; exact .inr ⟨by show -(2 ^ 64) < t0; have a1 : 1 ≤ t0 := a1; omega, by show t0 < 2 ^ 64; have a2 : t0 ≤ 3 := a2; omega⟩), ?_⟩
        exact ⟨f2, _, _, _, (by show _ = [some (V.ref l), some (V.ref f2), some (V.int (t0 * bP rr)), _, _, _]; rw [Int.mul_comm]; rfl), (sm.trans (new hq)).trans (new hf2), upd_same⟩
    rintro σ H' ⟨ff, o3, o4, o5, rfl, sm, ef⟩
    have e0 : st.length - us.reverse.length = 0 := by rw [List.length_reverse]; omega
    rw [e0, List.drop_zero] at ef
    have lw : (wts st).length ≤ 5 := by
      rw [wts_len]
      have := cnt_le st
      omega
    refine ⟨_, rfl, (Nat.le_of_lt (line 1 (by decide))), fun q hq => ⟨ff, q, _, _, rfl, rfl, new hq _ _ ef, upd_same, Nat.le_of_lt (line _ (by show ((wts st).map V.int).length + 1 ≤ _; rw [List.length_map]; omega)), fun r hr => k r _ (((s0.trans sm).trans (new hq)).trans (new hr)) ?_⟩⟩
    rw [upd_same, List.map_append]
    rfl
end
end Hw
namespace Hw
open PySem L2 PyProof.Rows
section
variable {P : Program} {w : World} {K : PySem.W.Frag} {mg : Str → Option Value} {base : Heap}
abbrev sl_greatest : Stmt := top 56
theorem sc_l_greatest : FnScope ["_law_first", "_law_steps", "_law_found", "_law_last", "_law_times", "_law_more", "_law_made"] ["_law_first", "_law_steps"] (defScope sl_greatest) := ⟨rfl, rfl, rfl, by decide +kernel, rfl, by decide +kernel, by decide +kernel⟩
theorem ok_l_greatest {f : Addr} {fd : FuncData} {n : Nat} (F : Fun K "_law_greatest" "_law_greatest" sl_greatest f fd) {Z : Cz} {Db : Addr} (T : Txt K mg Z.s) (J : TxP K mg) (U : Tx4 K mg Z Db)  : FnOk P w K mg base CX0 1 f fd ["_law_first", "_law_steps"] spGrt := by
  refine F.ok sc_l_greatest (fun vs H Q E h => ?_) (fun cdv A outer s H vs Q E hr h => ?_)
  · obtain ⟨l, a, us, st, rfl, hl, hS, ok, l5, k⟩ := h
    rfl
  · obtain ⟨l, a, us, st, rfl, hl, hS, ok, l5, k⟩ := h
    have hu := hu_of hr
    rw [show defBody sl_greatest = [_, _, _, _] from rfl]
    refine ⟨_, (pss_cons (ps_set (i := 2) sc_l_greatest.nd rfl (Or.inl rfl) (pe_lst (pa_cons (pv 0) pa_nil)))
      (pss_cons (ps_set (i := 3) sc_l_greatest.nd rfl (Or.inl rfl) (pv 0))
      (pss_cons (ps_for PassesOwn.never rfl (pi_list (pv 1)) (pg_tup rfl (pgs_cons (pg_name (i := 4) sc_l_greatest.nd rfl (Or.inl rfl)) (pgs_cons (pg_name (i := 5) sc_l_greatest.nd rfl (Or.inl rfl)) (pgs_cons (pg_name (i := 6) sc_l_greatest.nd rfl (Or.inl rfl)) pgs_nil)))) (pss_cons (ps_set (i := 3) sc_l_greatest.nd rfl (Or.inl rfl) (pe_op op_add (pe_op op_mul (pv 3) (pv 4)) (pv 5)))
      (pss_one (ps_if (pt_not (pt_val (pv 6))) (pss_one (ps_expr (pe_bm PySem.F.plainAttrs_list PySem.F.slot_list_append PySem.F.type_list_append mt_append (pv 2) (pa_cons (pv 3) pa_nil)))) pss_nil))))
      (pss_one (ps_ret (pv 2)))))), ?_⟩
    have el := paired_len hS
    refine ⟨_, rfl, (Nat.le_of_lt (line 1 (by decide))), fun f0 hf0 => ⟨_, rfl, _, rfl, l, rfl, ⟨us, SqL.of (new hf0 _ _ hl)⟩, ?_⟩⟩
    refine for_list (xs := us) (fun i σ H' => ∃ (o4 o5 o6 : Option V), σ = [some (.int a), some (.ref l), some (.ref f0), some (.int (lstV a (st.take i))), o4, o5, o6] ∧ Same H H' ∧ H' f0 = some (.lst ((a :: grt a (st.take i)).map V.int))) ⟨none, none, none, rfl, new hf0, upd_same⟩ (fun i σ H' _ ⟨_, _, _, _, q, _⟩ => SqL.of (q _ _ hl)) ?_ ?_
    · rintro i v σ H' hi ⟨o4, o5, o6, rfl, sm, ef⟩
      obtain ⟨s, es, p, rfl, S⟩ := paired_at hS hi
      have S := sm _ _ S
      have hsok := ok _ (List.mem_of_getElem? es)
      have lg : (grt a (st.take i)).length ≤ 5 := by
        rw [grt_len]
        have := cnt_le (st.take i)
        rw [List.length_take] at this
        omega
      rw [take_snoc es, lstV_snoc, grt_snoc]
      generalize st.take i = rr at ef lg ⊢
      obtain ⟨t0, c0, m0⟩ := s
      refine ⟨p, _, rfl, SqT.of S, rfl, _, _, rfl, _, _, rfl, _, _, rfl, rfl, ?_⟩
      refine ⟨_, rfl, _, rfl, _, _, rfl, rfl, (by obtain ⟨a1, a2, _, _⟩ := hsok; exact .inr ⟨by show -(2 ^ 64) < t0; have a1 : 1 ≤ t0 := a1; omega, by show t0 < 2 ^ 64; have a2 : t0 ≤ 3 := a2; omega⟩), _, rfl, _, _, rfl, rfl, ?_⟩
      cases m0 with
      | true =>
        refine ⟨_, rfl, _, rfl, ifF rfl ⟨_, _, _, rfl, sm, ?_⟩⟩
        rw [if_pos rfl, List.append_nil]
        exact ef
      | false =>
        refine ⟨_, rfl, _, rfl, ifT rfl ?_⟩
        refine ⟨_, rfl, .inl ⟨rfl, _, SqL.of ef⟩, _, rfl, f0, _, _, rfl, rfl, ef, line _ (by rw [List.length_map, List.length_cons]; omega), ?_⟩
        refine ⟨_, _, _, rfl, fun b o z => But.upd _ _ (sm _ _ z) (ne_of_none z hf0), ?_⟩
        rw [upd_same, if_neg Bool.false_ne_true, List.map_cons, List.map_cons, List.map_append]
        rfl
    rintro σ H' ⟨o4, o5, o6, rfl, sm, ef⟩
    rw [el, List.take_length] at ef
    exact ⟨_, rfl, k f0 H' hf0 sm ef⟩
end
end Hw
namespace Hw
open PySem L2 PyProof.Rows
section
variable {P : Program} {w : World} {K : PySem.W.Frag} {mg : Str → Option Value} {base : Heap}
abbrev sl_chain : Stmt := top 53
theorem sc_l_chain : FnScope ["_law_draw", "_law_names_here", "_law_rows", "_law_steps", "_law_k", "_law_times", "_law_more"] ["_law_draw", "_law_names_here"] (defScope sl_chain) := ⟨rfl, rfl, rfl, by decide +kernel, rfl, by decide +kernel, by decide +kernel⟩
theorem ok_l_chain {f : Addr} {fd : FuncData} {n : Nat} (F : Fun K "_law_chain" "_law_chain" sl_chain f fd) {Z : Cz} {Db : Addr} (T : Txt K mg Z.s) (J : TxP K mg) (U : Tx4 K mg Z Db) (d_l_next : Dn P w K mg base 2 "_law_next" ["_law_draw", "_law_size"] spNext) (d_init : Mr P w K mg base 1 Z.s ["self", "terms", "number"] (spInit Z.s)) (d_cinit : Mr P w K mg base 1 Z.c ["self", "one", "sign", "other"] (spCInit Z)) : FnOk P w K mg base CX0 3 f fd ["_law_draw", "_law_names_here"] (spChain Z) := by
  obtain ⟨f_l_next, fd_l_next, G_l_next, mg_l_next, kp_l_next, b_l_next⟩ := d_l_next
  obtain ⟨f_init, fd_init, G_Sum_init, M_Sum, b_Sum_init⟩ := d_init
  obtain ⟨f_ci, fd_ci, G_Compare_init, M_Compare, b_Compare_init⟩ := d_cinit
  refine F.ok sc_l_chain (fun vs H Q E h => ?_) (fun cdv A outer s H vs Q E hr h => ?_)
  · obtain ⟨d, l, nm, rfl, hd, hl, ne, h2, h6, k⟩ := h
    rfl
  · obtain ⟨d, l, nm, rfl, hd, hl, ne, h2, h6, k⟩ := h
    have hu := hu_of hr
    rw [show defBody sl_chain = [_, _, _, _] from rfl]
    refine ⟨_, (pss_cons (ps_set (i := 2) sc_l_chain.nd rfl (Or.inl rfl) (pe_lst (pa_cons (pe_tup (pa_cons pe_str (pa_cons (pe_ix ix_list (pv 1) pe_int (fun _ _ => rfl)) pa_nil))) pa_nil)))
      (pss_cons (ps_set (i := 3) sc_l_chain.nd rfl (Or.inl rfl) (pe_lst pa_nil))
      (pss_cons (ps_for PassesOwn.never rfl (pi_range2 rfl T.range (pa_cons pe_int (pa_cons (pe_callB call_len_seq (by rfl) T.len PySem.boot_len (pa_cons (pv 1) pa_nil)) pa_nil))) (pg_name (i := 4) sc_l_chain.nd rfl (Or.inl rfl)) (pss_cons (ps_set (i := 5) sc_l_chain.nd rfl (Or.inl rfl) (pe_ix ix_list (pe_lst (pa_cons pe_int (pa_cons pe_int (pa_cons pe_int (pa_cons pe_int pa_nil))))) (pe_call G_l_next (hr.mono (by first | decide | omega)) rfl mg_l_next kp_l_next b_l_next .nil pass0 (pa_cons (pv 0) (pa_cons pe_int pa_nil))) (fun _ _ => rfl)))
      (pss_cons (ps_set (i := 6) sc_l_chain.nd rfl (Or.inl rfl) (pe_op op_sub (pe_call G_l_next (hr.mono (by first | decide | omega)) rfl mg_l_next kp_l_next b_l_next .nil pass0 (pa_cons (pv 0) (pa_cons pe_int pa_nil))) pe_int))
      (pss_one (ps_if (pt_cmpR op_eq (pe_call G_l_next (hr.mono (by first | decide | omega)) rfl mg_l_next kp_l_next b_l_next .nil pass0 (pa_cons (pv 0) (pa_cons pe_int pa_nil))) pe_int (nomark _)) (pss_cons (ps_expr (pe_bm PySem.F.plainAttrs_list PySem.F.slot_list_append PySem.F.type_list_append mt_append (pv 2) (pa_cons (pe_tup (pa_cons pe_str (pa_cons (pe_ix ix_list (pv 1) (pv 4) (fun _ _ => rfl)) (pa_cons (pe_make M_Sum G_Sum_init (hr.mono (by first | decide | omega)) rfl T.mg_Sum b_Sum_init .nil pass0 (pa_cons (pe_tup (pa_cons (pe_tup (pa_cons (pe_ix ix_list (pv 1) (pe_op op_sub (pv 4) pe_int) (fun _ _ => rfl)) (pa_cons (pv 5) pa_nil))) pa_nil)) (pa_cons (pv 6) pa_nil))) pa_nil)))) pa_nil)))
      (pss_one (ps_expr (pe_bm PySem.F.plainAttrs_list PySem.F.slot_list_append PySem.F.type_list_append mt_append (pv 3) (pa_cons (pe_tup (pa_cons (pv 5) (pa_cons (pv 6) (pa_cons pe_bl pa_nil)))) pa_nil))))) (pss_cons (ps_expr (pe_bm PySem.F.plainAttrs_list PySem.F.slot_list_append PySem.F.type_list_append mt_append (pv 2) (pa_cons (pe_tup (pa_cons pe_str (pa_cons (pe_ix ix_list (pv 1) (pv 4) (fun _ _ => rfl)) pa_nil))) pa_nil)))
      (pss_cons (ps_expr (pe_bm PySem.F.plainAttrs_list PySem.F.slot_list_append PySem.F.type_list_append mt_append (pv 2) (pa_cons (pe_tup (pa_cons pe_str (pa_cons (pe_make M_Compare G_Compare_init (hr.mono (by first | decide | omega)) rfl U.mgC b_Compare_init .nil pass0 (pa_cons (pe_make M_Sum G_Sum_init (hr.mono (by first | decide | omega)) rfl T.mg_Sum b_Sum_init .nil pass0 (pa_cons (pe_tup (pa_cons (pe_tup (pa_cons (pe_ix ix_list (pv 1) (pv 4) (fun _ _ => rfl)) (pa_cons pe_int pa_nil))) pa_nil)) (pa_cons pe_int pa_nil))) (pa_cons pe_str (pa_cons (pe_make M_Sum G_Sum_init (hr.mono (by first | decide | omega)) rfl T.mg_Sum b_Sum_init .nil pass0 (pa_cons (pe_tup (pa_cons (pe_tup (pa_cons (pe_ix ix_list (pv 1) (pe_op op_sub (pv 4) pe_int) (fun _ _ => rfl)) (pa_cons (pv 5) pa_nil))) pa_nil)) (pa_cons (pv 6) pa_nil))) pa_nil)))) pa_nil))) pa_nil)))
      (pss_one (ps_expr (pe_bm PySem.F.plainAttrs_list PySem.F.slot_list_append PySem.F.type_list_append mt_append (pv 3) (pa_cons (pe_tup (pa_cons (pv 5) (pa_cons (pv 6) (pa_cons pe_bl pa_nil)))) pa_nil)))))))))))
      (pss_one (ps_ret (pe_tup (pa_cons (pv 2) (pa_cons (pv 3) pa_nil)))))))), ?_⟩
    have gn : ∀ j, j < nm.length → (nm.map V.str)[j]? = some (V.str (nm.getD j "")) := fun j hj => by
      rw [List.getElem?_map, List.getD_eq_getElem?_getD, List.getElem?_eq_getElem hj]; rfl
    refine ⟨_, rfl, l, _, _, _, rfl, rfl, SqL.of hl, atI_nat (j := 0) (gn 0 (by omega)), (by show 2 ≤ sizeLine; exact Nat.le_of_lt (line 2 (by decide))), fun t0 ht0 => ⟨(Nat.le_of_lt (line 1 (by decide))), fun rw' hrw => ⟨Nat.zero_le _, fun sw hsw => ?_⟩⟩⟩
    have s0 := ((new (o := .tup [.str "any", .str (nm.getD 0 "")]) ht0).trans (new (o := .lst [V.ref t0]) hrw)).trans (new (o := .lst []) hsw)
    have I0 : ChI Z H d rw' sw [V.ref t0] [] (rowsN nm []) [] (upd (upd (upd H t0 (.tup [.str "any", .str (nm.getD 0 "")])) rw' (.lst [V.ref t0])) sw (.lst [])) := ⟨But.of s0, hd.same s0, new hsw _ _ upd_same, upd_same, .cons ⟨t0, rfl, new hsw _ _ (new hrw _ _ upd_same)⟩ .nil, .nil⟩
    have nrd : rw' ≠ d := (hd.same (new ht0)).ne hrw
    have nsd : sw ≠ d := ((hd.same (new ht0)).same (new hrw)).ne hsw
    have nrs : rw' ≠ sw := ne_of_none upd_same hsw
    have hr0 : H rw' = none := none_same (new ht0) hrw
    have hs0 : H sw = none := none_same ((new ht0).trans (new hrw)) hsw
    have el0 := s0 _ _ hl
    generalize upd (upd (upd H t0 (.tup [.str "any", .str (nm.getD 0 "")])) rw' (.lst [V.ref t0])) sw (.lst []) = H1 at s0 I0 el0 ⊢
    refine ⟨_, rfl, l, _, rfl, .inl (SqL.of el0), _, _, rfl, ⟨by decide, by decide, by rw [List.length_map]; omega, by rw [List.length_map]; omega⟩, for_range (lo := 1) (n := _) (fun i σ H' => ∃ (us ws : List V) (st : List Stp) (o4 o5 o6 : Option V), σ = [some (.ref d), some (.ref l), some (.ref rw'), some (.ref sw), o4, o5, o6] ∧ ChI Z H d rw' sw us ws (rowsN nm st) st H' ∧ (∀ s ∈ st, SOk s) ∧ st.length = i) ⟨_, _, _, none, none, none, rfl, I0, (fun _ h => nomatch h), rfl⟩ ?_ ?_⟩
    · rintro i σ H2 hi ⟨us, ws, st, o4, o5, o6, rfl, I2, ok, stl⟩
      have i5 : i + 1 < nm.length := by
        have : i < ((((nm.map V.str).length : Nat) : Int) - 1).toNat := hi
        rw [List.length_map] at this
        omega
      have lus : us.length ≤ 11 := by
        have e1 := paired_len I2.pr
        have e2 := chN_len nm st 0
        have : (rowsN nm st).length = (chN nm 0 st).length + 1 := rfl
        omega
      have lws : ws.length ≤ 5 := by
        have e1 := paired_len I2.ps
        omega
      refine ⟨(by show 4 ≤ sizeLine; exact Nat.le_of_lt (line 4 (by decide))), fun q hq => ⟨_, rfl, d, 4, rfl, I2.dr.same (new hq), (by decide), fun r1 H3 h3 b3 d3 => ?_⟩⟩
      obtain ⟨t, ht, tb1, tb3⟩ : ∃ z : Int, ([V.int 1, V.int 1, V.int 2, V.int 3] : List V)[r1]? = some (V.int z) ∧ 1 ≤ z ∧ z ≤ 3 := by
        have : r1 = 0 ∨ r1 = 1 ∨ r1 = 2 ∨ r1 = 3 := by omega
        rcases this with e | e | e | e <;> subst e <;> exact ⟨_, rfl, by decide, by decide⟩
      refine ⟨q, _, _, _, rfl, rfl, SqL.of (b3 _ _ upd_same (I2.dr.ne hq)), atI_nat ht, ?_⟩
      have I3 := (I2.same (new hq)).but nrd nsd b3 d3
      refine ⟨_, rfl, d, 41, rfl, d3, (by decide), fun r2 H4 h4 b4 d4 => ⟨_, _, rfl, rfl, ?_⟩⟩
      have I4 := I3.but nrd nsd b4 d4
      refine ⟨_, rfl, d, 4, rfl, d4, (by decide), fun r3 H5 h5 b5 d5 => ?_⟩
      have I5 := I4.but nrd nsd b5 d5
      have c1 : -20 ≤ (r2 : Int) - 20 := by omega
      have c2 : (r2 : Int) - 20 ≤ 20 := by omega
      have el5 := I5.b _ _ hl ne
      have gk := gn (i + 1) i5
      have gi := gn i (by omega)
      have ek : atI (nm.map V.str) (1 + (i : Int)) = some (V.str (nm.getD (i + 1) "")) := by
        have e : (1 + (i : Int)) = ((i + 1 : Nat) : Int) := by omega
        rw [e]; exact atI_nat gk
      have ei : atI (nm.map V.str) (1 + (i : Int) - 1) = some (V.str (nm.getD i "")) := by
        have e : (1 + (i : Int) - 1) = ((i : Nat) : Int) := by omega
        rw [e]; exact atI_nat gi
      clear b3 b4 b5 d3 d4 d5 I2 I3 I4
      by_cases h0 : r3 = 0
      · subst h0
        refine ⟨rfl, _, rfl, iteDT rfl ?_⟩
        refine ⟨_, rfl, .inl ⟨rfl, _, SqL.of I5.er⟩, _, rfl, _, rfl, l, _, _, _, rfl, rfl, SqL.of el5, ek, _, rfl, _, rfl, _, _, rfl, rfl, l, _, _, _, rfl, rfl, SqL.of el5, ei, _, rfl, (by show 2 ≤ sizeLine; exact Nat.le_of_lt (line 2 (by decide))), fun q2 hq2 => ⟨(Nat.le_of_lt (line 1 (by decide))), fun t2 ht2 => ⟨_, rfl, fun x dx hx hdx nxd => ?_⟩⟩⟩
        have sA := (new (H := H5) (o := .tup [.str (nm.getD i ""), .int t]) hq2).trans (new (o := .tup [V.ref q2]) ht2)
        have hm := made_same (o := .own x) (o' := .ins Z.s dx []) hx hdx
        refine ⟨x, dx, t2, ((r2 : Int) - 20), [(nm.getD i "", t)], rfl, upd_same, .inr ⟨[V.ref q2], hm _ _ upd_same, prs_one ⟨q2, rfl, hm _ _ (new ht2 _ _ upd_same)⟩⟩, (by show 1 ≤ 1000; decide), fun H6 but' S6 => ⟨rfl, ?_⟩⟩
        have s6 : Same H5 H6 := fun b o z => but' b o (hm _ _ (sA _ _ z)) (ne_of_none (sA _ _ z) hx)
        clear sA hm but'
        refine ⟨(by show 3 ≤ sizeLine; exact Nat.le_of_lt (line 3 (by decide))), fun t3 ht3' => ?_⟩
        have I6 := I5.same s6
        have s7 := new (o := .tup [.str "let", .str (nm.getD (i + 1) ""), .ref x]) ht3'
        have I7 := I6.same s7
        refine ⟨rw', _, _, rfl, rfl, I7.er, line _ (by omega), ?_⟩
        have I8 := I7.row nrd nrs hr0 (r := .lt (nm.getD (i + 1) "") (nm.getD i "") t ((r2 : Int) - 20)) (v := .ref t3) ⟨t3, x, rfl, upd_same, S6.same s7⟩
        generalize upd (upd H6 t3 (.tup [.str "let", .str (nm.getD (i + 1) ""), .ref x])) rw' (.lst (us ++ [V.ref t3])) = H8 at I8 ⊢
        refine ⟨_, rfl, .inl ⟨rfl, _, SqL.of I8.es⟩, _, rfl, _, rfl, (by show 3 ≤ sizeLine; exact Nat.le_of_lt (line 3 (by decide))), fun t4 ht4 => ?_⟩
        have s9 := new (o := .tup [.int t, .int ((r2 : Int) - 20), .bl true]) ht4
        have I9 := I8.same s9
        refine ⟨sw, _, _, rfl, rfl, I9.es, line _ (by omega), ?_⟩
        have I10 := I9.stp nsd nrs hs0 (s := (t, (r2 : Int) - 20, true)) (v := .ref t4) ⟨t4, rfl, upd_same⟩
        refine ⟨us ++ [V.ref t3], ws ++ [V.ref t4], st ++ [(t, (r2 : Int) - 20, true)], _, _, _, rfl, ?_, fun s hs => ?_, by rw [List.length_append, stl]; rfl⟩
        · rw [rowsN_snoc, stl]
          exact I10
        · rcases List.mem_append.mp hs with z | z
          · exact ok s z
          · rw [List.mem_singleton.mp z]; exact ⟨tb1, tb3, c1, c2⟩
      · refine ⟨rfl, _, rfl, iteDF (fun z => h0 (by injection z with z; omega)) ?_⟩
        refine ⟨_, rfl, .inl ⟨rfl, _, SqL.of I5.er⟩, _, rfl, _, rfl, l, _, _, _, rfl, rfl, SqL.of el5, ek, (by show 2 ≤ sizeLine; exact Nat.le_of_lt (line 2 (by decide))), fun t7 ht7 => ?_⟩
        have s7 := new (o := .tup [.str "any", .str (nm.getD (i + 1) "")]) ht7
        have I7 := I5.same s7
        refine ⟨rw', _, _, rfl, rfl, I7.er, line _ (by omega), ?_⟩
        have I8 := I7.row nrd nrs hr0 (r := .any (nm.getD (i + 1) "")) (v := .ref t7) ⟨t7, rfl, upd_same⟩
        generalize upd (upd H5 t7 (.tup [.str "any", .str (nm.getD (i + 1) "")])) rw' (.lst (us ++ [V.ref t7])) = H8 at I8 ⊢
        have el8 := I8.b _ _ hl ne
        refine ⟨_, rfl, .inl ⟨rfl, _, SqL.of I8.er⟩, _, rfl, _, rfl, l, _, _, _, rfl, rfl, SqL.of el8, ek, (by show 2 ≤ sizeLine; exact Nat.le_of_lt (line 2 (by decide))), fun q2 hq2 => ⟨(Nat.le_of_lt (line 1 (by decide))), fun t2 ht2 => fun x dx hx hdx nxd => ?_⟩⟩
        have sA := (new (H := H8) (o := .tup [.str (nm.getD (i + 1) ""), .int 1]) hq2).trans (new (o := .tup [V.ref q2]) ht2)
        have hm := made_same (o := .own x) (o' := .ins Z.s dx []) hx hdx
        refine ⟨x, dx, t2, 0, [(nm.getD (i + 1) "", 1)], rfl, upd_same, .inr ⟨[V.ref q2], hm _ _ upd_same, prs_one ⟨q2, rfl, hm _ _ (new ht2 _ _ upd_same)⟩⟩, (by show 1 ≤ 1000; decide), fun H9 but' S9 => ⟨rfl, ?_⟩⟩
        have s9 : Same H8 H9 := fun b o z => but' b o (hm _ _ (sA _ _ z)) (ne_of_none (sA _ _ z) hx)
        clear sA hm but'
        have el9 := s9 _ _ el8
        refine ⟨_, rfl, _, rfl, _, _, rfl, rfl, l, _, _, _, rfl, rfl, SqL.of el9, ei, _, rfl, (by show 2 ≤ sizeLine; exact Nat.le_of_lt (line 2 (by decide))), fun q3 hq3 => ⟨(Nat.le_of_lt (line 1 (by decide))), fun t3 ht3 => ⟨_, rfl, fun x3 dx3 hx3 hdx3 nxd3 => ?_⟩⟩⟩
        have sA := (new (H := H9) (o := .tup [.str (nm.getD i ""), .int t]) hq3).trans (new (o := .tup [V.ref q3]) ht3)
        have hm := made_same (o := .own x3) (o' := .ins Z.s dx3 []) hx3 hdx3
        refine ⟨x3, dx3, t3, ((r2 : Int) - 20), [(nm.getD i "", t)], rfl, upd_same, .inr ⟨[V.ref q3], hm _ _ upd_same, prs_one ⟨q3, rfl, hm _ _ (new ht3 _ _ upd_same)⟩⟩, (by show 1 ≤ 1000; decide), fun H10 but' S10 => ⟨rfl, ?_⟩⟩
        have s10 : Same H9 H10 := fun b o z => but' b o (hm _ _ (sA _ _ z)) (ne_of_none (sA _ _ z) hx3)
        clear sA hm but'
        refine fun x4 dx4 hx4 hdx4 nxd4 => ?_
        have hm := made_same (o := .own x4) (o' := .ins Z.c dx4 []) hx4 hdx4
        refine ⟨x4, dx4, x, x3, "<=", rfl, upd_same, fun H11 but' e11 => ⟨rfl, ?_⟩⟩
        have s11 : Same H10 H11 := fun b o z => but' b o (hm _ _ z) (ne_of_none z hx4)
        have I11 := ((I8.same s9).same s10).same s11
        refine ⟨(by show 2 ≤ sizeLine; exact Nat.le_of_lt (line 2 (by decide))), fun t5 ht5 => ?_⟩
        have s12 := new (o := .tup [.str "hold", .ref x4]) ht5
        have I12 := I11.same s12
        have cq : CmpAt Z H11 x4 ([(nm.getD (i + 1) "", 1)], 0) "<=" ([(nm.getD i "", t)], (r2 : Int) - 20) := ⟨dx4, x, x3, e11, (S9.same s10).same s11, S10.same s11⟩
        have l12 : (us ++ [V.ref t7]).length ≤ 12 := by rw [List.length_append]; show us.length + 1 ≤ 12; omega
        refine ⟨rw', _, _, rfl, rfl, I12.er, line _ (by omega), ?_⟩
        have I13 := I12.row nrd nrs hr0 (r := .hd (nm.getD (i + 1) "") (nm.getD i "") t ((r2 : Int) - 20)) (v := .ref t5) ⟨t5, x4, rfl, upd_same, cq.same s12⟩
        generalize upd (upd H11 t5 (.tup [.str "hold", .ref x4])) rw' (.lst ((us ++ [V.ref t7]) ++ [V.ref t5])) = H13 at I13 ⊢
        refine ⟨_, rfl, .inl ⟨rfl, _, SqL.of I13.es⟩, _, rfl, _, rfl, (by show 3 ≤ sizeLine; exact Nat.le_of_lt (line 3 (by decide))), fun t4 ht4 => ?_⟩
        have s14 := new (o := .tup [.int t, .int ((r2 : Int) - 20), .bl false]) ht4
        have I14 := I13.same s14
        refine ⟨sw, _, _, rfl, rfl, I14.es, line _ (by omega), ?_⟩
        have I15 := I14.stp nsd nrs hs0 (s := (t, (r2 : Int) - 20, false)) (v := .ref t4) ⟨t4, rfl, upd_same⟩
        refine ⟨(us ++ [V.ref t7]) ++ [V.ref t5], ws ++ [V.ref t4], st ++ [(t, (r2 : Int) - 20, false)], _, _, _, rfl, ?_, fun s hs => ?_, by rw [List.length_append, stl]; rfl⟩
        · rw [rowsN_snoc, stl]
          rw [List.append_assoc (rowsN nm st)] at I15
          exact I15
        · rcases List.mem_append.mp hs with z | z
          · exact ok s z
          · rw [List.mem_singleton.mp z]; exact ⟨tb1, tb3, c1, c2⟩
    rintro σ H2 ⟨us, ws, st, o4, o5, o6, rfl, I2, ok, stl⟩
    refine ⟨_, rfl, _, rfl, (by show 2 ≤ sizeLine; exact Nat.le_of_lt (line 2 (by decide))), fun r hr' => ?_⟩
    have I3 := I2.same (new (o := .tup [.ref rw', .ref sw]) hr')
    refine k r rw' sw us ws st _ I3.b upd_same I3.er I3.es I3.pr I3.ps ok ?_
    have : st.length = ((((nm.map V.str).length : Nat) : Int) - 1).toNat := stl
    rw [List.length_map] at this
    omega
end
end Hw
namespace Hw
open PySem L2 PyProof.Rows
theorem zzu0 {A : FuncData} {B : List Str} (us : List Value) (hl : us.length = 0) (k : bindArgs A ⟨[], []⟩ = pure (B.zip [])) : bindArgs A ⟨us, []⟩ = pure (B.zip us) := match us, hl with | [], _ => k
theorem zzu1 {A : FuncData} {B : List Str} (us : List Value) (hl : us.length = 1) (k : ∀ a, bindArgs A ⟨[a], []⟩ = pure (B.zip [a])) : bindArgs A ⟨us, []⟩ = pure (B.zip us) := match us, hl with | [a], _ => k a
theorem zzu2 {A : FuncData} {B : List Str} (us : List Value) (hl : us.length = 2) (k : ∀ a b, bindArgs A ⟨[a, b], []⟩ = pure (B.zip [a, b])) : bindArgs A ⟨us, []⟩ = pure (B.zip us) := match us, hl with | [a, b], _ => k a b
theorem zzu3 {A : FuncData} {B : List Str} (us : List Value) (hl : us.length = 3) (k : ∀ a b c, bindArgs A ⟨[a, b, c], []⟩ = pure (B.zip [a, b, c])) : bindArgs A ⟨us, []⟩ = pure (B.zip us) := match us, hl with | [a, b, c], _ => k a b c
theorem zzu4 {A : FuncData} {B : List Str} (us : List Value) (hl : us.length = 4) (k : ∀ a b c d, bindArgs A ⟨[a, b, c, d], []⟩ = pure (B.zip [a, b, c, d])) : bindArgs A ⟨us, []⟩ = pure (B.zip us) := match us, hl with | [a, b, c, d], _ => k a b c d
theorem zzu5 {A : FuncData} {B : List Str} (us : List Value) (hl : us.length = 5) (k : ∀ a b c d e, bindArgs A ⟨[a, b, c, d, e], []⟩ = pure (B.zip [a, b, c, d, e])) : bindArgs A ⟨us, []⟩ = pure (B.zip us) := match us, hl with | [a, b, c, d, e], _ => k a b c d e
theorem ew0 (C : Addr) : ∀ vs H Q E, ¬ spEW C 0 vs H Q E := fun _ _ _ _ h => by
  obtain ⟨_, _, _, _, _, _, _, _, _, _, _, _, _, _, _, _, _, z, _⟩ := h
  exact z
theorem all_mk {l : PySem.W.OpenLaw} {w : World} {K : PySem.W.Frag} {h : Heap} {mg : Str → Option Value} {fa Cs Cc Db OD f1 f2 f3 f4 f5 f6 f7 f8 f9 f10 f11 f12 f13 f14 f15 f16 f17 f18 f19 f20 f21 f22 f23 f24 f25 f26 f27 f28 f29 f30 f31 f32 f33 f34 f35 f36 f37 f38 f39 f40 f41 f42 f43 f44 f45 f46 f47 f48 f49 f50 f51 f52 f53 : Addr} {oe : Nat} {t1 t2 t3 t4 t5 t6 u1 u2 u3 u4 u5 u6 tM tC : Tok} (X : K.In h) (G : h.Ns mainGlobals mg) (hfa : mg "law" = some (.ref fa))
    {od1 an1 od2 an2 od3 an3 od4 an4 od5 an5 od6 an6 od7 an7 od8 an8 od9 an9 od10 an10 od11 an11 od12 an12 od13 an13 od14 an14 od15 an15 od16 an16 od17 an17 od18 an18 od19 an19 od20 an20 od21 an21 od22 an22 od23 an23 od24 an24 od25 an25 od26 an26 od27 an27 od28 an28 od29 an29 od30 an30 od31 an31 od32 an32 od33 an33 od34 an34 od35 an35 od36 an36 od37 an37 od38 an38 od39 an39 od40 an40 od41 an41 od42 an42 od43 an43 od44 an44 od45 an45 od46 an46 od47 an47 od48 an48 od49 an49 od50 an50 od51 an51 od52 an52 od53 an53 : Option Addr} {sl1 sl2 sl3 sl4 sl5 sl6 sl7 sl8 sl9 sl10 sl11 sl12 sl13 sl14 sl15 sl16 sl17 sl18 sl19 sl20 sl21 sl22 sl23 sl24 sl25 sl26 sl27 sl28 sl29 sl30 sl31 sl32 sl33 sl34 sl35 sl36 sl37 sl38 sl39 sl40 sl41 sl42 sl43 sl44 sl45 sl46 sl47 sl48 sl49 sl50 sl51 sl52 sl53 : Array (Option Value)} {oc1 kV1 dc1 pm1 cd1 ct1 oc2 kV2 dc2 pm2 cd2 ct2 oc3 kV3 dc3 pm3 cd3 ct3 oc4 kV4 dc4 pm4 cd4 ct4 oc5 kV5 dc5 pm5 cd5 ct5 oc6 kV6 dc6 pm6 cd6 ct6 oc7 kV7 dc7 pm7 cd7 ct7 oc8 kV8 dc8 pm8 cd8 ct8 oc9 kV9 dc9 pm9 cd9 ct9 oc10 kV10 dc10 pm10 cd10 ct10 oc11 kV11 dc11 pm11 cd11 ct11 oc12 kV12 dc12 pm12 cd12 ct12 oc13 kV13 dc13 pm13 cd13 ct13 oc14 kV14 dc14 pm14 cd14 ct14 oc15 kV15 dc15 pm15 cd15 ct15 oc16 kV16 dc16 pm16 cd16 ct16 oc17 kV17 dc17 pm17 cd17 ct17 oc18 kV18 dc18 pm18 cd18 ct18 oc19 kV19 dc19 pm19 cd19 ct19 oc20 kV20 dc20 pm20 cd20 ct20 oc21 kV21 dc21 pm21 cd21 ct21 oc22 kV22 dc22 pm22 cd22 ct22 oc23 kV23 dc23 pm23 cd23 ct23 oc24 kV24 dc24 pm24 cd24 ct24 oc25 kV25 dc25 pm25 cd25 ct25 oc26 kV26 dc26 pm26 cd26 ct26 oc27 kV27 dc27 pm27 cd27 ct27 oc28 kV28 dc28 pm28 cd28 ct28 oc29 kV29 dc29 pm29 cd29 ct29 oc30 kV30 dc30 pm30 cd30 ct30 oc31 kV31 dc31 pm31 cd31 ct31 oc32 kV32 dc32 pm32 cd32 ct32 oc33 kV33 dc33 pm33 cd33 ct33 oc34 kV34 dc34 pm34 cd34 ct34 oc35 kV35 dc35 pm35 cd35 ct35 oc36 kV36 dc36 pm36 cd36 ct36 oc37 kV37 dc37 pm37 cd37 ct37 oc38 kV38 dc38 pm38 cd38 ct38 oc39 kV39 dc39 pm39 cd39 ct39 oc40 kV40 dc40 pm40 cd40 ct40 oc41 kV41 dc41 pm41 cd41 ct41 oc42 kV42 dc42 pm42 cd42 ct42 oc43 kV43 dc43 pm43 cd43 ct43 oc44 kV44 dc44 pm44 cd44 ct44 oc45 kV45 dc45 pm45 cd45 ct45 oc46 kV46 dc46 pm46 cd46 ct46 oc47 kV47 dc47 pm47 cd47 ct47 oc48 kV48 dc48 pm48 cd48 ct48 oc49 kV49 dc49 pm49 cd49 ct49 oc50 kV50 dc50 pm50 cd50 ct50 oc51 kV51 dc51 pm51 cd51 ct51 oc52 kV52 dc52 pm52 cd52 ct52 oc53 kV53 dc53 pm53 cd53 ct53 : Value}
    (g_Cs : PySem.W.nsIn K mainGlobals "Sum" = some (some (.ref Cs))) (pg_Cs : PySem.W.plainGet K Cs Str.empty = true) (hd_Cs : PySem.W.hasDictIn K Cs = true) (po_Cs : PySem.W.plainOver K Cs = true) (sa_Cs : PySem.W.findIn K (.ref Cs) "__setattr__" = some (some (.builtin "object.__setattr__"))) (mk_Cs : PySem.W.makesIn K Cs = true) (kc_Cs : PySem.W.keepIn K (.ref Cs) = true)
    (g_Cc : PySem.W.nsIn K mainGlobals "Compare" = some (some (.ref Cc))) (pg_Cc : PySem.W.plainGet K Cc Str.empty = true) (hd_Cc : PySem.W.hasDictIn K Cc = true) (po_Cc : PySem.W.plainOver K Cc = true) (sa_Cc : PySem.W.findIn K (.ref Cc) "__setattr__" = some (some (.builtin "object.__setattr__"))) (mk_Cc : PySem.W.makesIn K Cc = true) (kc_Cc : PySem.W.keepIn K (.ref Cc) = true)
    (g_Db : PySem.W.nsIn K mainGlobals "Debt" = some (some (.ref Db))) (pg_Db : PySem.W.plainGet K Db Str.empty = true) (hd_Db : PySem.W.hasDictIn K Db = true) (po_Db : PySem.W.plainOver K Db = true) (sa_Db : PySem.W.findIn K (.ref Db) "__setattr__" = some (some (.builtin "object.__setattr__"))) (mk_Db : PySem.W.makesIn K Db = true) (kc_Db : PySem.W.keepIn K (.ref Db) = true)
    (a1 : PySem.W.findIn K (.ref Cs) "__init__" = some (some (.ref f1))) (i1 : PySem.W.isFn K (.ref f1) = true)
    (l1 : K.lookup f1 = some ⟨oc1, od1, .func (PySem.W.fnOf "__init__" "Sum.__init__" (defArgs sInit) (defBody sInit) (defScope sInit) .none kV1 dc1 pm1 an1 cd1 ct1), sl1⟩) (c1 : PySem.W.codeIn K cd1 "Sum.__init__" = true) (k1 : PySem.W.keepIn K (.ref f1) = true)
    (a2 : PySem.W.findIn K (.ref Cs) "plus" = some (some (.ref f2))) (i2 : PySem.W.isFn K (.ref f2) = true)
    (l2 : K.lookup f2 = some ⟨oc2, od2, .func (PySem.W.fnOf "plus" "Sum.plus" (defArgs sPlus) (defBody sPlus) (defScope sPlus) .none kV2 dc2 pm2 an2 cd2 ct2), sl2⟩) (c2 : PySem.W.codeIn K cd2 "Sum.plus" = true) (k2 : PySem.W.keepIn K (.ref f2) = true)
    (a3 : PySem.W.findIn K (.ref Cs) "less" = some (some (.ref f3))) (i3 : PySem.W.isFn K (.ref f3) = true)
    (l3 : K.lookup f3 = some ⟨oc3, od3, .func (PySem.W.fnOf "less" "Sum.less" (defArgs sLess) (defBody sLess) (defScope sLess) .none kV3 dc3 pm3 an3 cd3 ct3), sl3⟩) (c3 : PySem.W.codeIn K cd3 "Sum.less" = true) (k3 : PySem.W.keepIn K (.ref f3) = true)
    (a4 : PySem.W.findIn K (.ref Cs) "times" = some (some (.ref f4))) (i4 : PySem.W.isFn K (.ref f4) = true)
    (l4 : K.lookup f4 = some ⟨oc4, od4, .func (PySem.W.fnOf "times" "Sum.times" (defArgs sTimes) (defBody sTimes) (defScope sTimes) .none kV4 dc4 pm4 an4 cd4 ct4), sl4⟩) (c4 : PySem.W.codeIn K cd4 "Sum.times" = true) (k4 : PySem.W.keepIn K (.ref f4) = true)
    (a5 : PySem.W.nsIn K mainGlobals "sum_of" = some (some (.ref f5)))
    (l5 : K.lookup f5 = some ⟨oc5, od5, .func (PySem.W.fnOf "sum_of" "sum_of" (defArgs sSumOf) (defBody sSumOf) (defScope sSumOf) .none kV5 dc5 pm5 an5 cd5 ct5), sl5⟩) (c5 : PySem.W.codeIn K cd5 "sum_of" = true) (k5 : PySem.W.keepIn K (.ref f5) = true)
    (a6 : PySem.W.nsIn K mainGlobals "_law_mixed" = some (some (.ref f6)))
    (l6 : K.lookup f6 = some ⟨oc6, od6, .func (PySem.W.fnOf "_law_mixed" "_law_mixed" (defArgs sMixed) (defBody sMixed) (defScope sMixed) .none kV6 dc6 pm6 an6 cd6 ct6), sl6⟩) (c6 : PySem.W.codeIn K cd6 "_law_mixed" = true) (k6 : PySem.W.keepIn K (.ref f6) = true)
    (a7 : PySem.W.nsIn K mainGlobals "_law_cell_at" = some (some (.ref f7)))
    (l7 : K.lookup f7 = some ⟨oc7, od7, .func (PySem.W.fnOf "_law_cell_at" "_law_cell_at" (defArgs sCellAt) (defBody sCellAt) (defScope sCellAt) .none kV7 dc7 pm7 an7 cd7 ct7), sl7⟩) (c7 : PySem.W.codeIn K cd7 "_law_cell_at" = true) (k7 : PySem.W.keepIn K (.ref f7) = true)
    (a8 : PySem.W.nsIn K mainGlobals "_law_next" = some (some (.ref f8)))
    (l8 : K.lookup f8 = some ⟨oc8, od8, .func (PySem.W.fnOf "_law_next" "_law_next" (defArgs sNext) (defBody sNext) (defScope sNext) .none kV8 dc8 pm8 an8 cd8 ct8), sl8⟩) (c8 : PySem.W.codeIn K cd8 "_law_next" = true) (k8 : PySem.W.keepIn K (.ref f8) = true)
    (a9 : PySem.W.findIn K (.ref Cs) "put_in" = some (some (.ref f9))) (i9 : PySem.W.isFn K (.ref f9) = true)
    (l9 : K.lookup f9 = some ⟨oc9, od9, .func (PySem.W.fnOf "put_in" "Sum.put_in" (defArgs sPutIn) (defBody sPutIn) (defScope sPutIn) .none kV9 dc9 pm9 an9 cd9 ct9), sl9⟩) (c9 : PySem.W.codeIn K cd9 "Sum.put_in" = true) (k9 : PySem.W.keepIn K (.ref f9) = true)
    (a10 : PySem.W.nsIn K mainGlobals "_law_kept" = some (some (.ref f10)))
    (l10 : K.lookup f10 = some ⟨oc10, od10, .func (PySem.W.fnOf "_law_kept" "_law_kept" (defArgs sKept) (defBody sKept) (defScope sKept) .none kV10 dc10 pm10 an10 cd10 ct10), sl10⟩) (c10 : PySem.W.codeIn K cd10 "_law_kept" = true) (k10 : PySem.W.keepIn K (.ref f10) = true)
    (a11 : PySem.W.nsIn K mainGlobals "_law_names" = some (some (.ref f11)))
    (l11 : K.lookup f11 = some ⟨oc11, od11, .func (PySem.W.fnOf "_law_names" "_law_names" (defArgs sNames) (defBody sNames) (defScope sNames) .none kV11 dc11 pm11 an11 cd11 ct11), sl11⟩) (c11 : PySem.W.codeIn K cd11 "_law_names" = true) (k11 : PySem.W.keepIn K (.ref f11) = true)
    (a12 : PySem.W.nsIn K mainGlobals "is_several" = some (some (.ref f12)))
    (l12 : K.lookup f12 = some ⟨oc12, od12, .func (PySem.W.fnOf "is_several" "is_several" (defArgs sis_several) (defBody sis_several) (defScope sis_several) .none kV12 dc12 pm12 an12 cd12 ct12), sl12⟩) (c12 : PySem.W.codeIn K cd12 "is_several" = true) (k12 : PySem.W.keepIn K (.ref f12) = true)
    (a13 : PySem.W.nsIn K mainGlobals "is_number" = some (some (.ref f13)))
    (l13 : K.lookup f13 = some ⟨oc13, od13, .func (PySem.W.fnOf "is_number" "is_number" (defArgs sis_number) (defBody sis_number) (defScope sis_number) .none kV13 dc13 pm13 an13 cd13 ct13), sl13⟩) (c13 : PySem.W.codeIn K cd13 "is_number" = true) (k13 : PySem.W.keepIn K (.ref f13) = true)
    (a14 : PySem.W.nsIn K mainGlobals "is_from_one" = some (some (.ref f14)))
    (l14 : K.lookup f14 = some ⟨oc14, od14, .func (PySem.W.fnOf "is_from_one" "is_from_one" (defArgs sis_from_one) (defBody sis_from_one) (defScope sis_from_one) .none kV14 dc14 pm14 an14 cd14 ct14), sl14⟩) (c14 : PySem.W.codeIn K cd14 "is_from_one" = true) (k14 : PySem.W.keepIn K (.ref f14) = true)
    (a15 : PySem.W.nsIn K mainGlobals "is_ahead" = some (some (.ref f15)))
    (l15 : K.lookup f15 = some ⟨oc15, od15, .func (PySem.W.fnOf "is_ahead" "is_ahead" (defArgs sis_ahead) (defBody sis_ahead) (defScope sis_ahead) .none kV15 dc15 pm15 an15 cd15 ct15), sl15⟩) (c15 : PySem.W.codeIn K cd15 "is_ahead" = true) (k15 : PySem.W.keepIn K (.ref f15) = true)
    (a16 : PySem.W.nsIn K mainGlobals "is_weighed" = some (some (.ref f16)))
    (l16 : K.lookup f16 = some ⟨oc16, od16, .func (PySem.W.fnOf "is_weighed" "is_weighed" (defArgs sis_weighed) (defBody sis_weighed) (defScope sis_weighed) .none kV16 dc16 pm16 an16 cd16 ct16), sl16⟩) (c16 : PySem.W.codeIn K cd16 "is_weighed" = true) (k16 : PySem.W.keepIn K (.ref f16) = true)
    (a17 : PySem.W.nsIn K mainGlobals "can_be_divided" = some (some (.ref f17)))
    (l17 : K.lookup f17 = some ⟨oc17, od17, .func (PySem.W.fnOf "can_be_divided" "can_be_divided" (defArgs scan_be_divided) (defBody scan_be_divided) (defScope scan_be_divided) .none kV17 dc17 pm17 an17 cd17 ct17), sl17⟩) (c17 : PySem.W.codeIn K cd17 "can_be_divided" = true) (k17 : PySem.W.keepIn K (.ref f17) = true)
    (a18 : PySem.W.nsIn K mainGlobals "is_term" = some (some (.ref f18)))
    (l18 : K.lookup f18 = some ⟨oc18, od18, .func (PySem.W.fnOf "is_term" "is_term" (defArgs sis_term) (defBody sis_term) (defScope sis_term) .none kV18 dc18 pm18 an18 cd18 ct18), sl18⟩) (c18 : PySem.W.codeIn K cd18 "is_term" = true) (k18 : PySem.W.keepIn K (.ref f18) = true)
    (a19 : PySem.W.nsIn K mainGlobals "is_sum" = some (some (.ref f19)))
    (l19 : K.lookup f19 = some ⟨oc19, od19, .func (PySem.W.fnOf "is_sum" "is_sum" (defArgs sis_sum) (defBody sis_sum) (defScope sis_sum) .none kV19 dc19 pm19 an19 cd19 ct19), sl19⟩) (c19 : PySem.W.codeIn K cd19 "is_sum" = true) (k19 : PySem.W.keepIn K (.ref f19) = true)
    (a20 : PySem.W.nsIn K mainGlobals "is_never" = some (some (.ref f20)))
    (l20 : K.lookup f20 = some ⟨oc20, od20, .func (PySem.W.fnOf "is_never" "is_never" (defArgs sis_never) (defBody sis_never) (defScope sis_never) .none kV20 dc20 pm20 an20 cd20 ct20), sl20⟩) (c20 : PySem.W.codeIn K cd20 "is_never" = true) (k20 : PySem.W.keepIn K (.ref f20) = true)
    (a21 : PySem.W.nsIn K mainGlobals "is_split" = some (some (.ref f21)))
    (l21 : K.lookup f21 = some ⟨oc21, od21, .func (PySem.W.fnOf "is_split" "is_split" (defArgs sis_split) (defBody sis_split) (defScope sis_split) .none kV21 dc21 pm21 an21 cd21 ct21), sl21⟩) (c21 : PySem.W.codeIn K cd21 "is_split" = true) (k21 : PySem.W.keepIn K (.ref f21) = true)
    (a22 : PySem.W.nsIn K mainGlobals "is_right" = some (some (.ref f22)))
    (l22 : K.lookup f22 = some ⟨oc22, od22, .func (PySem.W.fnOf "is_right" "is_right" (defArgs sis_right) (defBody sis_right) (defScope sis_right) .none kV22 dc22 pm22 an22 cd22 ct22), sl22⟩) (c22 : PySem.W.codeIn K cd22 "is_right" = true) (k22 : PySem.W.keepIn K (.ref f22) = true)
    (a23 : PySem.W.nsIn K mainGlobals "turned_terms" = some (some (.ref f23)))
    (l23 : K.lookup f23 = some ⟨oc23, od23, .func (PySem.W.fnOf "turned_terms" "turned_terms" (defArgs sturned_terms) (defBody sturned_terms) (defScope sturned_terms) .none kV23 dc23 pm23 an23 cd23 ct23), sl23⟩) (c23 : PySem.W.codeIn K cd23 "turned_terms" = true) (k23 : PySem.W.keepIn K (.ref f23) = true)
    (a24 : PySem.W.nsIn K mainGlobals "other_side" = some (some (.ref f24)))
    (l24 : K.lookup f24 = some ⟨oc24, od24, .func (PySem.W.fnOf "other_side" "other_side" (defArgs sother_side) (defBody sother_side) (defScope sother_side) .none kV24 dc24 pm24 an24 cd24 ct24), sl24⟩) (c24 : PySem.W.codeIn K cd24 "other_side" = true) (k24 : PySem.W.keepIn K (.ref f24) = true)
    (a25 : PySem.W.nsIn K mainGlobals "divided" = some (some (.ref f25)))
    (l25 : K.lookup f25 = some ⟨oc25, od25, .func (PySem.W.fnOf "divided" "divided" (defArgs sdivided) (defBody sdivided) (defScope sdivided) .none kV25 dc25 pm25 an25 cd25 ct25), sl25⟩) (c25 : PySem.W.codeIn K cd25 "divided" = true) (k25 : PySem.W.keepIn K (.ref f25) = true)
    (a26 : PySem.W.nsIn K mainGlobals "line_of" = some (some (.ref f26)))
    (l26 : K.lookup f26 = some ⟨oc26, od26, .func (PySem.W.fnOf "line_of" "line_of" (defArgs sline_of) (defBody sline_of) (defScope sline_of) .none kV26 dc26 pm26 an26 cd26 ct26), sl26⟩) (c26 : PySem.W.codeIn K cd26 "line_of" = true) (k26 : PySem.W.keepIn K (.ref f26) = true)
    (a27 : PySem.W.nsIn K mainGlobals "both_end_well" = some (some (.ref f27)))
    (l27 : K.lookup f27 = some ⟨oc27, od27, .func (PySem.W.fnOf "both_end_well" "both_end_well" (defArgs sboth_end_well) (defBody sboth_end_well) (defScope sboth_end_well) .none kV27 dc27 pm27 an27 cd27 ct27), sl27⟩) (c27 : PySem.W.codeIn K cd27 "both_end_well" = true) (k27 : PySem.W.keepIn K (.ref f27) = true)
    (a28 : PySem.W.nsIn K mainGlobals "ends_well" = some (some (.ref f28)))
    (l28 : K.lookup f28 = some ⟨oc28, od28, .func (PySem.W.fnOf "ends_well" "ends_well" (defArgs sends_well) (defBody sends_well) (defScope sends_well) .none kV28 dc28 pm28 an28 cd28 ct28), sl28⟩) (c28 : PySem.W.codeIn K cd28 "ends_well" = true) (k28 : PySem.W.keepIn K (.ref f28) = true)
    (a29 : PySem.W.nsIn K mainGlobals "refutes" = some (some (.ref f29)))
    (l29 : K.lookup f29 = some ⟨oc29, od29, .func (PySem.W.fnOf "refutes" "refutes" (defArgs srefutes) (defBody srefutes) (defScope srefutes) .none kV29 dc29 pm29 an29 cd29 ct29), sl29⟩) (c29 : PySem.W.codeIn K cd29 "refutes" = true) (k29 : PySem.W.keepIn K (.ref f29) = true)
    (a30 : PySem.W.nsIn K mainGlobals "_law_value" = some (some (.ref f30)))
    (l30 : K.lookup f30 = some ⟨oc30, od30, .func (PySem.W.fnOf "_law_value" "_law_value" (defArgs sl_value) (defBody sl_value) (defScope sl_value) .none kV30 dc30 pm30 an30 cd30 ct30), sl30⟩) (c30 : PySem.W.codeIn K cd30 "_law_value" = true) (k30 : PySem.W.keepIn K (.ref f30) = true)
    (a31 : PySem.W.nsIn K mainGlobals "law" = some (some (.ref f31)))
    (l31 : K.lookup f31 = some ⟨oc31, od31, .func (PySem.W.fnOf "law" "law" (defArgs slaw) (defBody slaw) (defScope slaw) .none kV31 dc31 pm31 an31 cd31 ct31), sl31⟩) (c31 : PySem.W.codeIn K cd31 "law" = true) (k31 : PySem.W.keepIn K (.ref f31) = true)
    (a32 : PySem.W.findIn K (.ref Cs) "value" = some (some (.ref f32))) (i32 : PySem.W.isFn K (.ref f32) = true)
    (l32 : K.lookup f32 = some ⟨oc32, od32, .func (PySem.W.fnOf "value" "Sum.value" (defArgs svalueS) (defBody svalueS) (defScope svalueS) .none kV32 dc32 pm32 an32 cd32 ct32), sl32⟩) (c32 : PySem.W.codeIn K cd32 "Sum.value" = true) (k32 : PySem.W.keepIn K (.ref f32) = true)
    (a33 : PySem.W.findIn K (.ref Cc) "__init__" = some (some (.ref f33))) (i33 : PySem.W.isFn K (.ref f33) = true)
    (l33 : K.lookup f33 = some ⟨oc33, od33, .func (PySem.W.fnOf "__init__" "Compare.__init__" (defArgs scinit) (defBody scinit) (defScope scinit) .none kV33 dc33 pm33 an33 cd33 ct33), sl33⟩) (c33 : PySem.W.codeIn K cd33 "Compare.__init__" = true) (k33 : PySem.W.keepIn K (.ref f33) = true)
    (a34 : PySem.W.findIn K (.ref Db) "__init__" = some (some (.ref f34))) (i34 : PySem.W.isFn K (.ref f34) = true)
    (l34 : K.lookup f34 = some ⟨oc34, od34, .func (PySem.W.fnOf "__init__" "Debt.__init__" (defArgs sdbinit) (defBody sdbinit) (defScope sdbinit) .none kV34 dc34 pm34 an34 cd34 ct34), sl34⟩) (c34 : PySem.W.codeIn K cd34 "Debt.__init__" = true) (k34 : PySem.W.keepIn K (.ref f34) = true)
    (a35 : PySem.W.nsIn K mainGlobals "compares" = some (some (.ref f35)))
    (l35 : K.lookup f35 = some ⟨oc35, od35, .func (PySem.W.fnOf "compares" "compares" (defArgs scompares) (defBody scompares) (defScope scompares) .none kV35 dc35 pm35 an35 cd35 ct35), sl35⟩) (c35 : PySem.W.codeIn K cd35 "compares" = true) (k35 : PySem.W.keepIn K (.ref f35) = true)
    (a36 : PySem.W.nsIn K mainGlobals "refuse_too_many" = some (some (.ref f36)))
    (l36 : K.lookup f36 = some ⟨oc36, od36, .func (PySem.W.fnOf "refuse_too_many" "refuse_too_many" (defArgs srefuse_too_many) (defBody srefuse_too_many) (defScope srefuse_too_many) .none kV36 dc36 pm36 an36 cd36 ct36), sl36⟩) (c36 : PySem.W.codeIn K cd36 "refuse_too_many" = true) (k36 : PySem.W.keepIn K (.ref f36) = true)
    (a37 : PySem.W.nsIn K mainGlobals "less_one" = some (some (.ref f37)))
    (l37 : K.lookup f37 = some ⟨oc37, od37, .func (PySem.W.fnOf "less_one" "less_one" (defArgs sless_one) (defBody sless_one) (defScope sless_one) .none kV37 dc37 pm37 an37 cd37 ct37), sl37⟩) (c37 : PySem.W.codeIn K cd37 "less_one" = true) (k37 : PySem.W.keepIn K (.ref f37) = true)
    (a38 : PySem.W.nsIn K mainGlobals "cases_of_both" = some (some (.ref f38)))
    (l38 : K.lookup f38 = some ⟨oc38, od38, .func (PySem.W.fnOf "cases_of_both" "cases_of_both" (defArgs scases_of_both) (defBody scases_of_both) (defScope scases_of_both) .none kV38 dc38 pm38 an38 cd38 ct38), sl38⟩) (c38 : PySem.W.codeIn K cd38 "cases_of_both" = true) (k38 : PySem.W.keepIn K (.ref f38) = true)
    (a39 : PySem.W.nsIn K mainGlobals "once" = some (some (.ref f39)))
    (l39 : K.lookup f39 = some ⟨oc39, od39, .func (PySem.W.fnOf "once" "once" (defArgs sonce) (defBody sonce) (defScope sonce) .none kV39 dc39 pm39 an39 cd39 ct39), sl39⟩) (c39 : PySem.W.codeIn K cd39 "once" = true) (k39 : PySem.W.keepIn K (.ref f39) = true)
    (a40 : PySem.W.nsIn K mainGlobals "unknown" = some (some (.ref f40)))
    (l40 : K.lookup f40 = some ⟨oc40, od40, .func (PySem.W.fnOf "unknown" "unknown" (defArgs sunknown) (defBody sunknown) (defScope sunknown) .none kV40 dc40 pm40 an40 cd40 ct40), sl40⟩) (c40 : PySem.W.codeIn K cd40 "unknown" = true) (k40 : PySem.W.keepIn K (.ref f40) = true)
    (a41 : PySem.W.findIn K (.ref Cc) "holds" = some (some (.ref f41))) (i41 : PySem.W.isFn K (.ref f41) = true)
    (l41 : K.lookup f41 = some ⟨oc41, od41, .func (PySem.W.fnOf "holds" "Compare.holds" (defArgs scholds) (defBody scholds) (defScope scholds) .none kV41 dc41 pm41 an41 cd41 ct41), sl41⟩) (c41 : PySem.W.codeIn K cd41 "Compare.holds" = true) (k41 : PySem.W.keepIn K (.ref f41) = true)
    (a42 : PySem.W.findIn K (.ref Cc) "put_in" = some (some (.ref f42))) (i42 : PySem.W.isFn K (.ref f42) = true)
    (l42 : K.lookup f42 = some ⟨oc42, od42, .func (PySem.W.fnOf "put_in" "Compare.put_in" (defArgs scput_in) (defBody scput_in) (defScope scput_in) .none kV42 dc42 pm42 an42 cd42 ct42), sl42⟩) (c42 : PySem.W.codeIn K cd42 "Compare.put_in" = true) (k42 : PySem.W.keepIn K (.ref f42) = true)
    (a43 : PySem.W.findIn K (.ref Cc) "opposite" = some (some (.ref f43))) (i43 : PySem.W.isFn K (.ref f43) = true)
    (l43 : K.lookup f43 = some ⟨oc43, od43, .func (PySem.W.fnOf "opposite" "Compare.opposite" (defArgs scopposite) (defBody scopposite) (defScope scopposite) .none kV43 dc43 pm43 an43 cd43 ct43), sl43⟩) (c43 : PySem.W.codeIn K cd43 "Compare.opposite" = true) (k43 : PySem.W.keepIn K (.ref f43) = true)
    (a44 : PySem.W.findIn K (.ref Cc) "cases" = some (some (.ref f44))) (i44 : PySem.W.isFn K (.ref f44) = true)
    (l44 : K.lookup f44 = some ⟨oc44, od44, .func (PySem.W.fnOf "cases" "Compare.cases" (defArgs sccases) (defBody sccases) (defScope sccases) .none kV44 dc44 pm44 an44 cd44 ct44), sl44⟩) (c44 : PySem.W.codeIn K cd44 "Compare.cases" = true) (k44 : PySem.W.keepIn K (.ref f44) = true)
    (a45 : PySem.W.nsIn K mainGlobals "is_never_met" = some (some (.ref f45)))
    (l45 : K.lookup f45 = some ⟨oc45, od45, .func (PySem.W.fnOf "is_never_met" "is_never_met" (defArgs sis_never_met) (defBody sis_never_met) (defScope sis_never_met) .none kV45 dc45 pm45 an45 cd45 ct45), sl45⟩) (c45 : PySem.W.codeIn K cd45 "is_never_met" = true) (k45 : PySem.W.keepIn K (.ref f45) = true)
    (a46 : PySem.W.nsIn K mainGlobals "without_plain" = some (some (.ref f46)))
    (l46 : K.lookup f46 = some ⟨oc46, od46, .func (PySem.W.fnOf "without_plain" "without_plain" (defArgs swithout_plain) (defBody swithout_plain) (defScope swithout_plain) .none kV46 dc46 pm46 an46 cd46 ct46), sl46⟩) (c46 : PySem.W.codeIn K cd46 "without_plain" = true) (k46 : PySem.W.keepIn K (.ref f46) = true)
    (a47 : PySem.W.nsIn K mainGlobals "cases_with" = some (some (.ref f47)))
    (l47 : K.lookup f47 = some ⟨oc47, od47, .func (PySem.W.fnOf "cases_with" "cases_with" (defArgs scases_with) (defBody scases_with) (defScope scases_with) .none kV47 dc47 pm47 an47 cd47 ct47), sl47⟩) (c47 : PySem.W.codeIn K cd47 "cases_with" = true) (k47 : PySem.W.keepIn K (.ref f47) = true)
    (a48 : PySem.W.nsIn K mainGlobals "owed" = some (some (.ref f48)))
    (l48 : K.lookup f48 = some ⟨oc48, od48, .func (PySem.W.fnOf "owed" "owed" (defArgs sowed) (defBody sowed) (defScope sowed) .none kV48 dc48 pm48 an48 cd48 ct48), sl48⟩) (c48 : PySem.W.codeIn K cd48 "owed" = true) (k48 : PySem.W.keepIn K (.ref f48) = true)
    (a49 : PySem.W.nsIn K mainGlobals "along" = some (some (.ref f49)))
    (l49 : K.lookup f49 = some ⟨oc49, od49, .func (PySem.W.fnOf "along" "along" (defArgs salong) (defBody salong) (defScope salong) .none kV49 dc49 pm49 an49 cd49 ct49), sl49⟩) (c49 : PySem.W.codeIn K cd49 "along" = true) (k49 : PySem.W.keepIn K (.ref f49) = true)
    (a50 : PySem.W.nsIn K mainGlobals "_law_bound" = some (some (.ref f50)))
    (l50 : K.lookup f50 = some ⟨oc50, od50, .func (PySem.W.fnOf "_law_bound" "_law_bound" (defArgs sl_bound) (defBody sl_bound) (defScope sl_bound) .none kV50 dc50 pm50 an50 cd50 ct50), sl50⟩) (c50 : PySem.W.codeIn K cd50 "_law_bound" = true) (k50 : PySem.W.keepIn K (.ref f50) = true)
    (a51 : PySem.W.nsIn K mainGlobals "_law_weights" = some (some (.ref f51)))
    (l51 : K.lookup f51 = some ⟨oc51, od51, .func (PySem.W.fnOf "_law_weights" "_law_weights" (defArgs sl_weights) (defBody sl_weights) (defScope sl_weights) .none kV51 dc51 pm51 an51 cd51 ct51), sl51⟩) (c51 : PySem.W.codeIn K cd51 "_law_weights" = true) (k51 : PySem.W.keepIn K (.ref f51) = true)
    (a52 : PySem.W.nsIn K mainGlobals "_law_greatest" = some (some (.ref f52)))
    (l52 : K.lookup f52 = some ⟨oc52, od52, .func (PySem.W.fnOf "_law_greatest" "_law_greatest" (defArgs sl_greatest) (defBody sl_greatest) (defScope sl_greatest) .none kV52 dc52 pm52 an52 cd52 ct52), sl52⟩) (c52 : PySem.W.codeIn K cd52 "_law_greatest" = true) (k52 : PySem.W.keepIn K (.ref f52) = true)
    (a53 : PySem.W.nsIn K mainGlobals "_law_chain" = some (some (.ref f53)))
    (l53 : K.lookup f53 = some ⟨oc53, od53, .func (PySem.W.fnOf "_law_chain" "_law_chain" (defArgs sl_chain) (defBody sl_chain) (defScope sl_chain) .none kV53 dc53 pm53 an53 cd53 ct53), sl53⟩) (c53 : PySem.W.codeIn K cd53 "_law_chain" = true) (k53 : PySem.W.keepIn K (.ref f53) = true)
    (n_Cs_terms : PySem.W.findIn K (.ref Cs) "terms" = some none)
    (n_Cs_number : PySem.W.findIn K (.ref Cs) "number" = some none)
    (n_Cc_one : PySem.W.findIn K (.ref Cc) "one" = some none)
    (n_Cc_sign : PySem.W.findIn K (.ref Cc) "sign" = some none)
    (n_Cc_other : PySem.W.findIn K (.ref Cc) "other" = some none)
    (n_Db_kind : PySem.W.findIn K (.ref Db) "kind" = some none)
    (n_Db_at : PySem.W.findIn K (.ref Db) "at" = some none)
    (n_Db_ahead : PySem.W.findIn K (.ref Db) "ahead" = some none)
    (n_Db_condition : PySem.W.findIn K (.ref Db) "condition" = some none)
    (z_len : PySem.W.nsIn K mainGlobals "len" = some none)
    (z_sum : PySem.W.nsIn K mainGlobals "sum" = some none)
    (z_sorted : PySem.W.nsIn K mainGlobals "sorted" = some none)
    (z_list : PySem.W.nsIn K mainGlobals "list" = some none)
    (z_tuple : PySem.W.nsIn K mainGlobals "tuple" = some none)
    (z_isinstance : PySem.W.nsIn K mainGlobals "isinstance" = some none)
    (z_range : PySem.W.nsIn K mainGlobals "range" = some none)
    (z_abs : PySem.W.nsIn K mainGlobals "abs" = some none)
    (z_str : PySem.W.nsIn K mainGlobals "str" = some none)
    (z_int : PySem.W.nsIn K mainGlobals "int" = some none)
    (z_dict : PySem.W.nsIn K mainGlobals "dict" = some none)
    (z_all : PySem.W.nsIn K mainGlobals "all" = some none)
    (z_set : PySem.W.nsIn K mainGlobals "set" = some none)
    (z_enumerate : PySem.W.nsIn K mainGlobals "enumerate" = some none)
    (z_bool : PySem.W.nsIn K mainGlobals "bool" = some none)
    (z_any : PySem.W.nsIn K mainGlobals "any" = some none)
    (x_cg : PySem.W.specialIn K (.builtin "object.__class__") "__get__" = some (some (.builtin "getset_descriptor.__get__")))
    (x_ct : PySem.W.takesIn K (.builtin "object.__class__") = some true)
    (x_ca : PySem.W.findIn K (.ref Cs) "__class__" = some (some (.builtin "object.__class__")))
    (x_cm : PySem.W.mroIn K Cs (.type "object") = some true)
    (x_ib : PySem.W.kitOne K (.type "int") (.type "bool") = some false)
    (x_tl : PySem.W.kitOne K (.type "tuple") (.type "list") = some false)
    (x_ms : PySem.W.nsIn K mainGlobals "MOST_SPLITS" = some (some (.int 20 tM)))
    (x_mc : PySem.W.nsIn K mainGlobals "MOST_CASES" = some (some (.int 64 tC)))
    (x_od : PySem.W.nsIn K mainGlobals "OPPOSITE_SIGNS" = some (some (.ref OD)))
    (x_ol : K.lookup OD = some ⟨.type "dict", none, .dict #[⟨PyData.keyHash w.params "<", .str "<" t1, .str ">=" u1⟩, ⟨PyData.keyHash w.params ">=", .str ">=" t2, .str "<" u2⟩, ⟨PyData.keyHash w.params "<=", .str "<=" t3, .str ">" u3⟩, ⟨PyData.keyHash w.params ">", .str ">" t4, .str "<=" u4⟩, ⟨PyData.keyHash w.params "=", .str "=" t5, .str "!=" u5⟩, ⟨PyData.keyHash w.params "!=", .str "!=" t6, .str "=" u6⟩] oe, #[]⟩)
    : ∃ fd : FuncData, (∀ (s : Shared) (v : Value), BindsTo s fd ⟨[v], []⟩ [("_law_script", v)]) ∧ ∀ base : Heap, K.In base → base.Ns mainGlobals mg → FnOk l.prog w K mg base CX0 40 fa fd ["_law_script"] (spLaw K) := by
  have e := hfa.symm.trans (PySem.W.mg_of X G a31)
  cases e
  let Z : Cz := (⟨Cs, Cc, Cs, Cs, Cs⟩ : Cz)
  have T : Txt K mg Z.s := ⟨⟨pg_Cs, hd_Cs, po_Cs, sa_Cs⟩, n_Cs_terms, n_Cs_number, PySem.W.mg_of X G g_Cs, PySem.W.mg_none_of X G z_len, PySem.W.mg_none_of X G z_sum, PySem.W.mg_none_of X G z_sorted, PySem.W.mg_none_of X G z_list, PySem.W.mg_none_of X G z_tuple, PySem.W.mg_none_of X G z_isinstance, PySem.W.mg_none_of X G z_range, PySem.W.mg_none_of X G z_abs, PySem.W.mg_none_of X G z_str, PySem.W.mg_none_of X G z_int, PySem.W.mg_none_of X G z_dict, x_ca, x_cg, x_ct, x_cm, kit_ref K Cs, kit_tup K⟩
  have J : TxP K mg := ⟨PySem.W.mg_none_of X G z_all, PySem.W.mg_none_of X G z_set, PySem.W.mg_none_of X G z_enumerate, PySem.W.mg_none_of X G z_bool, x_ib, x_tl, ⟨_, PySem.W.mg_of X G x_ms⟩⟩
  have naD : ∀ x ∈ (["kind", "at", "ahead", "condition"] : List Str), NoAttr K Db x := by
    intro x hx
    rcases List.mem_cons.mp hx with e | hx
    · rw [e]; exact n_Db_kind
    rcases List.mem_cons.mp hx with e | hx
    · rw [e]; exact n_Db_at
    rcases List.mem_cons.mp hx with e | hx
    · rw [e]; exact n_Db_ahead
    rcases List.mem_cons.mp hx with e | hx
    · rw [e]; exact n_Db_condition
    exact absurd hx List.not_mem_nil
  have U : Tx4 K mg Z Db := ⟨⟨pg_Cc, hd_Cc, po_Cc, sa_Cc⟩, n_Cc_one, n_Cc_sign, n_Cc_other, PySem.W.mg_of X G g_Cc, ⟨pg_Db, hd_Db, po_Db, sa_Db⟩, naD, PySem.W.mg_of X G g_Db, PySem.W.mg_none_of X G z_any⟩
  have D_oppd : OppD l.prog w K mg := oppD_mk (PySem.W.mg_of X G x_od) x_ol
  have D_most : ∃ t, mg "MOST_CASES" = some (.int 64 t) := ⟨tC, PySem.W.mg_of X G x_mc⟩
  have F1 := fun_mk (st := sInit) l1 c1 k1
  have b1 := F1.binds (ps := ["self", "terms", "number"]) fun _ _ _ _ _ _ us hl => zzu3 us hl fun _ _ _ => rfl
  have F2 := fun_mk (st := sPlus) l2 c2 k2
  have b2 := F2.binds (ps := ["self", "other"]) fun _ _ _ _ _ _ us hl => zzu2 us hl fun _ _ => rfl
  have F3 := fun_mk (st := sLess) l3 c3 k3
  have b3 := F3.binds (ps := ["self", "other"]) fun _ _ _ _ _ _ us hl => zzu2 us hl fun _ _ => rfl
  have F4 := fun_mk (st := sTimes) l4 c4 k4
  have b4 := F4.binds (ps := ["self", "number"]) fun _ _ _ _ _ _ us hl => zzu2 us hl fun _ _ => rfl
  have F5 := fun_mk (st := sSumOf) l5 c5 k5
  have b5 := F5.binds (ps := ["pairs", "number"]) fun _ _ _ _ _ _ us hl => zzu2 us hl fun _ _ => rfl
  have F6 := fun_mk (st := sMixed) l6 c6 k6
  have b6 := F6.binds (ps := ["_law_cell", "_law_k"]) fun _ _ _ _ _ _ us hl => zzu2 us hl fun _ _ => rfl
  have F7 := fun_mk (st := sCellAt) l7 c7 k7
  have b7 := F7.binds (ps := ["_law_script", "_law_k"]) fun _ _ _ _ _ _ us hl => zzu2 us hl fun _ _ => rfl
  have F8 := fun_mk (st := sNext) l8 c8 k8
  have b8 := F8.binds (ps := ["_law_draw", "_law_size"]) fun _ _ _ _ _ _ us hl => zzu2 us hl fun _ _ => rfl
  have F9 := fun_mk (st := sPutIn) l9 c9 k9
  have b9 := F9.binds (ps := ["self", "sums"]) fun _ _ _ _ _ _ us hl => zzu2 us hl fun _ _ => rfl
  have F10 := fun_mk (st := sKept) l10 c10 k10
  have b10 := F10.binds (ps := []) fun _ _ _ _ _ _ us hl => zzu0 us hl rfl
  have F11 := fun_mk (st := sNames) l11 c11 k11
  have b11 := F11.binds (ps := ["_law_draw", "_law_many"]) fun _ _ _ _ _ _ us hl => zzu2 us hl fun _ _ => rfl
  have F12 := fun_mk (st := sis_several) l12 c12 k12
  have b12 := F12.binds (ps := ["what"]) fun _ _ _ _ _ _ us hl => zzu1 us hl fun _ => rfl
  have F13 := fun_mk (st := sis_number) l13 c13 k13
  have b13 := F13.binds (ps := ["what"]) fun _ _ _ _ _ _ us hl => zzu1 us hl fun _ => rfl
  have F14 := fun_mk (st := sis_from_one) l14 c14 k14
  have b14 := F14.binds (ps := ["what"]) fun _ _ _ _ _ _ us hl => zzu1 us hl fun _ => rfl
  have F15 := fun_mk (st := sis_ahead) l15 c15 k15
  have b15 := F15.binds (ps := ["lines", "what"]) fun _ _ _ _ _ _ us hl => zzu2 us hl fun _ _ => rfl
  have F16 := fun_mk (st := sis_weighed) l16 c16 k16
  have b16 := F16.binds (ps := ["lines", "pair"]) fun _ _ _ _ _ _ us hl => zzu2 us hl fun _ _ => rfl
  have F17 := fun_mk (st := scan_be_divided) l17 c17 k17
  have b17 := F17.binds (ps := ["total", "divisor"]) fun _ _ _ _ _ _ us hl => zzu2 us hl fun _ _ => rfl
  have F18 := fun_mk (st := sis_term) l18 c18 k18
  have b18 := F18.binds (ps := ["pair"]) fun _ _ _ _ _ _ us hl => zzu1 us hl fun _ => rfl
  have F19 := fun_mk (st := sis_sum) l19 c19 k19
  have b19 := F19.binds (ps := ["what"]) fun _ _ _ _ _ _ us hl => zzu1 us hl fun _ => rfl
  have F20 := fun_mk (st := sis_never) l20 c20 k20
  have b20 := F20.binds (ps := ["total"]) fun _ _ _ _ _ _ us hl => zzu1 us hl fun _ => rfl
  have F21 := fun_mk (st := sis_split) l21 c21 k21
  have b21 := F21.binds (ps := ["line"]) fun _ _ _ _ _ _ us hl => zzu1 us hl fun _ => rfl
  have F22 := fun_mk (st := sis_right) l22 c22 k22
  have b22 := F22.binds (ps := ["lines", "line"]) fun _ _ _ _ _ _ us hl => zzu2 us hl fun _ _ => rfl
  have F23 := fun_mk (st := sturned_terms) l23 c23 k23
  have b23 := F23.binds (ps := ["terms"]) fun _ _ _ _ _ _ us hl => zzu1 us hl fun _ => rfl
  have F24 := fun_mk (st := sother_side) l24 c24 k24
  have b24 := F24.binds (ps := ["total"]) fun _ _ _ _ _ _ us hl => zzu1 us hl fun _ => rfl
  have F25 := fun_mk (st := sdivided) l25 c25 k25
  have b25 := F25.binds (ps := ["total", "divisor"]) fun _ _ _ _ _ _ us hl => zzu2 us hl fun _ _ => rfl
  have F26 := fun_mk (st := sline_of) l26 c26 k26
  have b26 := F26.binds (ps := ["lines", "line"]) fun _ _ _ _ _ _ us hl => zzu2 us hl fun _ _ => rfl
  have F27 := fun_mk (st := sboth_end_well) l27 c27 k27
  have b27 := F27.binds (ps := ["lines", "line", "splits"]) fun _ _ _ _ _ _ us hl => zzu3 us hl fun _ _ _ => rfl
  have F28 := fun_mk (st := sends_well) l28 c28 k28
  have b28 := F28.binds (ps := ["lines", "paper", "splits"]) fun _ _ _ _ _ _ us hl => zzu3 us hl fun _ _ _ => rfl
  have F29 := fun_mk (st := srefutes) l29 c29 k29
  have b29 := F29.binds (ps := ["case", "paper"]) fun _ _ _ _ _ _ us hl => zzu2 us hl fun _ _ => rfl
  have F30 := fun_mk (st := sl_value) l30 c30 k30
  have b30 := F30.binds (ps := ["_law_total", "_law_numbers"]) fun _ _ _ _ _ _ us hl => zzu2 us hl fun _ _ => rfl
  have F31 := fun_mk (st := slaw) l31 c31 k31
  have F32 := fun_mk (st := svalueS) l32 c32 k32
  have b32 := F32.binds (ps := ["self", "numbers"]) fun _ _ _ _ _ _ us hl => zzu2 us hl fun _ _ => rfl
  have F33 := fun_mk (st := scinit) l33 c33 k33
  have b33 := F33.binds (ps := ["self", "one", "sign", "other"]) fun _ _ _ _ _ _ us hl => zzu4 us hl fun _ _ _ _ => rfl
  have F34 := fun_mk (st := sdbinit) l34 c34 k34
  have b34 := F34.binds (ps := ["self", "kind", "at", "ahead", "condition"]) fun _ _ _ _ _ _ us hl => zzu5 us hl fun _ _ _ _ _ => rfl
  have F35 := fun_mk (st := scompares) l35 c35 k35
  have b35 := F35.binds (ps := ["one", "sign", "other"]) fun _ _ _ _ _ _ us hl => zzu3 us hl fun _ _ _ => rfl
  have F36 := fun_mk (st := srefuse_too_many) l36 c36 k36
  have b36 := F36.binds (ps := ["count"]) fun _ _ _ _ _ _ us hl => zzu1 us hl fun _ => rfl
  have F37 := fun_mk (st := sless_one) l37 c37 k37
  have b37 := F37.binds (ps := ["total"]) fun _ _ _ _ _ _ us hl => zzu1 us hl fun _ => rfl
  have F38 := fun_mk (st := scases_of_both) l38 c38 k38
  have b38 := F38.binds (ps := ["ones", "others"]) fun _ _ _ _ _ _ us hl => zzu2 us hl fun _ _ => rfl
  have F39 := fun_mk (st := sonce) l39 c39 k39
  have b39 := F39.binds (ps := ["thing"]) fun _ _ _ _ _ _ us hl => zzu1 us hl fun _ => rfl
  have F40 := fun_mk (st := sunknown) l40 c40 k40
  have b40 := F40.binds (ps := ["place"]) fun _ _ _ _ _ _ us hl => zzu1 us hl fun _ => rfl
  have F41 := fun_mk (st := scholds) l41 c41 k41
  have b41 := F41.binds (ps := ["self", "numbers"]) fun _ _ _ _ _ _ us hl => zzu2 us hl fun _ _ => rfl
  have F42 := fun_mk (st := scput_in) l42 c42 k42
  have b42 := F42.binds (ps := ["self", "sums"]) fun _ _ _ _ _ _ us hl => zzu2 us hl fun _ _ => rfl
  have F43 := fun_mk (st := scopposite) l43 c43 k43
  have b43 := F43.binds (ps := ["self"]) fun _ _ _ _ _ _ us hl => zzu1 us hl fun _ => rfl
  have F44 := fun_mk (st := sccases) l44 c44 k44
  have b44 := F44.binds (ps := ["self"]) fun _ _ _ _ _ _ us hl => zzu1 us hl fun _ => rfl
  have F45 := fun_mk (st := sis_never_met) l45 c45 k45
  have b45 := F45.binds (ps := ["case"]) fun _ _ _ _ _ _ us hl => zzu1 us hl fun _ => rfl
  have F46 := fun_mk (st := swithout_plain) l46 c46 k46
  have b46 := F46.binds (ps := ["case"]) fun _ _ _ _ _ _ us hl => zzu1 us hl fun _ => rfl
  have F47 := fun_mk (st := scases_with) l47 c47 k47
  have b47 := F47.binds (ps := ["cases", "condition"]) fun _ _ _ _ _ _ us hl => zzu2 us hl fun _ _ => rfl
  have F48 := fun_mk (st := sowed) l48 c48 k48
  have b48 := F48.binds (ps := ["debt"]) fun _ _ _ _ _ _ us hl => zzu1 us hl fun _ => rfl
  have F49 := fun_mk (st := salong) l49 c49 k49
  have b49 := F49.binds (ps := ["ahead", "numbers"]) fun _ _ _ _ _ _ us hl => zzu2 us hl fun _ _ => rfl
  have F50 := fun_mk (st := sl_bound) l50 c50 k50
  have b50 := F50.binds (ps := ["_law_steps"]) fun _ _ _ _ _ _ us hl => zzu1 us hl fun _ => rfl
  have F51 := fun_mk (st := sl_weights) l51 c51 k51
  have b51 := F51.binds (ps := ["_law_steps"]) fun _ _ _ _ _ _ us hl => zzu1 us hl fun _ => rfl
  have F52 := fun_mk (st := sl_greatest) l52 c52 k52
  have b52 := F52.binds (ps := ["_law_first", "_law_steps"]) fun _ _ _ _ _ _ us hl => zzu2 us hl fun _ _ => rfl
  have F53 := fun_mk (st := sl_chain) l53 c53 k53
  have b53 := F53.binds (ps := ["_law_draw", "_law_names_here"]) fun _ _ _ _ _ _ us hl => zzu2 us hl fun _ _ => rfl
  refine ⟨PySem.W.fnOf "law" "law" (defArgs slaw) (defBody slaw) (defScope slaw) .none kV31 dc31 pm31 an31 cd31 ct31, fun s v => .of_eq rfl, fun base _ _ => ?_⟩
  have D_init : Mr l.prog w K mg base 1 Z.s ["self", "terms", "number"] (spInit Z.s) := ⟨f1, _, ok_init F1 T , ⟨mk_Cs, a1, i1, kc_Cs⟩, b1⟩
  have D_sum_of : Dn l.prog w K mg base 3 "sum_of" ["pairs", "number"] (spSumOf Z.s) := ⟨f5, _, ok_sum_of F5 T D_init, PySem.W.mg_of X G a5, k5, b5⟩
  have D_plus : Mt l.prog w K mg base 4 Z.s "plus" ["self", "other"] (spPlus Z.s) := ⟨f2, _, ok_plus F2 T D_sum_of, ⟨a2, i2, k2⟩, b2⟩
  have D_times : Mt l.prog w K mg base 4 Z.s "times" ["self", "number"] (spTimes Z.s) := ⟨f4, _, ok_times F4 T D_sum_of, ⟨a4, i4, k4⟩, b4⟩
  have D_less : Mt l.prog w K mg base 5 Z.s "less" ["self", "other"] (spLess Z.s) := ⟨f3, _, ok_less F3 T D_plus D_times, ⟨a3, i3, k3⟩, b3⟩
  have D_l_mixed : Dn l.prog w K mg base 1 "_law_mixed" ["_law_cell", "_law_k"] spMixed := ⟨f6, _, ok_mixed F6 T , PySem.W.mg_of X G a6, k6, b6⟩
  have D_l_cell_at : Dn l.prog w K mg base 2 "_law_cell_at" ["_law_script", "_law_k"] (spCell K) := ⟨f7, _, ok_cell_at F7 T D_l_mixed, PySem.W.mg_of X G a7, k7, b7⟩
  have D_l_next : Dn l.prog w K mg base 2 "_law_next" ["_law_draw", "_law_size"] spNext := ⟨f8, _, ok_next F8 T D_l_mixed, PySem.W.mg_of X G a8, k8, b8⟩
  have D_l_kept : Dn l.prog w K mg base 1 "_law_kept" [] spKept := ⟨f10, _, ok_kept F10 T , PySem.W.mg_of X G a10, k10, b10⟩
  have D_l_names : Dn l.prog w K mg base 3 "_law_names" ["_law_draw", "_law_many"] spNamesC := ⟨f11, _, ok_names F11 T D_l_next D_l_kept, PySem.W.mg_of X G a11, k11, b11⟩
  have D_put_in : Mt l.prog w K mg base 5 Z.s "put_in" ["self", "sums"] (spPutIn Z.s) := ⟨f9, _, ok_put_in F9 T D_times D_sum_of, ⟨a9, i9, k9⟩, b9⟩
  have D_is_several : Dn l.prog w K mg base 1 "is_several" ["what"] spSev := ⟨f12, _, ok_is_several (n := 0) F12 T J , PySem.W.mg_of X G a12, k12, b12⟩
  have D_is_number : Dn l.prog w K mg base 1 "is_number" ["what"] spIsNum := ⟨f13, _, ok_is_number (n := 0) F13 T J , PySem.W.mg_of X G a13, k13, b13⟩
  have D_is_from_one : Dn l.prog w K mg base 2 "is_from_one" ["what"] spFrom1 := ⟨f14, _, ok_is_from_one (n := 0) F14 T J D_is_number, PySem.W.mg_of X G a14, k14, b14⟩
  have D_is_ahead : Dn l.prog w K mg base 2 "is_ahead" ["lines", "what"] spAhd := ⟨f15, _, ok_is_ahead (n := 0) F15 T J D_is_number, PySem.W.mg_of X G a15, k15, b15⟩
  have D_is_weighed : Dn l.prog w K mg base 3 "is_weighed" ["lines", "pair"] spWeighed := ⟨f16, _, ok_is_weighed (n := 0) F16 T J D_is_several D_is_from_one D_is_ahead, PySem.W.mg_of X G a16, k16, b16⟩
  have D_can_be_divided : Dn l.prog w K mg base 1 "can_be_divided" ["total", "divisor"] (spCanDiv Z.s) := ⟨f17, _, ok_can_be_divided (n := 0) F17 T J , PySem.W.mg_of X G a17, k17, b17⟩
  have D_is_term : Dn l.prog w K mg base 2 "is_term" ["pair"] spIsTerm := ⟨f18, _, ok_is_term (n := 0) F18 T J D_is_number, PySem.W.mg_of X G a18, k18, b18⟩
  have D_is_sum : Dn l.prog w K mg base 3 "is_sum" ["what"] (spIsSum Z.s) := ⟨f19, _, ok_is_sum (n := 0) F19 T J D_is_number D_is_term, PySem.W.mg_of X G a19, k19, b19⟩
  have D_is_never : Dn l.prog w K mg base 1 "is_never" ["total"] (spNever Z.s) := ⟨f20, _, ok_is_never (n := 0) F20 T J , PySem.W.mg_of X G a20, k20, b20⟩
  have D_is_split : Dn l.prog w K mg base 4 "is_split" ["line"] (spIsSplit Z.s) := ⟨f21, _, ok_is_split (n := 0) F21 T J D_is_several D_is_sum, PySem.W.mg_of X G a21, k21, b21⟩
  have D_is_right : Dn l.prog w K mg base 5 "is_right" ["lines", "line"] (spIsRight Z.s) := ⟨f22, _, ok_is_right (n := 0) F22 T J D_is_several D_is_weighed D_is_ahead D_is_from_one D_can_be_divided, PySem.W.mg_of X G a22, k22, b22⟩
  have D_turned_terms : Dn l.prog w K mg base 1 "turned_terms" ["terms"] spTurnT := ⟨f23, _, ok_turned_terms (n := 0) F23 T J , PySem.W.mg_of X G a23, k23, b23⟩
  have D_other_side : Dn l.prog w K mg base 3 "other_side" ["total"] (spOther Z.s) := ⟨f24, _, ok_other_side (n := 0) F24 T J D_init D_turned_terms, PySem.W.mg_of X G a24, k24, b24⟩
  have D_divided : Dn l.prog w K mg base 3 "divided" ["total", "divisor"] (spDivided Z.s) := ⟨f25, _, ok_divided (n := 0) F25 T J D_init, PySem.W.mg_of X G a25, k25, b25⟩
  have D_line_of : Dn l.prog w K mg base 4 "line_of" ["lines", "line"] (spLineOf Z.s) := ⟨f26, _, ok_line_of (n := 0) F26 T J D_sum_of D_divided, PySem.W.mg_of X G a26, k26, b26⟩
  have AL_ew := dn_rec (P := l.prog) (w := w) (base := base) (lv := fun n => 14 * n + 5) (sp := fun n => spEW Z.s n) (PySem.W.mg_of X G a28) k28 b28 (ew0 Z.s) fun n R => by
    have D_both_end_well : Dn l.prog w K mg base (14 * n + 6) "both_end_well" ["lines", "line", "splits"] (spBoth2 Z.s n) := ⟨f27, _, ok_both_end_well (n := n) F27 T J D_other_side R, PySem.W.mg_of X G a27, k27, b27⟩
    exact (show (14 * n + 19) = 14 * (n + 1) + 5 by omega) ▸ (ok_ends_well (n := n) F28 T J D_is_several D_is_split D_both_end_well D_is_right D_line_of D_is_never)
  have D_ends_well2 := AL_ew 2
  have D_refutes : Dn l.prog w K mg base 36 "refutes" ["case", "paper"] (spRefutes Z.s) := ⟨f29, _, ok_refutes (n := 0) F29 T J D_is_several D_is_sum D_ends_well2, PySem.W.mg_of X G a29, k29, b29⟩
  have D_l_value : Dn l.prog w K mg base 1 "_law_value" ["_law_total", "_law_numbers"] (spLValC Z.s) := ⟨f30, _, ok_l_value (n := 0) F30 (Z := Z) (Db := Db) T J U , PySem.W.mg_of X G a30, k30, b30⟩
  have D_valueS : Mt l.prog w K mg base 1 Z.s "value" ["self", "numbers"] (spValueS Z.s) := ⟨f32, _, ok_valueS (n := 0) F32 (Z := Z) (Db := Db) T J U , ⟨a32, i32, k32⟩, b32⟩
  have D_cinit : Mr l.prog w K mg base 1 Z.c ["self", "one", "sign", "other"] (spCInit Z) := ⟨f33, _, ok_cinit (n := 0) F33 (Z := Z) (Db := Db) T J U , ⟨mk_Cc, a33, i33, kc_Cc⟩, b33⟩
  have D_dbinit : Mr l.prog w K mg base 1 Db ["self", "kind", "at", "ahead", "condition"] (spDbt Db) := ⟨f34, _, ok_dbinit (n := 0) F34 (Z := Z) (Db := Db) T J U , ⟨mk_Db, a34, i34, kc_Db⟩, b34⟩
  have D_compares : Dn l.prog w K mg base 1 "compares" ["one", "sign", "other"] spCompares := ⟨f35, _, ok_compares (n := 0) F35 (Z := Z) (Db := Db) T J U , PySem.W.mg_of X G a35, k35, b35⟩
  have D_refuse_too_many : Dn l.prog w K mg base 1 "refuse_too_many" ["count"] spRefuse := ⟨f36, _, ok_refuse_too_many (n := 0) F36 (Z := Z) (Db := Db) T J U D_most, PySem.W.mg_of X G a36, k36, b36⟩
  have D_less_one : Dn l.prog w K mg base 6 "less_one" ["total"] (spLessOne Z.s) := ⟨f37, _, ok_less_one (n := 0) F37 (Z := Z) (Db := Db) T J U D_init D_less, PySem.W.mg_of X G a37, k37, b37⟩
  have D_cases_of_both : Dn l.prog w K mg base 2 "cases_of_both" ["ones", "others"] (spBoth Z) := ⟨f38, _, ok_cases_of_both (n := 0) F38 (Z := Z) (Db := Db) T J U D_refuse_too_many, PySem.W.mg_of X G a38, k38, b38⟩
  have D_once : Dn l.prog w K mg base 3 "once" ["thing"] (spOnce Z.s) := ⟨f39, _, ok_once (n := 0) F39 (Z := Z) (Db := Db) T J U D_init, PySem.W.mg_of X G a39, k39, b39⟩
  have D_unknown : Dn l.prog w K mg base 1 "unknown" ["place"] spUnk := ⟨f40, _, ok_unknown (n := 0) F40 (Z := Z) (Db := Db) T J U , PySem.W.mg_of X G a40, k40, b40⟩
  have D_cholds : Mt l.prog w K mg base 2 Z.c "holds" ["self", "numbers"] (spCH Z) := ⟨f41, _, ok_cholds (n := 0) F41 (Z := Z) (Db := Db) T J U D_valueS D_compares, ⟨a41, i41, k41⟩, b41⟩
  have D_cput_in : Mt l.prog w K mg base 6 Z.c "put_in" ["self", "sums"] (spCPI Z) := ⟨f42, _, ok_cput_in (n := 0) F42 (Z := Z) (Db := Db) T J U D_put_in D_cinit, ⟨a42, i42, k42⟩, b42⟩
  have D_copposite : Mt l.prog w K mg base 3 Z.c "opposite" ["self"] (spCOp Z) := ⟨f43, _, ok_copposite (n := 0) F43 (Z := Z) (Db := Db) T J U D_cinit D_oppd, ⟨a43, i43, k43⟩, b43⟩
  have D_ccases : Mt l.prog w K mg base 7 Z.c "cases" ["self"] (spCCs Z) := ⟨f44, _, ok_ccases (n := 0) F44 (Z := Z) (Db := Db) T J U D_less D_less_one, ⟨a44, i44, k44⟩, b44⟩
  have D_is_never_met : Dn l.prog w K mg base 2 "is_never_met" ["case"] (spNeverMet Z.s) := ⟨f45, _, ok_is_never_met (n := 0) F45 (Z := Z) (Db := Db) T J U D_is_never, PySem.W.mg_of X G a45, k45, b45⟩
  have D_without_plain : Dn l.prog w K mg base 1 "without_plain" ["case"] (spWithout Z.s) := ⟨f46, _, ok_without_plain (n := 0) F46 (Z := Z) (Db := Db) T J U , PySem.W.mg_of X G a46, k46, b46⟩
  have D_l_bound : Dn l.prog w K mg base 1 "_law_bound" ["_law_steps"] spBnd := ⟨f50, _, ok_l_bound (n := 0) F50 (Z := Z) (Db := Db) T J U , PySem.W.mg_of X G a50, k50, b50⟩
  have D_l_weights : Dn l.prog w K mg base 1 "_law_weights" ["_law_steps"] spWts := ⟨f51, _, ok_l_weights (n := 0) F51 (Z := Z) (Db := Db) T J U , PySem.W.mg_of X G a51, k51, b51⟩
  have D_l_greatest : Dn l.prog w K mg base 1 "_law_greatest" ["_law_first", "_law_steps"] spGrt := ⟨f52, _, ok_l_greatest (n := 0) F52 (Z := Z) (Db := Db) T J U , PySem.W.mg_of X G a52, k52, b52⟩
  have D_l_chain : Dn l.prog w K mg base 3 "_law_chain" ["_law_draw", "_law_names_here"] (spChain Z) := ⟨f53, _, ok_l_chain (n := 0) F53 (Z := Z) (Db := Db) T J U D_l_next D_init D_cinit, PySem.W.mg_of X G a53, k53, b53⟩
  have D_cases_with : Dn l.prog w K mg base 8 "cases_with" ["cases", "condition"] (spCasesWith Z) := ⟨f47, _, ok_cases_with (n := 0) F47 (Z := Z) (Db := Db) T J U D_ccases D_is_never_met D_without_plain D_cases_of_both, PySem.W.mg_of X G a47, k47, b47⟩
  have D_along : Dn l.prog w K mg base 3 "along" ["ahead", "numbers"] (spAlongC Z) := ⟨f49, _, ok_along (n := 0) F49 (Z := Z) (Db := Db) T J U D_valueS D_cholds, PySem.W.mg_of X G a49, k49, b49⟩
  have D_owed : Dn l.prog w K mg base 9 "owed" ["debt"] (spOwed Z Db) := ⟨f48, _, ok_owed (n := 0) F48 (Z := Z) (Db := Db) T J U D_once D_unknown D_put_in D_cput_in D_cases_with D_copposite, PySem.W.mg_of X G a48, k48, b48⟩
  exact ok_law (n := 0) F31 (Z := Z) (Db := Db) T J U D_l_cell_at D_l_next D_l_names D_l_chain D_l_bound D_init D_cinit D_dbinit D_owed D_l_weights D_refutes D_l_greatest D_along D_cholds D_l_value
theorem walk {l : PySem.W.OpenLaw} {q : Program} {loose : List Str} {XP : (Str → Option Value) → Heap → Prop} {YP : World → Heap → Prop} {d : DefRec} {K : Params → PySem.W.Frag} (hn : l.most = some 63) (hdf : d.params.defaults = [])
    (hY : ∀ (w : World) (h : Heap), YP w h → (K w.params).In h)
    (F : ∀ (w : World) (mg : Str → Option Value) (fa : Addr) (h : Heap), (K w.params).In h → h.Ns mainGlobals mg → mg d.name = some (.ref fa) →
      ∃ fd : FuncData, (∀ (s : Shared) (u : Value), BindsTo s fd ⟨[u], []⟩ [("_law_script", u)]) ∧ ∀ base : Heap, (K w.params).In base → base.Ns mainGlobals mg → FnOk l.prog w (K w.params) mg base CX0 40 fa fd ["_law_script"] (spLaw (K w.params))) :
    PySem.W.WalkO q loose XP YP l.row.toRowW d [] (fun f vs => PySem.call f vs) :=
  L2.walk_of (n := 63) (k := 40) (x := "_law_script") (CX := fun _ => CX0) (sp := fun w => spLaw (K w.params)) hn (by decide) hdf ⟨rfl, by decide, by decide⟩ hY F (fun _ _ a ns hl _ hS => ⟨a, ns, rfl, hS, hl, fun _ => rfl⟩) fun _ _ _ _ _ z => z
end Hw
open PySem PySem.W PyProof.Rows
def PySem.W.Fast.tw15114910155285193725 : Nat := 0
def PySem.W.Fast.tw8070392062286378180 : Nat := 0
def PySem.W.Fast.tw6373674073952253608 : Nat := 0
def PySem.W.Fast.tw125415534740647530 : Nat := 0
def PySem.W.Fast.tw7779138037011875177 : Nat := 0
def PySem.W.Fast.tw1441610138959541690 : Nat := 0
def PySem.W.Fast.tw8497070613986328018 : Nat := 0
def PySem.W.Fast.tw7959378734716231916 : Nat := 0
def PySem.W.Fast.tw13302471589548655425 : Nat := 0
def PySem.W.Fast.tw2664471355338937962 : Nat := 0
def PySem.W.Fast.tw13693617095871506963 : Nat := 0
def PySem.W.Fast.tw12579962786316263303 : Nat := 0
def PySem.W.Fast.tw12135865155856066750 : Nat := 0
def PySem.W.Fast.tw5682614638308130338 : Nat := 0
def PySem.W.Fast.tw4087653330032204229 : Nat := 0
def PySem.W.Fast.tw1740564649314904306 : Nat := 0
def PySem.W.Fast.tw17698183655613857104 : Nat := 0
def PySem.W.Fast.tw3523099343473565484 : Nat := 0
def PySem.W.Fast.tw2169007306952120113 : Nat := 0
def PySem.W.Fast.tw7073017231899943806 : Nat := 0
def PySem.W.Fast.tw12682492647208515805 : Nat := 0
def PySem.W.Fast.tw6480170631390893764 : Nat := 0
def PySem.W.Fast.tw18250426233897195050 : Nat := 0
def PySem.W.Fast.tw1438500824737698563 : Nat := 0
def PySem.W.Fast.tw7795560521186025384 : Nat := 0
def PySem.W.Fast.tw10139515831952078030 : Nat := 0
def PySem.W.Fast.tw17497419544419145409 : Nat := 0
def PySem.W.Fast.tw4016162656737392868 : Nat := 0
def PySem.W.Fast.tw14241182795806447714 : Nat := 0
def PySem.W.Fast.tw10918719199827891326 : Nat := 0
def PySem.W.Fast.tw16587502259997139045 : Nat := 0
def PySem.W.Fast.tw10121384377478546112 : Nat := 0
def PySem.W.Fast.tw15774482467539515552 : Nat := 0
def PySem.W.Fast.tw1070006690744236356 : Nat := 0
def PySem.W.Fast.tw3674576298288476511 : Nat := 0
def PySem.W.Fast.tw18086629597270404123 : Nat := 0
def PySem.W.Fast.tw15024012601738893771 : Nat := 0
def PySem.W.Fast.tw4923777998406173645 : Nat := 0
def PySem.W.Fast.tw1665414566876172108 : Nat := 0
def PySem.W.Fast.tw9290841909611693847 : Nat := 0
set_option maxRecDepth 100000 in
set_option maxHeartbeats 0 in
theorem PySem.Challenge.cw_holdwright_k41_whole_shown_holds : PySem.Challenge.rw_holdwright_k41_whole_shown.Holds := by
  w_on; o_law; k_head; (case hw => w_witness2)
  k_fill
  refine Hw.walk (l := PySem.Challenge.rw_holdwright_k41_whole_shown) rfl rfl (fun w h Y => PySem.W.kIn_of Y) ?F
  case F =>
    intro w mg fa h KX G hmg
    refine' Hw.all_mk KX G hmg ?g_Cs ?pg_Cs ?hd_Cs ?po_Cs ?sa_Cs ?mk_Cs ?kc_Cs ?g_Cc ?pg_Cc ?hd_Cc ?po_Cc ?sa_Cc ?mk_Cc ?kc_Cc ?g_Db ?pg_Db ?hd_Db ?po_Db ?sa_Db ?mk_Db ?kc_Db ?a1 ?i1 ?l1 ?c1 ?k1 ?a2 ?i2 ?l2 ?c2 ?k2 ?a3 ?i3 ?l3 ?c3 ?k3 ?a4 ?i4 ?l4 ?c4 ?k4 ?a5 ?l5 ?c5 ?k5 ?a6 ?l6 ?c6 ?k6 ?a7 ?l7 ?c7 ?k7 ?a8 ?l8 ?c8 ?k8 ?a9 ?i9 ?l9 ?c9 ?k9 ?a10 ?l10 ?c10 ?k10 ?a11 ?l11 ?c11 ?k11 ?a12 ?l12 ?c12 ?k12 ?a13 ?l13 ?c13 ?k13 ?a14 ?l14 ?c14 ?k14 ?a15 ?l15 ?c15 ?k15 ?a16 ?l16 ?c16 ?k16 ?a17 ?l17 ?c17 ?k17 ?a18 ?l18 ?c18 ?k18 ?a19 ?l19 ?c19 ?k19 ?a20 ?l20 ?c20 ?k20 ?a21 ?l21 ?c21 ?k21 ?a22 ?l22 ?c22 ?k22 ?a23 ?l23 ?c23 ?k23 ?a24 ?l24 ?c24 ?k24 ?a25 ?l25 ?c25 ?k25 ?a26 ?l26 ?c26 ?k26 ?a27 ?l27 ?c27 ?k27 ?a28 ?l28 ?c28 ?k28 ?a29 ?l29 ?c29 ?k29 ?a30 ?l30 ?c30 ?k30 ?a31 ?l31 ?c31 ?k31 ?a32 ?i32 ?l32 ?c32 ?k32 ?a33 ?i33 ?l33 ?c33 ?k33 ?a34 ?i34 ?l34 ?c34 ?k34 ?a35 ?l35 ?c35 ?k35 ?a36 ?l36 ?c36 ?k36 ?a37 ?l37 ?c37 ?k37 ?a38 ?l38 ?c38 ?k38 ?a39 ?l39 ?c39 ?k39 ?a40 ?l40 ?c40 ?k40 ?a41 ?i41 ?l41 ?c41 ?k41 ?a42 ?i42 ?l42 ?c42 ?k42 ?a43 ?i43 ?l43 ?c43 ?k43 ?a44 ?i44 ?l44 ?c44 ?k44 ?a45 ?l45 ?c45 ?k45 ?a46 ?l46 ?c46 ?k46 ?a47 ?l47 ?c47 ?k47 ?a48 ?l48 ?c48 ?k48 ?a49 ?l49 ?c49 ?k49 ?a50 ?l50 ?c50 ?k50 ?a51 ?l51 ?c51 ?k51 ?a52 ?l52 ?c52 ?k52 ?a53 ?l53 ?c53 ?k53 ?n_Cs_terms ?n_Cs_number ?n_Cc_one ?n_Cc_sign ?n_Cc_other ?n_Db_kind ?n_Db_at ?n_Db_ahead ?n_Db_condition ?z_len ?z_sum ?z_sorted ?z_list ?z_tuple ?z_isinstance ?z_range ?z_abs ?z_str ?z_int ?z_dict ?z_all ?z_set ?z_enumerate ?z_bool ?z_any ?x_cg ?x_ct ?x_ca ?x_cm ?x_ib ?x_tl ?x_ms ?x_mc ?x_od ?x_ol
    (case g_Cs => k_is)
    (case g_Cc => k_is)
    (case g_Db => k_is)
    (case pg_Cs => k_is)
    (case hd_Cs => k_is)
    (case po_Cs => k_is)
    (case sa_Cs => k_is)
    (case mk_Cs => k_is)
    (case kc_Cs => k_is)
    (case pg_Cc => k_is)
    (case hd_Cc => k_is)
    (case po_Cc => k_is)
    (case sa_Cc => k_is)
    (case mk_Cc => k_is)
    (case kc_Cc => k_is)
    (case pg_Db => k_is)
    (case hd_Db => k_is)
    (case po_Db => k_is)
    (case sa_Db => k_is)
    (case mk_Db => k_is)
    (case kc_Db => k_is)
    (case a1 => k_is)
    (case i1 => k_is)
    (case l1 => k_is)
    (case c1 => k_is)
    (case k1 => k_is)
    (case a2 => k_is)
    (case i2 => k_is)
    (case l2 => k_is)
    (case c2 => k_is)
    (case k2 => k_is)
    (case a3 => k_is)
    (case i3 => k_is)
    (case l3 => k_is)
    (case c3 => k_is)
    (case k3 => k_is)
    (case a4 => k_is)
    (case i4 => k_is)
    (case l4 => k_is)
    (case c4 => k_is)
    (case k4 => k_is)
    (case a5 => k_is)
    (case l5 => k_is)
    (case c5 => k_is)
    (case k5 => k_is)
    (case a6 => k_is)
    (case l6 => k_is)
    (case c6 => k_is)
    (case k6 => k_is)
    (case a7 => k_is)
    (case l7 => k_is)
    (case c7 => k_is)
    (case k7 => k_is)
    (case a8 => k_is)
    (case l8 => k_is)
    (case c8 => k_is)
    (case k8 => k_is)
    (case a9 => k_is)
    (case i9 => k_is)
    (case l9 => k_is)
    (case c9 => k_is)
    (case k9 => k_is)
    (case a10 => k_is)
    (case l10 => k_is)
    (case c10 => k_is)
    (case k10 => k_is)
    (case a11 => k_is)
    (case l11 => k_is)
    (case c11 => k_is)
    (case k11 => k_is)
    (case a12 => k_is)
    (case l12 => k_is)
    (case c12 => k_is)
    (case k12 => k_is)
    (case a13 => k_is)
    (case l13 => k_is)
    (case c13 => k_is)
    (case k13 => k_is)
    (case a14 => k_is)
    (case l14 => k_is)
    (case c14 => k_is)
    (case k14 => k_is)
    (case a15 => k_is)
    (case l15 => k_is)
    (case c15 => k_is)
    (case k15 => k_is)
    (case a16 => k_is)
    (case l16 => k_is)
    (case c16 => k_is)
    (case k16 => k_is)
    (case a17 => k_is)
    (case l17 => k_is)
    (case c17 => k_is)
    (case k17 => k_is)
    (case a18 => k_is)
    (case l18 => k_is)
    (case c18 => k_is)
    (case k18 => k_is)
    (case a19 => k_is)
    (case l19 => k_is)
    (case c19 => k_is)
    (case k19 => k_is)
    (case a20 => k_is)
    (case l20 => k_is)
    (case c20 => k_is)
    (case k20 => k_is)
    (case a21 => k_is)
    (case l21 => k_is)
    (case c21 => k_is)
    (case k21 => k_is)
    (case a22 => k_is)
    (case l22 => k_is)
    (case c22 => k_is)
    (case k22 => k_is)
    (case a23 => k_is)
    (case l23 => k_is)
    (case c23 => k_is)
    (case k23 => k_is)
    (case a24 => k_is)
    (case l24 => k_is)
    (case c24 => k_is)
    (case k24 => k_is)
    (case a25 => k_is)
    (case l25 => k_is)
    (case c25 => k_is)
    (case k25 => k_is)
    (case a26 => k_is)
    (case l26 => k_is)
    (case c26 => k_is)
    (case k26 => k_is)
    (case a27 => k_is)
    (case l27 => k_is)
    (case c27 => k_is)
    (case k27 => k_is)
    (case a28 => k_is)
    (case l28 => k_is)
    (case c28 => k_is)
    (case k28 => k_is)
    (case a29 => k_is)
    (case l29 => k_is)
    (case c29 => k_is)
    (case k29 => k_is)
    (case a30 => k_is)
    (case l30 => k_is)
    (case c30 => k_is)
    (case k30 => k_is)
    (case a31 => k_is)
    (case l31 => k_is)
    (case c31 => k_is)
    (case k31 => k_is)
    (case a32 => k_is)
    (case i32 => k_is)
    (case l32 => k_is)
    (case c32 => k_is)
    (case k32 => k_is)
    (case a33 => k_is)
    (case i33 => k_is)
    (case l33 => k_is)
    (case c33 => k_is)
    (case k33 => k_is)
    (case a34 => k_is)
    (case i34 => k_is)
    (case l34 => k_is)
    (case c34 => k_is)
    (case k34 => k_is)
    (case a35 => k_is)
    (case l35 => k_is)
    (case c35 => k_is)
    (case k35 => k_is)
    (case a36 => k_is)
    (case l36 => k_is)
    (case c36 => k_is)
    (case k36 => k_is)
    (case a37 => k_is)
    (case l37 => k_is)
    (case c37 => k_is)
    (case k37 => k_is)
    (case a38 => k_is)
    (case l38 => k_is)
    (case c38 => k_is)
    (case k38 => k_is)
    (case a39 => k_is)
    (case l39 => k_is)
    (case c39 => k_is)
    (case k39 => k_is)
    (case a40 => k_is)
    (case l40 => k_is)
    (case c40 => k_is)
    (case k40 => k_is)
    (case a41 => k_is)
    (case i41 => k_is)
    (case l41 => k_is)
    (case c41 => k_is)
    (case k41 => k_is)
    (case a42 => k_is)
    (case i42 => k_is)
    (case l42 => k_is)
    (case c42 => k_is)
    (case k42 => k_is)
    (case a43 => k_is)
    (case i43 => k_is)
    (case l43 => k_is)
    (case c43 => k_is)
    (case k43 => k_is)
    (case a44 => k_is)
    (case i44 => k_is)
    (case l44 => k_is)
    (case c44 => k_is)
    (case k44 => k_is)
    (case a45 => k_is)
    (case l45 => k_is)
    (case c45 => k_is)
    (case k45 => k_is)
    (case a46 => k_is)
    (case l46 => k_is)
    (case c46 => k_is)
    (case k46 => k_is)
    (case a47 => k_is)
    (case l47 => k_is)
    (case c47 => k_is)
    (case k47 => k_is)
    (case a48 => k_is)
    (case l48 => k_is)
    (case c48 => k_is)
    (case k48 => k_is)
    (case a49 => k_is)
    (case l49 => k_is)
    (case c49 => k_is)
    (case k49 => k_is)
    (case a50 => k_is)
    (case l50 => k_is)
    (case c50 => k_is)
    (case k50 => k_is)
    (case a51 => k_is)
    (case l51 => k_is)
    (case c51 => k_is)
    (case k51 => k_is)
    (case a52 => k_is)
    (case l52 => k_is)
    (case c52 => k_is)
    (case k52 => k_is)
    (case a53 => k_is)
    (case l53 => k_is)
    (case c53 => k_is)
    (case k53 => k_is)
    (case n_Cs_terms => k_is)
    (case n_Cs_number => k_is)
    (case n_Cc_one => k_is)
    (case n_Cc_sign => k_is)
    (case n_Cc_other => k_is)
    (case n_Db_kind => k_is)
    (case n_Db_at => k_is)
    (case n_Db_ahead => k_is)
    (case n_Db_condition => k_is)
    (case z_len => k_is)
    (case z_sum => k_is)
    (case z_sorted => k_is)
    (case z_list => k_is)
    (case z_tuple => k_is)
    (case z_isinstance => k_is)
    (case z_range => k_is)
    (case z_abs => k_is)
    (case z_str => k_is)
    (case z_int => k_is)
    (case z_dict => k_is)
    (case z_all => k_is)
    (case z_set => k_is)
    (case z_enumerate => k_is)
    (case z_bool => k_is)
    (case z_any => k_is)
    (case x_cg => k_is)
    (case x_ct => k_is)
    (case x_ca => k_is)
    (case x_cm => k_is)
    (case x_ib => kit_is)
    (case x_tl => kit_is)
    (case x_ms => k_is)
    (case x_mc => k_is)
    (case x_od => k_is)
    (case x_ol => k_is)
#print axioms PySem.Challenge.cw_holdwright_k41_whole_shown_holds
