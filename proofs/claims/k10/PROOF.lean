import PyProof.Rows.All
import Wide.All
import OpenK.AllK
import Wide.FinOn
import Lean
import PyProof.EqAt
import PyProof.EqKinds
import PyProof.TupleCall
import PySem.Spec
import PyProof.NeKinds
import KE.KDictList
import KE.KPairComp
import PyProof.DictWalks
import PyProof.FString5
import PyProof.StrLawsIn
import PyProof.Rows.SetFrom
import PyProof.ExcClass3
import PyProof.ExcInit
import PyProof.ExcBaseAll.ValueError
import OpenK.KMore
import PyProof.RaisesMany
import PyProof.ExcAttrAll.ValueError
import KE.KIsAll
import PyProof.RulesAs
import PySem.Challenge.RW_holdwright_k10_steps_tell
set_option Elab.async false
set_option linter.all false
set_option maxRecDepth 100000
namespace L2
open PySem PySem.Spec PyProof.Rows
abbrev Key:=Sum Int Str
def xM:Key→Value→Bool
 | .inl k,v=>Value.isInt k v
 | .inr x,v=>Value.isStrOf x v
def a6q (w:World):Key→Int
 | .inl k=>hashInt k
 | .inr x=>hashStr w x
theorem fm:∀ {k:Key} {v:Value},xM k v=true→(∃ i t,k=Sum.inl i∧v=Value.int i t)∨(∃ x t,k=Sum.inr x∧v=Value.str x t)
 | .inl i,v,h=>by
  obtain ⟨t,e⟩:=Value.isInt_shape (k:=i) (v:=v) h
  exact .inl ⟨i,t,rfl,e⟩
 | .inr x,v,h=>by
  obtain ⟨t,e⟩:=Value.isStrOf_shape (x:=x) (v:=v) h
  exact .inr ⟨x,t,rfl,e⟩
theorem HS (i:Int) (t:Tok):xM (.inl i) (.int i t)=true:=by simp [xM,Value.isInt]
theorem HR (x:Str) (t:Tok):xM (.inr x) (.str x t)=true:=by simp [xM,Value.isStrOf]
theorem RY (a b:Int):decide ((Sum.inl a:Key)=Sum.inl b)=(a == b):=by
 by_cases e:a=b
 ·subst e;simp
 ·have h:¬ (Sum.inl a:Key)=Sum.inl b:=fun q=>e (Sum.inl.inj q)
  rw [decide_eq_false h]
  exact (beq_eq_false_iff_ne.mpr e).symm
theorem RV (a b:Str):decide ((Sum.inr a:Key)=Sum.inr b)=decide (a=b):=by
 by_cases e:a=b
 ·subst e;simp
 ·have h:¬ (Sum.inr a:Key)=Sum.inr b:=fun q=>e (Sum.inr.inj q)
  rw [decide_eq_false h,decide_eq_false e]
theorem RX (a:Int) (b:Str):decide ((Sum.inl a:Key)=Sum.inr b)=false:=decide_eq_false (fun q=>nomatch q)
theorem RW (a:Str) (b:Int):decide ((Sum.inr a:Key)=Sum.inl b)=false:=decide_eq_false (fun q=>nomatch q)
def gP (prog:Program) (w:World):PySem.KeyKind prog w Key where
 is:=xM
 hash:=a6q w
 inj:=fun v a b ha hb=>by
  rcases fm ha with ⟨i,t,rfl,rfl⟩ | ⟨x,t,rfl,rfl⟩
  ·rcases fm hb with ⟨j,u,rfl,e⟩ | ⟨y,u,rfl,e⟩
   ·injection e with e1 _;rw [e1]
   ·exact nomatch e
  ·rcases fm hb with ⟨j,u,rfl,e⟩ | ⟨y,u,rfl,e⟩
   ·exact nomatch e
   ·injection e with e1 _;rw [e1]
 byValue:=fun k v h=>by
  rcases fm h with ⟨i,t,rfl,rfl⟩ | ⟨x,t,rfl,rfl⟩ <;> rfl
 pyHash:=fun hv h=>by
  rcases fm hv with ⟨i,t,rfl,rfl⟩ | ⟨x,t,rfl,rfl⟩
  ·exact wpAny_pyHash_int h
  ·exact wpAny_pyHash_str h
 eqBool:=fun hu hv h=>by
  rcases fm hu with ⟨i,t,rfl,rfl⟩ | ⟨x,t,rfl,rfl⟩
  ·rcases fm hv with ⟨j,u,rfl,rfl⟩ | ⟨y,u,rfl,rfl⟩
   ·rw [RY] at h;exact wpAny_eqBool_int h
   ·rw [RX] at h;exact SeqAt.EqAt.int_str i t y u _ _ _ _ h
  ·rcases fm hv with ⟨j,u,rfl,rfl⟩ | ⟨y,u,rfl,rfl⟩
   ·rw [RW] at h;exact SeqAt.EqAt.str_int x t j u _ _ _ _ h
   ·rw [RV] at h;exact wpAny_eqBool_str h
 «strs»:=fun k x t v h=>by
  rcases fm h with ⟨i,u,rfl,e⟩ | ⟨y,u,rfl,e⟩
  ·exact nomatch e
  ·injection e with e1 _
   subst e1
   cases v <;> rfl
theorem Bh (prog:Program) (w:World) (i:Int) (t:Tok):(gP prog w).is (.inl i) (.int i t)=true:=HS i t
theorem Bg (prog:Program) (w:World) (x:Str) (t:Tok):(gP prog w).is (.inr x) (.str x t)=true:=HR x t
end L2
namespace L2
open PySem PySem.Spec PyProof.Rows
inductive V where
 | eT | bl (b:Bool) | int (i:Int) | str (x:Str) | IV (b:Array UInt8) | Sz (b:UInt64) | ref (a:Addr) | ty (n:String)
 deriving DecidableEq
def RelV:V→Value→Prop
 | .eT,u=>u=Value.none
 | .bl b,u=>u=Value.bool b
 | .int i,u=>∃ t,u=Value.int i t
 | .str x,u=>∃ t,u=Value.str x t
 | .IV b,u=>∃ t,u=Value.bytes b t
 | .Sz b,u=>∃ t,u=Value.float b t
 | .ref a,u=>u=Value.ref a
 | .ty n,u=>u=Value.type n
abbrev Vals:List V→List Value→Prop:=Paired RelV
theorem Vals.length {xs:List V} {us:List Value} (r:Vals xs us):xs.length=us.length:=Paired.length r
theorem Vals.get:∀ {xs:List V} {us:List Value} {i:Nat} {x:V},Vals xs us→xs[i]?=some x→∃ u,us[i]?=some u∧RelV x u
 | _,_,_,_,.nil,e=>by simp at e
 | _,_,0,_,.cons r _,e=>by simp at e;subst e;exact ⟨_,rfl,r⟩
 | _,_,i+1,x,.cons _ t,e=>by
  obtain ⟨u,h1,h2⟩:=Vals.get (i:=i) (x:=x) t (by simpa using e)
  exact ⟨u,by simpa using h1,h2⟩
theorem Vals.set {x:V} {u:Value} (r:RelV x u):∀ {xs:List V} {us:List Value} (i:Nat),Vals xs us→Vals (xs.set i x) (us.set i u)
 | _,_,_,.nil=>.nil
 | _,_,0,.cons _ t=>.cons r t
 | _,_,i+1,.cons q t=>.cons q (Vals.set r i t)
theorem Vals.append:∀ {xs ys:List V} {us ws:List Value},Vals xs us→Vals ys ws→Vals (xs++ys) (us++ws)
 | _,_,_,_,.nil,s=>s
 | _,_,_,_,.cons r t,s=>.cons r (Vals.append t s)
theorem Vals.take:∀ {xs:List V} {us:List Value} (n:Nat),Vals xs us→Vals (xs.take n) (us.take n)
 | _,_,0,_=>.nil
 | _,_,_+1,.nil=>.nil
 | _,_,n+1,.cons r t=>.cons r (Vals.take n t)
theorem Vals.drop:∀ {xs:List V} {us:List Value} (n:Nat),Vals xs us→Vals (xs.drop n) (us.drop n)
 | _,_,0,r=>r
 | _,_,_+1,.nil=>.nil
 | _,_,n+1,.cons _ t=>Vals.drop n t
def oY:Option V→Option Value→Prop
 | some v,some u=>RelV v u
 | none,none=>True
 | _,_=>False
def KV {κ:Type}:List (κ×V)→List (κ×Value)→Prop:=Paired fun (p:κ×V) (q:κ×Value)=>p.1=q.1∧RelV p.2 q.2
def kV:Key→V
 | .inl i=>.int i
 | .inr x=>.str x
inductive HO where
 | lst (xs:List V)
 | tup (xs:List V)
 | dK (kvs:List (Key×V)) | dT (kvs:List (List Key×V))
 | set (S:Int→Bool) (n:Nat)
 | ins (C dx:Addr) (fs:List (Str×V))
 | own (x:Addr)
 | xd (fs:List (Str×V))
 | met (f x:Addr)
 | X6 (lo hi:Int)
 | Fj (o:Obj) (u:HO)
 | PL (ps:Array Value)
 | ext (φ:Heap→Prop)
abbrev Hp:=Addr→Option HO
def upd (H:Hp) (a:Addr) (o:HO):Hp:=fun b=>if b=a then some o else H b
theorem af {H:Hp} {a:Addr} {o:HO}:upd H a o a=some o:=by unfold upd;rw [if_pos rfl]
theorem aX {H:Hp} {a b:Addr} {o:HO} (h:b≠a):upd H a o b=H b:=by unfold upd;rw [if_neg h]
theorem FL {H:Hp} {a:Addr} {o u:HO}:upd (upd H a o) a u=upd H a u:=by
 funext b;unfold upd;split <;> rfl
theorem yU {H:Hp} {a b:Addr} {o u:HO} (h:H a=some o) (h':H b=some u) (d:o≠u):a≠b:=by
 intro e;subst e;rw [h] at h';exact d (Option.some.inj h')
theorem aB {H:Hp} {a b:Addr} {o:HO} (h:H a=some o) (h':H b=none):a≠b:=by
 intro e;subst e;rw [h] at h';cases h'
section
variable (P:Program) (w:World)
def gk (H:Hp) (h:Heap) (a:Addr):HO→Prop
 | .lst xs=>xs.length≤sizeLine∧∃ (its:List Value) (n:Nat),Vals xs its∧h.get? a=some { cls:=.type "list",data:=.seq its.toArray n }
 | .tup xs=>xs.length≤sizeLine∧∃ its:List Value,Vals xs its∧IsTup h a its.toArray
 | .dK kvs=>kvs.length≤sizeLine∧(a == sysModules)=false∧∃ vs,KV kvs vs∧h.DictOf (gP P w) a vs
 | .dT kvs=>kvs.length≤sizeLine∧(a == sysModules)=false∧∃ xs:List (List Key×Addr×Value),
   Paired (fun (p:List Key×V) (q:List Key×Addr×Value)=>p.1=q.1∧H q.2.1=some (.tup (p.1.map kV))∧RelV p.2 q.2.2) kvs xs ∧
   ∃ o es ep,h.get? a=some o∧o.ExactDict∧o.data=.dict es ep∧es.toList=xs.map (entryOfKey (tupleKind (gP P w)))∧(xs.map (·.1)).Nodup
 | .set S n=>h.SetOf (intKind P w) a S n
 | .ins C dx fs=>H dx=some (.own a)∧fs.length≤1000∧dx≠a∧h.get? a=some (PySem.W.instObj C dx) ∧
   ∃ mA,h.Ns1 dx mA∧(∀ f,oY (fs.lookup f) (mA f))∧PySem.Within mA (fs.map (·.1))
 | .own _=>∃ o,h.get? a=some o
 | .xd fs=>∃ mA,h.Ns1 a mA∧∀ f,oY (fs.lookup f) (mA f)
 | .X6 lo hi=>∃ t u v,h.get? a=some { cls:=.type "range",data:=.fields #[.int lo t,.int hi u,.int 1 v] }
 | .Fj o u=>h.get? a=some o∧gk H h a u
 | .PL ps=>h.get? a=some { cls:=.none,data:=.fields ps }
 | .met f x=>h.get? a=some (PySem.W.methodObj (.ref f) (.ref x))
 | .ext φ=>φ h∧(∃ o,h.get? a=some o)∧∀ h1 h2:Heap,φ h1→(∀ o,h1.get? a=some o→h2.get? a=some o)→φ h2
def sH (H:Hp) (h:Heap):Prop:=∀ a o,H a=some o→gk P w H h a o
end
section
variable {P:Program} {w:World} {H H':Hp} {h h':Heap} {a:Addr} {o:HO}
theorem gk.lt (x:gk P w H h a o):a < h.objs.size:=by
 cases o with
 | lst xs=>obtain ⟨_,_,_,_,e⟩:=x;exact Heap.lt_size e
 | tup xs=>obtain ⟨_,_,_,p⟩:=x;exact p.lt
 | dK kvs=>obtain ⟨_,_,_,_,o,_,_,e,_⟩:=x;exact Heap.lt_size e
 | dT kvs=>obtain ⟨_,_,_,_,o,_,_,e,_⟩:=x;exact Heap.lt_size e
 | set S n=>obtain ⟨o,_,_,_,e,_⟩:=x;exact Heap.lt_size e
 | ins C dx fs=>obtain ⟨_,_,_,e,_⟩:=x;exact Heap.lt_size e
 | own y=>obtain ⟨_,e⟩:=x;exact Heap.lt_size e
 | xd fs=>obtain ⟨_,⟨_,_,_,e,_⟩,_⟩:=x;exact Heap.lt_size e
 | X6 lo hi=>obtain ⟨_,_,_,e⟩:=x;exact Heap.lt_size e
 | Fj ob u=>obtain ⟨e,_⟩:=x;exact Heap.lt_size e
 | PL ps=>exact Heap.lt_size (show h.get? a=some _ from x)
 | met f y=>exact Heap.lt_size (show h.get? a=some _ from x)
 | ext φ=>obtain ⟨_,⟨_,e⟩,_⟩:=x;exact Heap.lt_size e
theorem Paired.dg {α β:Type} {F G:α→β→Prop}:∀ {l₁:List α} {l₂:List β},Paired F l₁ l₂→(∀ a b,F a b→G a b)→Paired G l₁ l₂
 | _,_,.nil,_=>.nil
 | _,_,.cons r t,f=>.cons (f _ _ r) (Paired.dg t f)
theorem gk.stay (x:gk P w H h a o) (k:∀ b u,(b=a∨H b=some (.own a))→h.get? b=some u→h'.get? b=some u)
  (ho:∀ b,H b=some (.own a)→H' b=some (.own a)) (ht:∀ b xs,H b=some (.tup xs)→H' b=some (.tup xs)):gk P w H' h' a o:=by
 induction o with
 | lst xs=>obtain ⟨z,its,n,r,e⟩:=x;exact ⟨z,its,n,r,k _ _ (.inl rfl) e⟩
 | tup xs=>obtain ⟨z,its,r,ob,e,c⟩:=x;exact ⟨z,its,r,ob,k _ _ (.inl rfl) e,c⟩
 | dK kvs=>obtain ⟨z,y,vs,r,ob,es,ep,e,c⟩:=x;exact ⟨z,y,vs,r,ob,es,ep,k _ _ (.inl rfl) e,c⟩
 | dT kvs =>
  obtain ⟨z,y,xs,r,ob,es,ep,e,c⟩:=x
  exact ⟨z,y,xs,Paired.dg r fun p q z=>⟨z.1,ht _ _ z.2.1,z.2.2⟩,ob,es,ep,k _ _ (.inl rfl) e,c⟩
 | set S n=>obtain ⟨ob,es,ep,t,e,c⟩:=x;exact ⟨ob,es,ep,t,k _ _ (.inl rfl) e,c⟩
 | ins C dx fs =>
  obtain ⟨d,z,ne,e,mA,⟨od,es,ep,e2,c⟩,r⟩:=x
  exact ⟨ho _ d,z,ne,k _ _ (.inl rfl) e,mA,⟨od,es,ep,k _ _ (.inr d) e2,c⟩,r⟩
 | own y=>obtain ⟨ob,e⟩:=x;exact ⟨ob,k _ _ (.inl rfl) e⟩
 | xd fs=>obtain ⟨mA,⟨od,es,ep,e,c⟩,r⟩:=x;exact ⟨mA,⟨od,es,ep,k _ _ (.inl rfl) e,c⟩,r⟩
 | X6 lo hi=>obtain ⟨t,u,v,e⟩:=x;exact ⟨t,u,v,k _ _ (.inl rfl) e⟩
 | Fj ob u ih=>obtain ⟨e,q⟩:=x;exact ⟨k _ _ (.inl rfl) e,ih q⟩
 | PL ps =>
  have e:h.get? a=some { cls:=.none,data:=.fields ps }:=x
  show h'.get? a=some { cls:=.none,data:=.fields ps }
  exact k a _ (.inl rfl) e
 | met f y =>
  have e:h.get? a=some (PySem.W.methodObj (.ref f) (.ref y)):=x
  show h'.get? a=some (PySem.W.methodObj (.ref f) (.ref y))
  exact k a _ (.inl rfl) e
 | ext φ=>obtain ⟨p,⟨o,e⟩,st⟩:=x;exact ⟨st _ _ p fun o q=>k _ _ (.inl rfl) q,⟨o,k _ _ (.inl rfl) e⟩,st⟩
theorem sH.lt (x:sH P w H h) (e:H a=some o):a < h.objs.size:=(x a o e).lt
theorem sH.fresh (x:sH P w H h) (e:h.objs.size≤a):H a=none:=by
 cases q:H a with
 | none=>rfl
 | some u=>exact absurd (Nat.lt_of_lt_of_le (x.lt q) e) (Nat.lt_irrefl _)
theorem sH.kept (x:sH P w H h) (k:∀ b u,h.get? b=some u→h'.get? b=some u):sH P w H h':=fun a o e =>
 (x a o e).stay (fun b u _ q=>k b u q) (fun _ q=>q) fun _ _ q=>q
theorem sH.laid (x:sH P w H h) (k:∀ b u,h.get? b=some u→h'.get? b=some u) (hp:h.objs.size≤a) (new:gk P w (upd H a o) h' a o):sH P w (upd H a o) h':=fun b u e=>by
 have hn:=x.fresh hp
 by_cases hb:b=a
 ·subst hb;rw [af] at e;cases e;exact new
 ·rw [aX hb] at e
  exact (x b u e).stay (fun c v _ q=>k c v q) (fun c q=>by rw [aX (aB q hn)];exact q) fun c xs q=>by rw [aX (aB q hn)];exact q
end
def Rd (H:Hp) (a:Addr) (u:HO):Prop:=H a=some u∨∃ o,H a=some (.Fj o u)
theorem Rd.ok {P:Program} {w:World} {H:Hp} {h:Heap} {a:Addr} {u:HO} (r:Rd H a u) (x:sH P w H h):gk P w H h a u:=by
 rcases r with r | ⟨o,r⟩
 ·exact x a u r
 ·obtain ⟨_,q⟩:=x a _ r
  exact q
def Xv:Option HO→Prop
 | some (.lst _)=>True
 | some (.dK _)=>True
 | some (.dT _)=>True
 | some (.set _ _)=>True
 | some (.ins _ _ _)=>True
 | some (.ext _)=>True
 | _=>False
section
variable {P:Program} {w:World} {H:Hp} {h h':Heap} {x e:Addr} {o':HO}
theorem sH.write (ok:sH P w H h) (mu:Xv (H x)) (he:e=x∨H e=some (.own x)) (k:∀ b u,b≠e→h.get? b=some u→h'.get? b=some u) (TX:∃ u,h'.get? e=some u)
  (new:gk P w (upd H x o') h' x o'):sH P w (upd H x o') h':=fun b u q=>by
 have US:∀ c y,H c=some (.own y)→c≠x:=fun c y r z=>by subst z;rw [r] at mu;exact mu
 have a4X:∀ c xs,H c=some (.tup xs)→c≠x:=fun c xs r z=>by subst z;rw [r] at mu;exact mu
 by_cases hb:b=x
 ·subst hb;rw [af] at q;cases q;exact new
 ·rw [aX hb] at q
  by_cases R5:b=e
  ·have q':H b=some (.own x):=by
    rcases he with z | z
    ·exact absurd (R5.trans z) hb
    ·rw [R5];exact z
   rw [q] at q';cases q'
   obtain ⟨v,hv⟩:=TX
   exact ⟨v,by rw [R5];exact hv⟩
  ·refine (ok b u q).stay (fun c v hc r=>k c v ?_ r) (fun c r=>by rw [aX (US c b r)];exact r) fun c xs r=>by rw [aX (a4X c xs r)];exact r
   rcases hc with rfl | hc
   ·exact R5
   ·rintro rfl
    rcases he with z | z
    ·exact US c b hc z
    ·rw [hc] at z;cases z;exact hb rfl
end
structure Un (fs ex:List Addr) (H H':Hp) (h h':Heap):Prop where
 keep:∀ b o,h.get? b=some o→H b=none→b ∉ fs→b ∉ ex→h'.get? b=some o
 slot:∀ b o,h.get? b=some o→H b=none→b∈fs→b ∉ ex→∃ sl,h'.get? b=some { o with slots:=sl }
 free:∀ b o,h.get? b=some o→H b=none→b ∉ ex→H' b=none
 there:∀ b o,h.get? b=some o→b ∉ ex→∃ o',h'.get? b=some o'
 tups:∀ b xs,H b=some (.tup xs)→H' b=some (.tup xs)
 yo:∀ b o u,H b=some (.Fj o u)→H' b=some (.Fj o u)
 zl:∀ b ps,H b=some (.PL ps)→∃ more,H' b=some (.PL (ps++more))
section
variable {fs fs' ex ex':List Addr} {H H1 H2:Hp} {h h1 h2 h':Heap} {a x e:Addr} {o:HO}
theorem Un.any (u:Un fs ex H H1 h h1) {b:Addr} {ob:Obj} (q:h.get? b=some ob) (n:H b=none) (hx:b ∉ ex):∃ sl,h1.get? b=some { ob with slots:=sl }:=by
 by_cases hb:b∈fs
 ·exact u.slot b ob q n hb hx
 ·exact ⟨ob.slots,u.keep b ob q n hb hx⟩
theorem Un.kept (k:∀ b u,h.get? b=some u→h'.get? b=some u):Un fs ex H H h h' :=
 ⟨fun b ob q _ _ _=>k b ob q,fun b ob q _ _ _=>⟨ob.slots,k b ob q⟩,fun _ _ _ n _=>n,fun b ob q _=>⟨ob,k b ob q⟩,fun _ _ q=>q,fun _ _ _ q=>q,fun _ ps q=>⟨#[],by rw [q];simp⟩⟩
theorem Un.refl:Un fs ex H H h h:=Un.kept fun _ _ q=>q
theorem Un.laid (k:∀ b u,h.get? b=some u→h'.get? b=some u) (hp:h.objs.size≤a) (hn:H a=none):Un fs ex H (upd H a o) h h' where
 keep:=fun b u q _ _ _=>k b u q
 slot:=fun b u q _ _ _=>⟨u.slots,k b u q⟩
 free:=fun b u q n _=>by rw [aX (Nat.ne_of_lt (Nat.lt_of_lt_of_le (Heap.lt_size q) hp))];exact n
 there:=fun b u q _=>⟨u,k b u q⟩
 tups:=fun b xs q=>by rw [aX (aB q hn)];exact q
 yo:=fun b u xs q=>by rw [aX (aB q hn)];exact q
 zl:=fun b ps q=>⟨#[],by rw [aX (aB q hn),q];simp⟩
theorem Un.write (mu:Xv (H x)) (he:e=x∨H e=some (.own x)) (k:∀ b u,b≠e→h.get? b=some u→h'.get? b=some u) (TX:∃ u,h'.get? e=some u):Un fs ex H (upd H x o) h h':=by
 have hx:∀ b,H b=none→b≠x:=fun b n z=>by subst z;rw [n] at mu;exact mu
 have hb:∀ b,H b=none→b≠e:=fun b n z=>by
  subst z
  rcases he with r | r
  ·exact hx b n r
  ·rw [n] at r;cases r
 have hm:∀ b u,H b=some u→¬ Xv (some u)→b≠x:=fun b u q nm z=>by subst z;rw [q] at mu;exact nm mu
 refine ⟨fun b u q n _ _=>k b u (hb b n) q,fun b u q n _ _=>⟨u.slots,k b u (hb b n) q⟩,fun b u q n _=>by rw [aX (hx b n)];exact n,fun b u q _=>?_,
  fun b xs q=>by rw [aX (hm b _ q fun z=>z)];exact q,fun b u xs q=>by rw [aX (hm b _ q fun z=>z)];exact q,fun b ps q=>⟨#[],by rw [aX (hm b _ q fun z=>z),q];simp⟩⟩
 by_cases R5:b=e
 ·subst R5;exact TX
 ·exact ⟨u,k b u R5 q⟩
end
def XY (h:Heap) (H:Hp):List Addr:=(List.range h.objs.size).filter fun a=>(H a).isSome
def Ah (h:Heap) (H:Hp):Heap:=PySem.W.hideAll h (XY h H)
theorem Ie (h:Heap) (H:Hp):(Ah h H).objs.size=h.objs.size:=PySem.W.hideAll_size _ _
theorem Mw {h:Heap} {H:Hp} {b:Addr} {o:Obj} (e:h.get? b=some o) (n:H b=none):(Ah h H).get? b=some o :=
 PySem.W.hideAll_get _ e fun hm=>by
  have q:(H b).isSome=true:=(List.mem_filter.mp hm).2
  rw [n] at q;simp at q
theorem Ow {h:Heap} {H:Hp} {b:Addr} {o:Obj} (e:(Ah h H).get? b=some o):h.get? b=some o∧H b=none:=by
 have e':h.get? b=some o:=PySem.W.of_hideAll (XY h H) e
 refine ⟨e',?_⟩
 cases q:H b with
 | none=>rfl
 | some x =>
  have hm:b∈XY h H:=List.mem_filter.mpr ⟨List.mem_range.mpr (Heap.lt_size e'),by simp [q]⟩
  have z:(Ah h H).get? b=none:=PySem.W.hideAll_none (XY h H) hm
  rw [z] at e;cases e
def O7 (g h:Heap) (L:Addr):List (Addr×Obj):=(List.range h.objs.size).filterMap fun a=>if a=L∨(g.get? a).isSome=true then none else (h.get? a).map fun o=>(a,o)
def rest (g h:Heap) (L d:Addr):List (Addr×Obj):=(O7 g h L).filter fun p=>decide (p.1≠d)
end L2
namespace L2
open PySem PySem.Spec PyProof.Rows
structure Mod (K:PySem.W.Frag) (mg:Str→Option Value) (base:Heap):Prop where
 NS:K.In base
 glob:base.Ns mainGlobals mg
 blt:∃ mb,base.Ns builtinsNs mb∧∀ x:Str,x≠"__name__"→mb x=bootBuiltins x
 nolimit:base.NoLimit
structure Cx where
 prog:Program
 w:World
 K:PySem.W.Frag
 mg:Str→Option Value
 base:Heap
 A:Around
 N:List Str
 s₀:Shared
 H₀:Hp
 env:Env
 outer:List Env
 stack:List Env
 ex:List Addr
 fn:Str→Bool
 calm:Bool
 pn:List (Addr×Obj)
 xe:Value→Shared→Prop
def frs (l:List Env):List Addr:=l.filterMap (·.frame)
abbrev Cx.fs (X:Cx):List Addr:=frs X.outer
def ZT (sc:Scope) (x:Str):Prop:=sc.names.lookup x=some .local∨sc.names.lookup x=some .cell∨sc.names.lookup x=some .free
def Loc (sc:Scope) (x:Str):Prop:=sc.names.lookup x=some .local∨sc.names.lookup x=some .cell
def Look (env:Env) (h:Heap) (m:Str→Option Value) (x:Str) (u:Value):Prop :=
 (env.kindOf x=some .local∧m x=some u)∨((env.kindOf x=some .cell∨env.kindOf x=some .free)∧∃ c,env.cells.lookup x=some c∧h.IsCell c (some u))
structure Cx.Ok (X:Cx):Prop where
 mod:Mod X.K X.mg X.base
 kind:X.env.scope.kind=.function
 glob:X.env.globals=mainGlobals
 blt:X.env.builtins=builtinsNs
 above:X.s₀.heap.objs.size≤X.env.locals
 inj:∀ x y c,X.env.cells.lookup x=some c→X.env.cells.lookup y=some c→x=y
 has:∀ x,(X.env.kindOf x=some .cell∨X.env.kindOf x=some .free)→∃ c,X.env.cells.lookup x=some c
 Xi:∀ x c,X.fn x=true→X.env.cells.lookup x=some c→X.s₀.heap.objs.size≤c
 hd:X.calm=true→X.A.handled=none
 frames:X.A.frames=some X.stack
 stk:X.stack=X.outer∨(X.stack=X.env::X.outer∧X.env.frame=some X.env.locals)
 ZJ:∀ b∈X.ex,b≠X.env.locals∧∀ x c,X.env.cells.lookup x=some c→c≠b
 bs:∀ b o,X.base.get? b=some o→X.s₀.heap.get? b=some o∧X.H₀ b=none
 O5:X.base.objs.size≤X.s₀.heap.objs.size
 Lo:∀ b o,X.base.get? b=some o→b ∉ X.ex
 MV:∀ b∈X.ex,b ∉ X.fs
 vZ:X.s₀.heap.FunFrames X.base X.outer
 Sx:∀ b∈X.fs,X.H₀ b=none
structure Inv (X:Cx) (pins:List (Addr×Obj)) (σ:List (Option V)) (H:Hp) (s:Shared):Prop where
 ok:X.Ok
 os:s.os=X.s₀.os
 bare:AllBare s.gens
 base:Un X.fs X.ex X.H₀ H X.s₀.heap s.heap
 loc:∃ m,s.heap.Ns X.env.locals m∧∀ (i:Nat) (x:Str) (v:V),X.N[i]?=some x→σ[i]?=some (some v)→ZT X.env.scope x→∃ u,RelV v u∧Look X.env s.heap m x u
 cell:∀ x c,X.env.cells.lookup x=some c→∃ v,s.heap.IsCell c v
 free:H X.env.locals=none
 qc:∀ x c,X.env.cells.lookup x=some c→H c=none
 pin:∀ p∈X.pn++pins,s.heap.get? p.1=some p.2∧H p.1=none∧p.1≠X.env.locals∧p.1 ∉ X.fs∧∀ v,p.2.data≠.cell v
 hok:sH X.prog X.w H s.heap
 len:σ.length=X.N.length
section
variable {X:Cx} {pins:List (Addr×Obj)} {σ:List (Option V)} {H H':Hp} {s:Shared} {h':Heap}
theorem Cx.Ok.a4Z (ok:X.Ok) {b:Addr} {o:Obj} (e:X.base.get? b=some o):b ∉ X.fs:=fun hb=>by
 have:=(ok.vZ.mem hb).1
 rw [e] at this;cases this
theorem Inv.bs (I:Inv X pins σ H s):∀ b o,X.base.get? b=some o→s.heap.get? b=some o∧H b=none:=fun b o e =>
 ⟨I.base.keep b o (I.ok.bs b o e).1 (I.ok.bs b o e).2 (I.ok.a4Z e) (I.ok.Lo b o e),I.base.free b o (I.ok.bs b o e).1 (I.ok.bs b o e).2 (I.ok.Lo b o e)⟩
theorem Inv.bk (I:Inv X pins σ H s):∀ b o,X.base.get? b=some o→s.heap.get? b=some o:=fun b o e=>(I.bs b o e).1
theorem Inv.mod (I:Inv X pins σ H s):Mod X.K X.mg X.base:=I.ok.mod
theorem Inv.qJ (I:Inv X pins σ H s):X.K.In s.heap:=I.ok.mod.NS.keeps I.bk
theorem Inv.lt (I:Inv X pins σ H s):X.env.locals < s.heap.objs.size:=let ⟨_,hn,_⟩:=I.loc;hn.lt
theorem Inv.sz (I:Inv X pins σ H s):X.s₀.heap.objs.size≤s.heap.objs.size:=Nat.le_trans I.ok.above (Nat.le_of_lt I.lt)
theorem Inv.UT (I:Inv X pins σ H s) {a:Addr} (h:s.heap.objs.size≤a):a ∉ X.fs:=fun hb=>by
 obtain ⟨_,o,ho,_⟩:=I.ok.vZ.mem hb
 exact absurd (Nat.lt_of_lt_of_le (Heap.lt_size ho) (Nat.le_trans I.sz h)) (Nat.lt_irrefl _)
theorem Inv.S4 (I:Inv X pins σ H s):∀ x c,X.env.cells.lookup x=some c→c≠X.env.locals:=fun x c e z=>by
 obtain ⟨v,o,ho,hd⟩:=I.cell x c e
 obtain ⟨m,⟨o',es,ep,ho',hd',_⟩,_⟩:=I.loc
 rw [z,ho'] at ho;cases ho;rw [hd'] at hd;cases hd
theorem Inv.vZ (I:Inv X pins σ H s):s.heap.FunFrames X.base X.outer:=by
 have all:∀ (l:List Env),(∀ b∈frs l,b∈X.fs)→X.s₀.heap.FunFrames X.base l→s.heap.FunFrames X.base l:=by
  intro l
  induction l with
  | nil=>intro _ _;trivial
  | cons env r ih =>
   intro hs hl
   obtain ⟨hk,⟨L,o,hf,hn,ho,hd⟩,hr⟩:=hl
   have hL:L∈X.fs:=hs L (by unfold frs;rw [List.filterMap_cons,hf];exact List.mem_cons_self)
   obtain ⟨sl,e⟩:=I.base.slot L o ho (I.ok.Sx L hL) hL fun z=>I.ok.MV L z hL
   exact ⟨hk,⟨L,_,hf,hn,e,hd⟩,ih (fun b hb=>hs b (by unfold frs;rw [List.filterMap_cons,hf];exact List.mem_cons_of_mem _ hb)) hr⟩
 exact all X.outer (fun _ hb=>hb) I.ok.vZ
theorem Inv.stack (I:Inv X pins σ H s):s.heap.FunFrames X.base X.stack:=by
 rcases I.ok.stk with e | ⟨e,hf⟩
 ·rw [e];exact I.vZ
 ·rw [e]
  obtain ⟨m,hn,_⟩:=I.loc
  refine .cons (by rw [I.ok.kind];decide) hf hn ?_ I.vZ
  exact Heap.get?_none_of_le (Nat.le_trans I.ok.O5 I.ok.above)
theorem Inv.zm (I:Inv X pins σ H s):∀ b∈frs X.stack,b∈X.env.locals::X.fs:=fun b hb=>by
 rcases I.ok.stk with e | ⟨e,hf⟩
 ·rw [e] at hb;exact List.mem_cons_of_mem _ hb
 ·rw [e] at hb
  unfold frs at hb
  rw [List.filterMap_cons,hf] at hb
  exact hb
theorem Inv.FW (I:Inv X pins σ H s):∀ b∈frs X.stack,H b=none:=fun b hb=>by
 rcases List.mem_cons.mp (I.zm b hb) with e | hb
 ·rw [e];exact I.free
 ·obtain ⟨_,o,ho,_⟩:=I.ok.vZ.mem hb
  exact I.base.free b o ho (I.ok.Sx b hb) fun z=>I.ok.MV b z hb
theorem Inv.step {g':Array GenState} {t':Nat} {d':Drawn} {ch:List Addr} (I:Inv X pins σ H s)
  (hch:∀ b∈ch,(b∈X.ex∨X.s₀.heap.objs.size≤b)∧b≠X.env.locals∧(∀ x c,X.env.cells.lookup x=some c→c≠b)∧∀ p∈X.pn++pins,p.1≠b)
  (keep:∀ b o,b≠X.env.locals→b ∉ X.fs→b ∉ ch→s.heap.get? b=some o→H b=none→h'.get? b=some o)
  (slot:∀ b o,b≠X.env.locals→b∈X.fs→b ∉ ch→s.heap.get? b=some o→H b=none→∃ sl,h'.get? b=some { o with slots:=sl }) (free:∀ b o,b ∉ ch→s.heap.get? b=some o→H b=none→H' b=none)
  (there:∀ b o,b ∉ ch→s.heap.get? b=some o→∃ o',h'.get? b=some o')
  (tups:∀ b xs,H b=some (.tup xs)→H' b=some (.tup xs)) (yo:∀ b o u,H b=some (.Fj o u)→H' b=some (.Fj o u)) (zl:∀ b ps,H b=some (.PL ps)→∃ more,H' b=some (.PL (ps++more)))
  (ns:∀ m,s.heap.Ns X.env.locals m→h'.Ns X.env.locals m) (hok:sH X.prog X.w H' h') (hg:AllBare g') :
  Inv X pins σ H' { s with heap:=h',gens:=g',drawn:=d',toks:=t' }:=by
 have neL:∀ b o,X.s₀.heap.get? b=some o→b≠X.env.locals:=fun b o e=>Nat.ne_of_lt (Nat.lt_of_lt_of_le (Heap.lt_size e) I.ok.above)
 have Ye:∀ b o,X.s₀.heap.get? b=some o→b ∉ X.ex→b ∉ ch:=fun b o e hx hb=>by
  rcases (hch b hb).1 with z | z
  ·exact hx z
  ·exact absurd (Nat.lt_of_lt_of_le (Heap.lt_size e) z) (Nat.lt_irrefl _)
 have cellK:∀ x c,X.env.cells.lookup x=some c→∀ v,s.heap.IsCell c v→h'.IsCell c v:=fun x c e v ⟨o,ho,hd⟩=>by
  have UY:c ∉ ch:=fun z=>(hch c z).2.2.1 x c e rfl
  by_cases hc:c∈X.fs
  ·obtain ⟨sl,q⟩:=slot c o (I.S4 x c e) hc UY ho (I.qc x c e)
   exact ⟨_,q,hd⟩
  ·exact ⟨o,keep c o (I.S4 x c e) hc UY ho (I.qc x c e),hd⟩
 refine ⟨I.ok,I.os,hg,⟨fun b o e n hb hx=>?_,fun b o e n hb hx=>?_,fun b o e n hx=>?_,fun b o e hx=>?_,fun b xs e=>tups b xs (I.base.tups b xs e),fun b o xs e=>yo b o xs (I.base.yo b o xs e),fun b ps e=>?_⟩,?_,fun x c e=>?_,?_,fun x c e=>?_,fun p hp=>?_,hok,I.len⟩
 ·exact keep b o (neL b o e) hb (Ye b o e hx) (I.base.keep b o e n hb hx) (I.base.free b o e n hx)
 ·obtain ⟨sl,e1⟩:=I.base.slot b o e n hb hx
  obtain ⟨sl',e2⟩:=slot b _ (neL b o e) hb (Ye b o e hx) e1 (I.base.free b o e n hx)
  exact ⟨sl',e2⟩
 ·obtain ⟨o',e1⟩:=I.base.there b o e hx
  exact free b o' (Ye b o e hx) e1 (I.base.free b o e n hx)
 ·obtain ⟨o',e1⟩:=I.base.there b o e hx
  exact there b o' (Ye b o e hx) e1
 ·obtain ⟨m1,e1⟩:=I.base.zl b ps e
  obtain ⟨m2,e2⟩:=zl b _ e1
  exact ⟨m1++m2,by rw [e2,Array.append_assoc]⟩
 ·obtain ⟨m,hn,hl⟩:=I.loc
  refine ⟨m,ns m hn,fun i x v e1 e2 e3=>?_⟩
  obtain ⟨u,r,l⟩:=hl i x v e1 e2 e3
  refine ⟨u,r,?_⟩
  rcases l with l | ⟨k,c,e,z⟩
  ·exact .inl l
  ·exact .inr ⟨k,c,e,cellK x c e _ z⟩
 ·obtain ⟨v,z⟩:=I.cell x c e
  exact ⟨v,cellK x c e v z⟩
 ·obtain ⟨m,⟨o,_,_,ho,_⟩,_⟩:=I.loc
  exact free _ o (fun z=>(hch _ z).2.1 rfl) ho I.free
 ·obtain ⟨v,o,ho,hd⟩:=I.cell x c e
  exact free c o (fun z=>(hch c z).2.2.1 x c e rfl) ho (I.qc x c e)
 ·obtain ⟨e,n,ne,nf,d⟩:=I.pin p hp
  have UY:p.1 ∉ ch:=fun z=>(hch p.1 z).2.2.2 p hp rfl
  exact ⟨keep p.1 p.2 ne nf UY e n,free p.1 p.2 UY e n,ne,nf,d⟩
theorem Inv.un {t':Nat} (I:Inv X pins σ H s) (u:Un X.fs [] H H' s.heap h') (hok:sH X.prog X.w H' h'):Inv X pins σ H' { s with heap:=h',toks:=t' }:=by
 obtain ⟨m,⟨o,es,ep,ho,r⟩,_⟩:=id I.loc
 obtain ⟨sl,hL⟩:=u.any ho I.free (by simp)
 exact I.step (g':=s.gens) (d':=s.drawn) (ch:=[]) (fun _ z=>nomatch z) (fun b o _ hb _ e n=>u.keep b o e n hb (by simp)) (fun b o _ hb _ e n=>u.slot b o e n hb (by simp)) (fun b o _ e n=>u.free b o e n (by simp)) (fun b o _ e=>u.there b o e (by simp)) u.tups u.yo u.zl (fun m' hm=>by
  obtain ⟨o',es',VY,ho',r'⟩:=hm
  rw [ho] at ho';cases ho'
  exact ⟨_,es',VY,hL,r'⟩) hok I.bare
theorem Inv.call {g':Array GenState} {t':Nat} {d':Drawn} {ch:List Addr} (I:Inv X pins σ H s) (u:Un (frs X.stack) ch H H' s.heap h') (hok:sH X.prog X.w H' h') (hg:AllBare g')
  (hch:∀ b∈ch,(b∈X.ex∨X.s₀.heap.objs.size≤b)∧b≠X.env.locals∧(∀ x c,X.env.cells.lookup x=some c→c≠b)∧∀ p∈X.pn++pins,p.1≠b) :
  Inv X pins σ H' { s with heap:=h',gens:=g',drawn:=d',toks:=t' }:=by
 obtain ⟨m,⟨o,es,ep,ho,r⟩,_⟩:=id I.loc
 obtain ⟨sl,hL⟩:=u.any ho I.free fun z=>(hch _ z).2.1 rfl
 exact I.step (ch:=ch) hch (fun b o hL hb hc e n=>u.keep b o e n (fun z=>(List.mem_cons.mp (I.zm b z)).elim hL hb) hc) (fun b o _ _ hc e n=>u.any e n hc) (fun b o hc e n=>u.free b o e n hc) (fun b o hc e=>u.there b o e hc) u.tups u.yo u.zl (fun m' hm=>by
  obtain ⟨o',es',VY,ho',r'⟩:=hm
  rw [ho] at ho';cases ho'
  exact ⟨_,es',VY,hL,r'⟩) hok hg
theorem Inv.turned {t':Nat} {it:Addr} (I:Inv X pins σ H s) (k:∀ b o,b≠it→s.heap.get? b=some o→h'.get? b=some o) (hn:H it=none) (hL:it≠X.env.locals)
  (h1:it∈X.ex∨X.s₀.heap.objs.size≤it) (h2:∀ x c,X.env.cells.lookup x=some c→c≠it) (h3:∀ p∈X.pn++pins,p.1≠it):Inv X pins σ H { s with heap:=h',toks:=t' }:=by
 have nit:∀ b u,H b=some u→b≠it:=fun b u e z=>by rw [z,hn] at e;cases e
 refine I.step (g':=s.gens) (d':=s.drawn) (ch:=[it]) (fun b hb=>?_) (fun b o _ _ hc e _=>k b o (fun z=>hc (by simp [z])) e) (fun b o _ _ hc e _=>⟨o.slots,k b o (fun z=>hc (by simp [z])) e⟩) (fun _ _ _ _ n=>n)
  (fun b o hc e=>⟨o,k b o (fun z=>hc (by simp [z])) e⟩) (fun _ _ e=>e) (fun _ _ _ e=>e) (fun b ps e=>⟨#[],by rw [e];simp⟩) (fun m hm=>?_) (fun b u e=>?_) I.bare
 ·have e:b=it:=by simpa using hb
  subst e
  exact ⟨h1,hL,h2,h3⟩
 ·obtain ⟨o,es,ep,ho,r⟩:=hm
  exact ⟨o,es,ep,k _ o (Ne.symm hL) ho,r⟩
 ·refine (I.hok b u e).stay (fun c v hc q=>k c v ?_ q) (fun _ q=>q) fun _ _ q=>q
  rcases hc with z | z
  ·rw [z];exact nit b u e
  ·exact nit c _ z
theorem Inv.tok (I:Inv X pins σ H s) (t:Nat):Inv X pins σ H { s with toks:=t }:=I.un (h':=s.heap) (t':=t) Un.refl I.hok
theorem Inv.kept {t':Nat} (I:Inv X pins σ H s) (k:∀ b u,s.heap.get? b=some u→h'.get? b=some u):Inv X pins σ H { s with heap:=h',toks:=t' }:=I.un (Un.kept k) (I.hok.kept k)
theorem Inv.laid {a:Addr} {o:HO} {t':Nat} (I:Inv X pins σ H s) (k:∀ b u,s.heap.get? b=some u→h'.get? b=some u) (hp:s.heap.objs.size≤a) (new:gk X.prog X.w (upd H a o) h' a o) :
  Inv X pins σ (upd H a o) { s with heap:=h',toks:=t' }:=I.un (Un.laid k hp (I.hok.fresh hp)) (I.hok.laid k hp new)
theorem Inv.write {x e:Addr} {o:HO} {t':Nat} (I:Inv X pins σ H s) (mu:Xv (H x)) (he:e=x∨H e=some (.own x)) (k:∀ b u,b≠e→s.heap.get? b=some u→h'.get? b=some u) (TX:∃ u,h'.get? e=some u)
  (new:gk X.prog X.w (upd H x o) h' x o):Inv X pins σ (upd H x o) { s with heap:=h',toks:=t' }:=I.un (Un.write mu he k TX) (I.hok.write mu he k TX new)
theorem Inv.weak {σ':List (Option V)} (I:Inv X pins σ H s) (hl:σ'.length=σ.length) (w:∀ (i:Nat) v,σ'[i]?=some (some v)→σ[i]?=some (some v)):Inv X pins σ' H s :=
 ⟨I.ok,I.os,I.bare,I.base,let ⟨m,hn,hl'⟩:=I.loc;⟨m,hn,fun i x v e1 e2 e3=>hl' i x v e1 (w i v e2) e3⟩,I.cell,I.free,I.qc,I.pin,I.hok,hl.trans I.len⟩
theorem Inv.wu {xw:List (Addr×Obj)} (I:Inv X pins σ H s) (h:∀ p∈xw,s.heap.get? p.1=some p.2∧H p.1=none∧p.1≠X.env.locals∧p.1 ∉ X.fs∧∀ v,p.2.data≠.cell v):Inv X xw σ H s :=
 ⟨I.ok,I.os,I.bare,I.base,I.loc,I.cell,I.free,I.qc,fun p hp=>(List.mem_append.mp hp).elim (fun z=>I.pin p (List.mem_append_left _ z)) (h p),I.hok,I.len⟩
theorem Bf {N:List Str} (hN:N.Nodup) {i j:Nat} {x:Str} (a:N[i]?=some x) (b:N[j]?=some x):i=j:=by
 obtain ⟨h1,e1⟩:=List.getElem?_eq_some_iff.mp a
 obtain ⟨h2,e2⟩:=List.getElem?_eq_some_iff.mp b
 exact (List.getElem_inj hN).mp (e1.trans e2.symm)
theorem yL {M:Model} {A:Around} {E:Value→Shared→Prop} {i:Nat} {x:Str} {v:V} {u:Value} {Q:Unit→Shared→Prop} (I:Inv X pins σ H s) (hN:X.N.Nodup) (hi:X.N[i]?=some x) (hx:Loc X.env.scope x) (r:RelV v u)
  (h:∀ s',Inv X pins (σ.set i (some v)) H s'→(∃ a,Heap.SameBut a s.heap s'.heap∧(a=X.env.locals∨X.env.cells.lookup x=some a))→Q () s') (hf:X.fn x=true∨X.env.scope.names.lookup x=some .local:=by first | exact .inl rfl | exact .inr rfl | assumption):wpAny M A (storeName X.env x u) Q E s:=by
 obtain ⟨m,hn,hl⟩:=id I.loc
 have hcls:(X.env.scope.kind == .class || (X.env.scope.kind == .module && X.env.locals != X.env.globals))=false:=by rw [I.ok.kind];rfl
 have hiσ:i < σ.length:=by rw [I.len];exact (List.getElem?_eq_some_iff.mp hi).1
 have S4:=I.S4
 have tracked:∀ {a:Addr} {h':Heap},(∃ o,s.heap.get? a=some o∧H a=none)→Heap.SameBut a s.heap h'→sH X.prog X.w H h':=fun {a h'} ha hs b ob e=>by
  obtain ⟨_,_,hfree⟩:=ha
  refine (I.hok b ob e).stay (fun c w' hc q=>(hs.2 c ?_).trans q) (fun _ q=>q) fun _ _ q=>q
  rintro rfl
  rcases hc with rfl | hc
  ·rw [hfree] at e;cases e
  ·rw [hfree] at hc;cases hc
 rcases hx with hk | hk
 ·refine wpAny_storeName_local hk hn (fun h' hn' hs=>?_) hcls
  obtain ⟨oL,_,_,hoL,_⟩:=id hn
  refine h _ ⟨I.ok,I.os,I.bare,⟨fun b o e n hb hx=>?_,fun b o e n hb hx=>?_,I.base.free,fun b o e hx=>?_,I.base.tups,I.base.yo,I.base.zl⟩,⟨_,hn',fun j y v' e1 e2 e3=>?_⟩,fun y c e=>?_,I.free,I.qc,fun p hp=>?_,tracked ⟨oL,hoL,I.free⟩ hs,by simpa using I.len⟩ ⟨_,hs,.inl rfl⟩
  ·exact (hs.2 b (Nat.ne_of_lt (Nat.lt_of_lt_of_le (Heap.lt_size e) I.ok.above))).trans (I.base.keep b o e n hb hx)
  ·obtain ⟨sl,e1⟩:=I.base.slot b o e n hb hx
   exact ⟨sl,(hs.2 b (Nat.ne_of_lt (Nat.lt_of_lt_of_le (Heap.lt_size e) I.ok.above))).trans e1⟩
  ·obtain ⟨o',e1⟩:=I.base.there b o e hx
   exact ⟨o',(hs.2 b (Nat.ne_of_lt (Nat.lt_of_lt_of_le (Heap.lt_size e) I.ok.above))).trans e1⟩
  ·by_cases hj:j=i
   ·subst hj
    rw [hi] at e1;cases e1
    rw [List.getElem?_set_self hiσ] at e2
    cases e2
    exact ⟨u,r,.inl ⟨hk,by simp⟩⟩
   ·rw [List.getElem?_set_ne (Ne.symm hj)] at e2
    obtain ⟨u',r',q⟩:=hl j y v' e1 e2 e3
    refine ⟨u',r',?_⟩
    rcases q with ⟨k,e⟩ | ⟨k,c,e,z⟩
    ·refine .inl ⟨k,?_⟩
     have:y≠x:=fun e=>hj (Bf hN e1 (e ▸ hi))
     simp [this,e]
    ·exact .inr ⟨k,c,e,z.sameBut hs (S4 y c e)⟩
  ·obtain ⟨w',z⟩:=I.cell y c e
   exact ⟨w',z.sameBut hs (S4 y c e)⟩
  ·obtain ⟨e,n,ne,nf,d⟩:=I.pin p hp
   exact ⟨(hs.2 p.1 ne).trans e,n,ne,nf,d⟩
 ·have hfn:X.fn x=true:=by
   rcases hf with z | z
   ·exact z
   ·rw [z] at hk;cases hk
  obtain ⟨c,hc⟩:=I.ok.has x (.inl hk)
  obtain ⟨w',z⟩:=I.cell x c hc
  refine wpAny_storeName_cell I.ok.kind hk hc z (fun h' hc' hs=>?_)
  obtain ⟨oc,hoc,a8g⟩:=id z
  refine h { s with heap:=h' } ⟨I.ok,I.os,I.bare,⟨fun b o e n hb hx=>?_,fun b o e n hb hx=>?_,I.base.free,fun b o e hx=>?_,I.base.tups,I.base.yo,I.base.zl⟩,⟨m,hn.sameBut hs (Ne.symm (S4 x c hc)),fun j y v' e1 e2 e3=>?_⟩,fun y c' e=>?_,I.free,I.qc,fun p hp=>?_,tracked ⟨oc,hoc,I.qc x c hc⟩ hs,by simpa using I.len⟩ ⟨c,hs,.inr hc⟩
  ·exact (hs.2 b (Nat.ne_of_lt (Nat.lt_of_lt_of_le (Heap.lt_size e) (I.ok.Xi x c hfn hc)))).trans (I.base.keep b o e n hb hx)
  ·obtain ⟨sl,e1⟩:=I.base.slot b o e n hb hx
   exact ⟨sl,(hs.2 b (Nat.ne_of_lt (Nat.lt_of_lt_of_le (Heap.lt_size e) (I.ok.Xi x c hfn hc)))).trans e1⟩
  ·obtain ⟨o',e1⟩:=I.base.there b o e hx
   exact ⟨o',(hs.2 b (Nat.ne_of_lt (Nat.lt_of_lt_of_le (Heap.lt_size e) (I.ok.Xi x c hfn hc)))).trans e1⟩
  ·by_cases hj:j=i
   ·subst hj
    rw [hi] at e1;cases e1
    rw [List.getElem?_set_self hiσ] at e2
    cases e2
    exact ⟨u,r,.inr ⟨.inl hk,c,hc,hc'⟩⟩
   ·rw [List.getElem?_set_ne (Ne.symm hj)] at e2
    obtain ⟨u',r',q⟩:=hl j y v' e1 e2 e3
    refine ⟨u',r',?_⟩
    rcases q with q | ⟨k,c',e,z'⟩
    ·exact .inl q
    ·refine .inr ⟨k,c',e,z'.sameBut hs ?_⟩
     rintro rfl
     exact hj (Bf hN e1 (I.ok.inj _ _ _ e hc ▸ hi))
  ·by_cases hcc:c'=c
   ·subst hcc;exact ⟨_,hc'⟩
   ·obtain ⟨w2,z2⟩:=I.cell y c' e
    exact ⟨w2,z2.sameBut hs hcc⟩
  ·obtain ⟨e,n,ne,nf,d⟩:=I.pin p hp
   refine ⟨(hs.2 p.1 ?_).trans e,n,ne,nf,d⟩
   intro q
   rw [q,hoc] at e
   have q':oc=p.2:=Option.some.inj e
   exact d w' (by rw [← q'];exact a8g)
theorem wO {M:Model} {A:Around} {E:Value→Shared→Prop} {i:Nat} {x:Str} {v:V} {u:Value} {Q:Unit→Shared→Prop} (I:Inv X pins σ H s) (hN:X.N.Nodup) (hi:X.N[i]?=some x) (hx:Loc X.env.scope x) (r:RelV v u)
  (h:∀ s',Inv X pins (σ.set i (some v)) H s'→Q () s') (hf:X.fn x=true∨X.env.scope.names.lookup x=some .local:=by first | exact .inl rfl | exact .inr rfl | assumption):wpAny M A (storeName X.env x u) Q E s :=
 yL I hN hi hx r (fun s' I' _=>h s' I') hf
theorem Inv.Xh {s':Shared} {ch:List Addr} (I:Inv X pins σ H s) (ho:s'.os=s.os) (u:Un (frs X.stack) ch H H' s.heap s'.heap) (hok:sH X.prog X.w H' s'.heap) (hg:AllBare s'.gens)
  (hch:∀ b∈ch,(b∈X.ex∨X.s₀.heap.objs.size≤b)∧b≠X.env.locals∧(∀ x c,X.env.cells.lookup x=some c→c≠b)∧∀ p∈X.pn++pins,p.1≠b):Inv X pins σ H' s':=by
 obtain ⟨h',g',d',t',o'⟩:=s'
 have e:o'=s.os:=ho
 subst e
 exact I.call (g':=g') (t':=t') (d':=d') u hok hg hch
end
abbrev XK:=Value→Option Addr→Hp→Prop
abbrev St:=List (Option V)
abbrev VK:=V→Hp→Prop
abbrev TE:=St→Hp→VK→Prop
abbrev TT:=St→Hp→(Bool→Hp→Prop)→Prop
abbrev TA:=St→Hp→(List V→Hp→Prop)→Prop
structure Ends where
 nx:St→Hp→Prop
 rt:VK
 bk:St→Hp→Prop:=fun _ _=>False
 ct:St→Hp→Prop:=fun _ _=>False
abbrev TS:=Ends→St→Hp→Prop
def EP (X:Cx) (pins:List (Addr×Obj)) (σ:St) (Q:VK) (u:Value) (s':Shared):Prop:=∃ v H',Inv X pins σ H' s'∧RelV v u∧Q v H'
def TP (X:Cx) (pins:List (Addr×Obj)) (σ:St) (Q:Bool→Hp→Prop) (b:Bool) (s':Shared):Prop:=∃ H',Inv X pins σ H' s'∧Q b H'
def AP (X:Cx) (pins:List (Addr×Obj)) (σ:St) (Q:List V→Hp→Prop) (us:List Value) (s':Shared):Prop:=∃ vs H',Inv X pins σ H' s'∧Vals vs us∧Q vs H'
def SP (X:Cx) (pins:List (Addr×Obj)) (D:Ends) (f:Flow) (s':Shared):Prop :=
 match f with
 | .next=>∃ σ' H',Inv X pins σ' H' s'∧D.nx σ' H'
 | .brk=>∃ σ' H',Inv X pins σ' H' s'∧D.bk σ' H'
 | .cont=>∃ σ' H',Inv X pins σ' H' s'∧D.ct σ' H'
 | .ret u=>∃ v σ' H',Inv X pins σ' H' s'∧RelV v u∧D.rt v H'
def PE (X:Cx) (e:Expr) (t:TE):Prop :=
 ∀ (pins:List (Addr×Obj)) (s:Shared) (σ:St) (H:Hp) (Q:VK),Inv X pins σ H s→t σ H Q→wpAny (model X.prog X.w) X.A (eval e X.env) (EP X pins σ Q) X.xe s
def PT (X:Cx) (e:Expr) (t:TT):Prop :=
 ∀ (pins:List (Addr×Obj)) (s:Shared) (σ:St) (H:Hp) (Q:Bool→Hp→Prop),Inv X pins σ H s→t σ H Q→wpAny (model X.prog X.w) X.A (isTrue e X.env (eval e X.env)) (TP X pins σ Q) X.xe s
def PW (X:Cx) (e:Expr) (t:TT):Prop :=
 ∀ (whole:Sem Value) (pins:List (Addr×Obj)) (s:Shared) (σ:St) (H:Hp) (Q:Bool→Hp→Prop),Inv X pins σ H s→t σ H Q→wpAny (model X.prog X.w) X.A (isTrue e X.env whole) (TP X pins σ Q) X.xe s
theorem PW.pt {X:Cx} {e:Expr} {t:TT} (h:PW X e t):PT X e t:=h _
def PA (X:Cx) (es:List Expr) (t:TA):Prop :=
 ∀ (pos:Pos) (pins:List (Addr×Obj)) (s:Shared) (σ:St) (H:Hp) (Q:List V→Hp→Prop),Inv X pins σ H s→t σ H Q→wpAny (model X.prog X.w) X.A (spliced (backTo pos (starEach es X.env))) (AP X pins σ Q) X.xe s
def PS (X:Cx) (st:Stmt) (t:TS):Prop :=
 ∀ (pins:List (Addr×Obj)) (s:Shared) (σ:St) (H:Hp) (D:Ends),Inv X pins σ H s→t D σ H→wpAny (model X.prog X.w) X.A (exec st X.env) (SP X pins D) X.xe s
def IA (X:Cx) (st:List Stmt) (t:TS):Prop :=
 ∀ (pins:List (Addr×Obj)) (s:Shared) (σ:St) (H:Hp) (D:Ends),Inv X pins σ H s→t D σ H→wpAny (model X.prog X.w) X.A (execs st X.env) (SP X pins D) X.xe s
theorem gZ {α:Type} {t:Sem α} {Q Q':α→Shared→Prop} {M:Model} {A:Around} {E:Value→Shared→Prop} {s:Shared} (h:wpAny M A t Q E s) (hQ:∀ a s,Q a s→Q' a s):wpAny M A t Q' E s:=wpAny_mono h hQ fun _ _ x=>x
end L2
namespace L2
open PySem PySem.Spec PyProof.Rows
section
variable {X:Cx}
def QT (i:Nat):TE:=fun σ H Q=>∃ v,σ[i]?=some (some v)∧Q v H
def tC (v:V):TE:=fun _ H Q=>Q v H
theorem Rf {i:Nat} {x:Str} {pos:Pos} (hN:X.N[i]?=some x) (hv:ZT X.env.scope x) (hd:(x == ("__debug__":Str))=false:=by decide) (hcd:(x == ("__classdict__":Str))=false:=by decide):PE X (.Name x pos) (QT i):=by
 intro pins s σ H Q I h
 obtain ⟨v,e,h⟩:=h
 obtain ⟨m,hn,hl⟩:=I.loc
 obtain ⟨u,r,l⟩:=hl i x v hN e hv
 have fin:EP X pins σ Q u s:=⟨v,H,I,r,h⟩
 rcases l with ⟨hk,hm⟩ | ⟨hk,c,hc,hcell⟩
 ·exact wpAny_Name (wpAny_loadName_local I.ok.kind hk hn hm fin) hd
 ·rcases hk with hk | hk
  ·exact wpAny_Name (wpAny_loadName_cell I.ok.kind hk hc hcell fin) hd
  ·exact wpAny_Name (wpAny_loadName_free I.ok.kind hk hc hcell fin hcd) hd
theorem aj {i j pos}:PE X (.Constant (.int i) j pos) (tC (.int i)):=fun _ _ _ H _ I h=>wpAny_Constant_int ⟨.int i,H,I.tok _,⟨_,rfl⟩,h⟩
theorem ng {b j pos}:PE X (.Constant (.bool b) j pos) (tC (.bl b)):=fun _ _ _ H _ I h=>Constant_bool ⟨.bl b,H,I,rfl,h⟩
theorem j9 {j pos}:PE X (.Constant .none j pos) (tC .eT):=fun _ _ _ H _ I h=>Constant_none ⟨.eT,H,I,rfl,h⟩
theorem aY {x j pos}:PE X (.Constant (.str x) j pos) (tC (.str x)):=fun _ _ _ H _ I h=>Calls.Constant_str ⟨.str x,H,I.tok _,⟨_,rfl⟩,h⟩
def Gl (X:Cx) (x:Str):Prop:=X.env.kindOf x=some .globalImplicit
theorem tN {E:Value→Shared→Prop} {pins:List (Addr×Obj)} {s:Shared} {σ:St} {H:Hp} {x:Str} {u:Value} {pos:Pos} {Q:Value→Shared→Prop} (I:Inv X pins σ H s) (hg:Gl X x) (hm:X.mg x=some u) (h:Q u s)
  (hd:(x == ("__debug__":Str))=false:=by decide):wpAny (model X.prog X.w) X.A (eval (.Name x pos) X.env) Q E s :=
 Calls.Name_function_global I.ok.kind hg (Calls.loadGlobal_global (by rw [I.ok.glob];exact I.mod.glob.keeps I.bk) hm h) hd
theorem Aa {E:Value→Shared→Prop} {pins:List (Addr×Obj)} {s:Shared} {σ:St} {H:Hp} {x:Str} {u:Value} {pos:Pos} {Q:Value→Shared→Prop} (I:Inv X pins σ H s) (hg:Gl X x) (hm:X.mg x=none) (hv:bootBuiltins x=some u) (h:Q u s)
  (hn:x≠"__name__":=by decide) (hd:(x == ("__debug__":Str))=false:=by decide):wpAny (model X.prog X.w) X.A (eval (.Name x pos) X.env) Q E s:=by
 obtain ⟨mb,h1,h2⟩:=I.mod.blt
 exact Calls.Name_function_global I.ok.kind hg (Calls.loadGlobal_builtin (by rw [I.ok.glob];exact I.mod.glob.keeps I.bk) hm (by rw [I.ok.blt];exact h1.keeps I.bk) ((h2 x hn).trans hv) h) hd
theorem kJ {x:Str} {v:V} {u:Value} {pos:Pos} (hg:Gl X x) (hm:X.mg x=some u) (r:RelV v u) (hd:(x == ("__debug__":Str))=false:=by decide):PE X (.Name x pos) (tC v) :=
 fun _ _ _ H _ I h=>tN I hg hm ⟨v,H,I,r,h⟩ hd
theorem wz {x:Str} {v:V} {u:Value} {pos:Pos} (hg:Gl X x) (hm:X.mg x=none) (hv:bootBuiltins x=some u) (r:RelV v u) (hn:x≠"__name__":=by decide) (hd:(x == ("__debug__":Str))=false:=by decide):PE X (.Name x pos) (tC v) :=
 fun _ _ _ H _ I h=>Aa I hg hm hv ⟨v,H,I,r,h⟩ hn hd
variable {a b:Expr} {ta tb:TE} {pos:Pos}
def tB (t:TE):TT:=fun σ H Q=>t σ H fun x H1=>∃ c,x=.bl c∧Q c H1
theorem qZ {e:Expr} {t:TE} (h:PE X e t) (he:∀ whole,isTrue e X.env whole=(do let v ← whole;standAt e.pos;holding [v] (truthy v)):=by intro _;rfl):PT X e (tB t):=by
 intro pins s σ H Q I hw
 refine isTrue_plain (gZ (h pins s σ H _ I hw) fun v s1 ⟨x,H1,I1,r1,q1⟩=>?_) (he _)
 obtain ⟨d,rfl,q⟩:=q1
 cases r1
 exact wpAny_truthy_bool ⟨H1,I1,q⟩
variable {tA X3:TT} {rest:List Expr}
def a0k (t u:TT):TT:=fun σ H Q=>t σ H fun c H1=>if c=true then u σ H1 Q else Q false H1
def tOr (t u:TT):TT:=fun σ H Q=>t σ H fun c H1=>if c=true then Q true H1 else u σ H1 Q
def a0e (t:TT):TT:=fun σ H Q=>t σ H fun c H1=>Q (!c) H1
theorem jH (ha:PT X a tA):PW X (.BoolOp .And [a] pos) tA:=by
 intro wh pins s σ H Q I h
 refine isTrue_and (gZ (ha pins s σ H Q I h) fun c s1 e=>?_)
 cases c with
 | true=>exact isTrue_and_nil e
 | false=>exact e
theorem mj (ha:PT X a tA):PW X (.BoolOp .Or [a] pos) tA:=by
 intro wh pins s σ H Q I h
 refine isTrue_or (gZ (ha pins s σ H Q I h) fun c s1 e=>?_)
 cases c with
 | false=>exact isTrue_or_nil e
 | true=>exact e
theorem lA (ha:PT X a tA) (hb:PW X (.BoolOp .And (b::rest) pos) X3):PW X (.BoolOp .And (a::b::rest) pos) (a0k tA X3):=by
 intro wh pins s σ H Q I h
 refine isTrue_and (gZ (ha pins s σ H _ I h) fun c s1 ⟨H1,I1,q1⟩=>?_)
 cases c with
 | true=>exact hb wh pins s1 σ H1 Q I1 q1
 | false=>exact ⟨H1,I1,q1⟩
theorem oV (ha:PT X a tA) (hb:PW X (.BoolOp .Or (b::rest) pos) X3):PW X (.BoolOp .Or (a::b::rest) pos) (tOr tA X3):=by
 intro wh pins s σ H Q I h
 refine isTrue_or (gZ (ha pins s σ H _ I h) fun c s1 ⟨H1,I1,q1⟩=>?_)
 cases c with
 | true=>exact ⟨H1,I1,q1⟩
 | false=>exact hb wh pins s1 σ H1 Q I1 q1
theorem uF (ha:PT X a tA):PT X (.UnaryOp .Not a pos) (a0e tA):=by
 intro pins s σ H Q I h
 exact isTrue_not (ha pins s σ H (fun c H1=>Q (!c) H1) I h)
def Uy (ta tb:TE):TE:=fun σ H Q=>ta σ H fun x H1=>∃ c,x=.bl c∧if c=true then tb σ H1 Q else Q (.bl false) H1
theorem pR {op} {t:TE} (h:PE X a t):PE X (.BoolOp op [a] pos) t:=fun pins s σ H Q I hw=>BoolOp_one (h pins s σ H Q I hw)
theorem pS (ha:PE X a ta) (hb:PE X (.BoolOp .And (b::rest) pos) tb):PE X (.BoolOp .And (a::b::rest) pos) (Uy ta tb):=by
 intro pins s σ H Q I h
 refine BoolOp_and (gZ (ha pins s σ H _ I h) fun v s1 ⟨x,H1,I1,r1,q1⟩=>?_)
 obtain ⟨c,rfl,q1⟩:=q1
 cases r1
 refine wpAny_truthy_bool ?_
 cases c with
 | true=>exact hb pins s1 σ H1 Q I1 q1
 | false=>exact ⟨.bl false,H1,I1,rfl,q1⟩
end
end L2
namespace L2
open PySem PySem.Spec PyProof.Rows
def ck (K:PySem.W.Frag) (H:Hp) (a:Addr) (xs:List V):Prop :=
 Rd H a (.lst xs) ∨
  ∃ (o:Obj) (its:Array Value) (n:Nat),K.lookup a=some o∧o.cls=.type "list"∧o.dict=none∧o.data=.seq its n∧its.size≤sizeLine∧Vals xs its.toList
def aV (K:PySem.W.Frag) (H:Hp) (a:Addr) (xs:List V):Prop :=
 Rd H a (.tup xs) ∨
  ∃ (o:Obj) (its:Array Value) (n:Nat),K.lookup a=some o∧o.cls=.type "tuple"∧o.data=.seq its n∧its.size≤sizeLine∧Vals xs its.toList
def b3l:Value→Option V
 | .none=>some .eT
 | .bool b=>some (.bl b)
 | .int i _=>some (.int i)
 | .str x _=>some (.str x)
 | .bytes b _=>some (.IV b)
 | .float b _=>some (.Sz b)
 | .ref a=>some (.ref a)
 | .type n=>some (.ty n)
 | _=>none
theorem RelV.abs {x:V} {u:Value} (r:RelV x u):b3l u=some x:=by
 cases x with
 | eT=>cases r;rfl
 | bl _=>cases r;rfl
 | int _=>obtain ⟨t,rfl⟩:=r;rfl
 | str _=>obtain ⟨t,rfl⟩:=r;rfl
 | IV _=>obtain ⟨t,rfl⟩:=r;rfl
 | Sz _=>obtain ⟨t,rfl⟩:=r;rfl
 | ref _=>cases r;rfl
 | ty _=>cases r;rfl
theorem RelV.inj {x y:V} {u:Value} (r:RelV x u) (q:RelV y u):x=y:=Option.some.inj (r.abs.symm.trans q.abs)
theorem Vals.inj:∀ {xs ys:List V} {us:List Value},Vals xs us→Vals ys us→xs=ys
 | _,_,_,.nil,.nil=>rfl
 | _,_,_,.cons r t,.cons r' t'=>by rw [r.inj r',Vals.inj t t']
section
variable {X:Cx} {pins:List (Addr×Obj)} {σ:St} {H:Hp} {s:Shared} {a:Addr} {xs ys:List V}
theorem ck.of {K:PySem.W.Frag} (h:H a=some (.lst xs)):ck K H a xs:=.inl (.inl h)
theorem aV.of {K:PySem.W.Frag} (h:H a=some (.tup xs)):aV K H a xs:=.inl (.inl h)
theorem Inv.list (I:Inv X pins σ H s) (h:ck X.K H a xs):∃ its:List Value,Vals xs its∧PlainL s.heap a its.toArray∧xs.length≤sizeLine:=by
 rcases h with h | ⟨o,its,n,hk,hc,hd,hs,hz,r⟩
 ·obtain ⟨z,its,n,r,e⟩:=h.ok I.hok
  exact ⟨its,r,⟨_,n,e,rfl,rfl,rfl⟩,z⟩
 ·refine ⟨its.toList,r,⟨o,n,I.qJ a o hk,hc,hd,by simpa using hs⟩,?_⟩
  have e:=r.length
  simp only [Array.length_toList] at e
  omega
theorem Inv.tuple (I:Inv X pins σ H s) (h:aV X.K H a xs):∃ its:List Value,Vals xs its∧IsTup s.heap a its.toArray∧xs.length≤sizeLine:=by
 rcases h with h | ⟨o,its,n,hk,hc,hs,hz,r⟩
 ·obtain ⟨z,its,r,p⟩:=h.ok I.hok
  exact ⟨its,r,p,z⟩
 ·refine ⟨its.toList,r,⟨o,I.qJ a o hk,hc,n,by simpa using hs⟩,?_⟩
  have e:=r.length
  simp only [Array.length_toList] at e
  omega
theorem Inv.LO (I:Inv X pins σ H s) (h:ck X.K H a xs) (h':ck X.K H a ys):xs=ys:=by
 obtain ⟨its,r,⟨o,n,e,_,_,d⟩,_⟩:=I.list h
 obtain ⟨its',r',⟨o',n',e',_,_,d'⟩,_⟩:=I.list h'
 rw [e] at e';cases e'
 rw [d] at d'
 injection d' with d1 _
 have:its=its':=by simpa using congrArg Array.toList d1
 subst this
 exact r.inj r'
theorem Inv.Ho (I:Inv X pins σ H s) (h:aV X.K H a xs) (h':aV X.K H a ys):xs=ys:=by
 obtain ⟨its,r,⟨o,e,_,n,d⟩,_⟩:=I.tuple h
 obtain ⟨its',r',⟨o',e',_,n',d'⟩,_⟩:=I.tuple h'
 rw [e] at e';cases e'
 rw [d] at d'
 injection d' with d1 _
 have:its=its':=by simpa using congrArg Array.toList d1
 subst this
 exact r.inj r'
end
abbrev Cx.yc (X:Cx) (E:Value→Shared→Prop):Cx:={ X with xe:=E }
abbrev Cx.uH (X:Cx):Cx:=X.yc fun _ _=>False
theorem Cx.Ok.yc {X:Cx} (ok:X.Ok) (E:Value→Shared→Prop):(X.yc E).Ok :=
 ⟨ok.mod,ok.kind,ok.glob,ok.blt,ok.above,ok.inj,ok.has,ok.Xi,ok.hd,ok.frames,ok.stk,ok.ZJ,ok.bs,ok.O5,ok.Lo,ok.MV,ok.vZ,ok.Sx⟩
theorem Cx.Ok.oZ {X:Cx} {E:Value→Shared→Prop} (ok:(X.yc E).Ok):X.Ok :=
 ⟨ok.mod,ok.kind,ok.glob,ok.blt,ok.above,ok.inj,ok.has,ok.Xi,ok.hd,ok.frames,ok.stk,ok.ZJ,ok.bs,ok.O5,ok.Lo,ok.MV,ok.vZ,ok.Sx⟩
section
variable {X:Cx} {pins:List (Addr×Obj)} {σ:St} {H:Hp} {s:Shared} {E:Value→Shared→Prop}
theorem Inv.yc (I:Inv X pins σ H s) (E:Value→Shared→Prop):Inv (X.yc E) pins σ H s:=⟨I.ok.yc E,I.os,I.bare,I.base,I.loc,I.cell,I.free,I.qc,I.pin,I.hok,I.len⟩
theorem Inv.oZ (I:Inv (X.yc E) pins σ H s):Inv X pins σ H s:=⟨I.ok.oZ,I.os,I.bare,I.base,I.loc,I.cell,I.free,I.qc,I.pin,I.hok,I.len⟩
theorem SP.oZ {D:Ends} {f:Flow} {s':Shared} (h:SP (X.yc E) pins D f s'):SP X pins D f s':=by
 cases f with
 | next=>obtain ⟨σ',H',I,q⟩:=h;exact ⟨σ',H',I.oZ,q⟩
 | brk=>obtain ⟨σ',H',I,q⟩:=h;exact ⟨σ',H',I.oZ,q⟩
 | cont=>obtain ⟨σ',H',I,q⟩:=h;exact ⟨σ',H',I.oZ,q⟩
 | ret u=>obtain ⟨v,σ',H',I,r,q⟩:=h;exact ⟨v,σ',H',I.oZ,r,q⟩
theorem IA.uH {st:List Stmt} {t:TS} (h:IA X.uH st t):IA X st t:=fun pins s σ H D I hw =>
 wpAny_mono (h pins s σ H D (I.yc _) hw) (fun _ _ q=>q.oZ) fun _ _ z=>False.elim z
end
section
variable {X:Cx} {st:Stmt} {rest:List Stmt} {t u:TS} {e:Expr} {te:TE} {pos:Pos}
def Ur:TS:=fun D σ H=>D.nx σ H
def a0c (t u:TS):TS:=fun D σ H=>t { D with nx:=u D } σ H
theorem bx:IA X [] Ur:=fun _ _ σ H _ I h=>wpAny_execs_nil ⟨σ,H,I,h⟩
theorem ai (h1:PS X st t) (h2:IA X rest u):IA X (st::rest) (a0c t u):=by
 intro pins s σ H D I h
 refine wpAny_execs_cons (gZ (h1 pins s σ H { D with nx:=u D } I h) fun f s1 q=>?_)
 cases f with
 | next =>
  obtain ⟨σ',H',I',q⟩:=q
  exact h2 pins s1 σ' H' D I' q
 | ret v=>exact q
 | brk=>exact q
 | cont=>exact q
theorem ay (h1:PS X st t):IA X [st] t:=by
 intro pins s σ H D I h
 refine wpAny_execs_cons (gZ (h1 pins s σ H D I h) fun f s1 q=>?_)
 cases f with
 | next=>exact wpAny_execs_nil q
 | ret v=>exact q
 | brk=>exact q
 | cont=>exact q
theorem Inv.quiet {pins:List (Addr×Obj)} {σ:St} {H:Hp} {s:Shared} (I:Inv X pins σ H s):interactive X.env=false:=by simp [interactive,I.ok.kind]
def Uu (te:TE):TS:=fun D σ H=>te σ H fun _ H1=>D.nx σ H1
theorem gO (he:PE X e te) (hs:swapsWith e none pos.line X.env=pure false:=by rfl):PS X (.Expr e pos) (Uu te):=by
 intro pins s σ H D I h
 exact wpAny_Expr_any (gZ (he pins s σ H _ I h) fun v s1 ⟨x,H1,I1,r1,q1⟩=>⟨σ,H1,I1,q1⟩) I.quiet hs
def a0d (te:TE):TS:=fun D σ H=>te σ H D.rt
theorem aJ (he:PE X e te):PS X (.Return (some e) pos) (a0d te):=by
 intro pins s σ H D I h
 exact wpAny_Return_some (gZ (he pins s σ H _ I h) fun v s1 ⟨x,H1,I1,r1,q1⟩=>⟨x,σ,H1,I1,r1,q1⟩)
def a0f (c:TT) (t u:TS):TS:=fun D σ H=>c σ H fun b H1=>if b=true then t D σ H1 else u D σ H1
theorem cO {c:Expr} {a b:List Stmt} {tc:TT} (hc:PT X c tc) (ha:IA X a t) (hb:IA X b u):PS X (.If c a b pos) (a0f tc t u):=by
 intro pins s σ H D I h
 refine wpAny_If (gZ (hc pins s σ H _ I h) fun d s1 ⟨H1,I1,q1⟩=>?_)
 cases d with
 | true=>exact ha pins s1 σ H1 D I1 q1
 | false=>exact hb pins s1 σ H1 D I1 q1
end
abbrev TG:=V→St→Hp→(St→Hp→Prop)→Prop
abbrev Qv:=List V→St→Hp→(St→Hp→Prop)→Prop
def PG (X:Cx) (target:Expr) (t:TG):Prop :=
 ∀ (pins:List (Addr×Obj)) (s:Shared) (σ:St) (H:Hp) (v:V) (u:Value) (Q:St→Hp→Prop),Inv X pins σ H s→RelV v u→t v σ H Q →
  wpAny (model X.prog X.w) X.A (assign target X.env u) (fun _ s'=>∃ σ' H',Inv X pins σ' H' s'∧Q σ' H') X.xe s
def Xr (X:Cx) (ts:List Expr) (t:Qv):Prop :=
 ∀ (pins:List (Addr×Obj)) (s:Shared) (σ:St) (H:Hp) (vs:List V) (us:List Value) (Q:St→Hp→Prop),Inv X pins σ H s→Vals vs us→t vs σ H Q →
  wpAny (model X.prog X.w) X.A (assignInOrder ((assignEach ts X.env).map (·.2)) us) (fun _ s'=>∃ σ' H',Inv X pins σ' H' s'∧Q σ' H') X.xe s
abbrev Ny:=V→V→V→Hp→(Hp→Prop)→Prop
def Th (X:Cx) (t:Ny):Prop :=
 ∀ (pins:List (Addr×Obj)) (s:Shared) (σ:St) (H:Hp) (o i v:V) (ov iv u:Value) (Q:Hp→Prop),Inv X pins σ H s→RelV o ov→RelV i iv→RelV v u→t o i v H Q →
  wpAny (model X.prog X.w) X.A (setItem ov iv u) (fun _ s'=>∃ H',Inv X pins σ H' s'∧Q H') X.xe s
abbrev Ud:=V→V→Hp→VK→Prop
def PIp (X:Cx) (op:Operator) (t:Ud):Prop :=
 ∀ (pins:List (Addr×Obj)) (s:Shared) (σ:St) (H:Hp) (x y:V) (v u:Value) (Q:VK),Inv X pins σ H s→RelV x v→RelV y u→t x y H Q →
  wpAny (model X.prog X.w) X.A (inplaceOp op v u) (EP X pins σ Q) X.xe s
section
variable {X:Cx} {pos:Pos}
def yW (i:Nat):TG:=fun v σ H Q=>Q (σ.set i (some v)) H
theorem aN {i:Nat} {x:Str} (hN:X.N.Nodup) (hi:X.N[i]?=some x) (hx:Loc X.env.scope x) (hf:X.fn x=true∨X.env.scope.names.lookup x=some .local:=by first | exact .inl rfl | exact .inr rfl | assumption):PG X (.Name x pos) (yW i):=by
 intro pins s σ H v u Q I r h
 exact wpAny_assign_Name (wO I hN hi hx r (fun s' I'=>⟨_,H,I',h⟩) hf)
def a8z:Qv:=fun vs σ H Q=>vs=[]∧Q σ H
def Vs (t:TG) (u:Qv):Qv:=fun vs σ H Q=>∃ v r,vs=v::r∧t v σ H fun σ' H'=>u r σ' H' Q
theorem kI:Xr X [] a8z:=by
 intro pins s σ H vs us Q I r h
 obtain ⟨e,h⟩:=h
 subst e
 cases r
 exact assignInOrder_nil ⟨σ,H,I,h⟩
theorem cC {e:Expr} {es:List Expr} {t:TG} {u:Qv} (h1:PG X e t) (h2:Xr X es u)
  (hs:(assignEach (e::es) X.env).map (·.2)=assign e X.env::(assignEach es X.env).map (·.2):=by rfl):Xr X (e::es) (Vs t u):=by
 intro pins s σ H vs us Q I r h
 obtain ⟨v,vr,e1,h⟩:=h
 subst e1
 cases r with
 | cons r rr =>
  rw [hs]
  refine assignInOrder_cons (gZ (h1 pins s σ H _ _ _ I r h) fun _ s1 ⟨σ1,H1,I1,q1⟩=>?_)
  exact h2 pins s1 σ1 H1 _ _ Q I1 rr q1
def Vr (K:PySem.W.Frag) (n:Nat) (t:Qv):TG:=fun v σ H Q=>∃ a xs,v=.ref a∧aV K H a xs∧xs.length=n∧t xs σ H Q
theorem uG {es:List Expr} {k:Nat} {t:Qv} {n:Nat} (hc:X.calm=true) (h:Xr X es t)
  (hn:(assignEach es X.env).length=n:=by rfl) (hst:(assignEach es X.env).findIdx? (·.1)=none:=by rfl):PG X (.Tuple es k pos) (Vr X.K n t):=by
 intro pins s σ H v u Q I r hw
 obtain ⟨a,xs,e1,hq,hl,hw⟩:=hw
 subst e1
 cases r
 obtain ⟨its,rv,ht,hz⟩:=I.tuple hq
 refine assign_Tuple_tuple (I.ok.hd hc) ht (by simp [hn,← hl,rv.length]) hst fun h' hx=>?_
 have I1:Inv X pins σ H { s with heap:=h' }:=I.kept (t':=s.toks) fun b o e=>hx b o (Nat.ne_of_lt (Heap.lt_size e)) e
 exact h pins _ σ H xs _ Q I1 (by simpa using rv) hw
def a8y (to ti:TE) (t:Ny):TG:=fun v σ H Q=>to σ H fun o H1=>ti σ H1 fun i H2=>t o i v H2 fun H3=>Q σ H3
theorem Rc {o i:Expr} {to ti:TE} {t:Ny} (ho:PE X o to) (hi:PE X i ti) (hs:Th X t)
  (ha:∀ v,assign (.Subscript o i pos) X.env v=(do
   let ov ← holding [v] (eval o X.env)
   let iv ← holding [v,ov] (eval i X.env)
   standAt pos
   holding [v,ov,iv] (setItem ov iv v)
   release [v,ov,iv] []):=by intro _;rfl):PG X (.Subscript o i pos) (a8y to ti t):=by
 intro pins s σ H v u Q I r h
 rw [ha]
 refine wpAny_bind (wpAny_holding (gZ (ho pins s σ H _ I h) fun ov s1 ⟨x,H1,I1,r1,q1⟩=>?_))
 refine wpAny_bind (wpAny_holding (gZ (hi pins s1 σ H1 _ I1 q1) fun iv s2 ⟨y,H2,I2,r2,q2⟩=>?_))
 refine wpAny_bind (wpAny_standAt (wpAny_bind (wpAny_holding (gZ (hs pins s2 σ H2 x y v ov iv u _ I2 r1 r2 r q2) fun _ s3 ⟨H3,I3,q3⟩=>?_))))
 exact wpAny_release ⟨σ,H3,I3,q3⟩
def QW (te:TE) (g:TG):TS:=fun D σ H=>te σ H fun x H1=>g x σ H1 D.nx
theorem xr {tg e:Expr} {te:TE} {g:TG} (he:PE X e te) (hg:PG X tg g) (hs:swapsWithSole [tg] e pos.line X.env=pure false:=by rfl) (hw:swappedStores [tg] e X.env=pure none:=by rfl)
  (h1:(assignEach [tg] X.env).map (·.2)=[assign tg X.env]:=by rfl):PS X (.Assign [tg] e pos) (QW te g):=by
 intro pins s σ H D I h
 refine wpAny_Assign_stores (gZ (he pins s σ H _ I h) fun v s1 ⟨x,H1,I1,r1,q1⟩=>?_) hs hw
 rw [h1]
 exact gZ (hg pins s1 σ H1 x v _ I1 r1 q1) fun _ s2 q=>q
theorem aR {i:Nat} {x:Str} {e:Expr} {te:TE} {pos':Pos} (hN:X.N.Nodup) (hi:X.N[i]?=some x) (hx:Loc X.env.scope x) (he:PE X e te) (hs:swapsWith e (some (.Name x pos')) pos.line X.env=pure false:=by rfl) (hf:X.fn x=true∨X.env.scope.names.lookup x=some .local:=by first | exact .inl rfl | exact .inr rfl | assumption) :
  PS X (.Assign [.Name x pos'] e pos) (QW te (yW i)):=by
 intro pins s σ H D I h
 refine wpAny_Assign_Name (gZ (he pins s σ H _ I h) fun v s1 ⟨y,H1,I1,r1,q1⟩=>?_) hs
 exact wO I1 hN hi hx r1 (fun s2 I2=>⟨_,H1,I2,q1⟩) hf
def a0j (i:Nat) (te:TE) (ti:Ud):TS:=fun D σ H=>∃ x,σ[i]?=some (some x)∧te σ H fun y H1=>ti x y H1 fun z H2=>D.nx (σ.set i (some z)) H2
theorem Ra {i:Nat} {x:Str} {e:Expr} {te:TE} {op:Operator} {ti:Ud} {pos':Pos} (hN:X.N.Nodup) (hi:X.N[i]?=some x) (hx:Loc X.env.scope x) (he:PE X e te) (ho:PIp X op ti) (hf:X.fn x=true∨X.env.scope.names.lookup x=some .local:=by first | exact .inl rfl | exact .inr rfl | assumption) :
  PS X (.AugAssign (.Name x pos') op e pos) (a0j i te ti):=by
 intro pins s σ H D I h
 obtain ⟨v,e1,h⟩:=h
 obtain ⟨m,hn,hl⟩:=I.loc
 have vis:ZT X.env.scope x:=by rcases hx with k | k;exact .inl k;exact .inr (.inl k)
 obtain ⟨u,r,l⟩:=hl i x v hi e1 vis
 refine wpAny_AugAssign_Name ?_
 have go:wpAny (model X.prog X.w) X.A (eval e X.env) (fun w s₂=>wpAny (model X.prog X.w) X.A (inplaceOp op u w) (fun r s₃=>wpAny (model X.prog X.w) X.A (storeName X.env x r) (fun _=>SP X pins D .next) X.xe s₃) X.xe s₂) X.xe s:=by
  refine gZ (he pins s σ H _ I h) fun w s1 ⟨y,H1,I1,r1,q1⟩=>?_
  refine gZ (ho pins s1 σ H1 v y u w _ I1 r r1 q1) fun z s2 ⟨zv,H2,I2,r2,q2⟩=>?_
  exact wO I2 hN hi hx r2 (fun s3 I3=>⟨_,H2,I3,q2⟩) hf
 rcases l with ⟨hk,hm⟩ | ⟨hk,c,hc,hcell⟩
 ·exact wpAny_loadName_local I.ok.kind hk hn hm go
 ·rcases hk with hk | hk
  ·exact wpAny_loadName_cell I.ok.kind hk hc hcell go
  ·rcases hx with k | k
   ·have:X.env.scope.names.lookup x=some .free:=hk
    rw [k] at this;cases this
   ·have:X.env.scope.names.lookup x=some .free:=hk
    rw [k] at this;cases this
def Ux (to ti te:TE) (N6:V→V→Hp→VK→Prop) (XZ:Ud) (N4:Ny):TS:=fun D σ H=>to σ H fun o H1=>ti σ H1 fun i H2=>N6 o i H2 fun x H3=>te σ H3 fun y H4=>XZ x y H4 fun z H5=>N4 o i z H5 fun H6=>D.nx σ H6
def Xs (X:Cx) (t:V→V→Hp→VK→Prop):Prop :=
 ∀ (pins:List (Addr×Obj)) (s:Shared) (σ:St) (H:Hp) (o i:V) (ov iv:Value) (Q:VK),Inv X pins σ H s→RelV o ov→RelV i iv→t o i H Q →
  wpAny (model X.prog X.w) X.A (getItem ov iv) (EP X pins σ Q) X.xe s
theorem Og {o i e:Expr} {to ti te:TE} {N6:V→V→Hp→VK→Prop} {XZ:Ud} {N4:Ny} {op:Operator} {tpos:Pos} (ho:PE X o to) (hi:PE X i ti) (hg:Xs X N6) (he:PE X e te) (hp:PIp X op XZ) (hs:Th X N4)
  (ha:∀ ov iv new,augStore i ov iv new=(do holding [new,ov,iv] (setItem ov iv new);release [new,ov,iv] [];pure .next):=by intros;rfl):PS X (.AugAssign (.Subscript o i tpos) op e pos) (Ux to ti te N6 XZ N4):=by
 intro pins s σ H D I h
 refine wpAny_AugAssign_SubscriptAny (gZ (ho pins s σ H _ I h) fun ov s1 ⟨x1,H1,I1,r1,q1⟩=>?_) ha
 refine gZ (hi pins s1 σ H1 _ I1 q1) fun iv s2 ⟨x2,H2,I2,r2,q2⟩=>?_
 refine gZ (hg pins s2 σ H2 x1 x2 ov iv _ I2 r1 r2 q2) fun old s3 ⟨x3,H3,I3,r3,q3⟩=>?_
 refine gZ (he pins s3 σ H3 _ I3 q3) fun v s4 ⟨x4,H4,I4,r4,q4⟩=>?_
 refine gZ (hp pins s4 σ H4 x3 x4 old v _ I4 r3 r4 q4) fun new s5 ⟨x5,H5,I5,r5,q5⟩=>?_
 exact gZ (hs pins s5 σ H5 x1 x2 x5 ov iv new _ I5 r1 r2 r5 q5) fun _ s6 ⟨H6,I6,q6⟩=>⟨σ,H6,I6,q6⟩
def ipI (f:Int→Int→Int):Ud:=fun x y H Q=>∃ i j,x=.int i∧y=.int j∧Q (.int (f i j)) H
theorem Ms:PIp X .Add (ipI fun i j=>i+j):=by
 intro pins s σ H x y v u Q I r1 r2 h
 obtain ⟨i,j,e1,e2,q⟩:=h
 subst e1;subst e2
 obtain ⟨t,rfl⟩:=r1
 obtain ⟨t',rfl⟩:=r2
 exact iadd_int ⟨.int _,H,I.tok _,⟨_,rfl⟩,q⟩
end
section
variable {X:Cx} {pos:Pos}
def Jv (c:TT) (tb:TS):TS:=fun D σ H=>∃ W:Nat→St→Hp→Prop,(∃ m,W m σ H)∧∀ m σ H,W m σ H →
 c σ H fun b H1=>if b=true then ∃ N:St→Hp→Prop,(∀ σ' H',N σ' H'→∃ m',m' < m∧W m' σ' H')∧tb { D with nx:=N,ct:=N,bk:=D.nx } σ H1 else D.nx σ H1
theorem JX {c:Expr} {body:List Stmt} {tc:TT} {tb:TS} (hp:PassesOwn (model X.prog X.w) X.A X.env X.xe) (hc:PT X c tc) (hb:IA X body tb):PS X (.While c body [] pos) (Jv tc tb):=by
 intro pins s σ H D I h
 obtain ⟨W,⟨m0,w0⟩,turn⟩:=h
 refine wpAny_While (codeAny_whileLoop (fun n s'=>∃ σ' H',Inv X pins σ' H' s'∧W n σ' H') ?_ m0 ⟨σ,H,I,w0⟩)
 rintro n s1 ⟨σ1,H1,I1,w1⟩
 refine wpAny_passesOwn hp (gZ (hc pins s1 σ1 H1 _ I1 (turn n σ1 H1 w1)) fun b s2 ⟨H2,I2,q2⟩=>?_)
 cases b with
 | true =>
  obtain ⟨N,hN,q2⟩:=q2
  rw [if_pos rfl]
  refine wpAny_passesOwn hp (gZ (hb pins s2 σ1 H2 _ I2 q2) fun f s3 q3=>?_)
  cases f with
  | next =>
   obtain ⟨σ3,H3,I3,n3⟩:=q3
   obtain ⟨m',hm,w3⟩:=hN σ3 H3 n3
   exact ⟨m',hm,σ3,H3,I3,w3⟩
  | cont =>
   obtain ⟨σ3,H3,I3,n3⟩:=q3
   obtain ⟨m',hm,w3⟩:=hN σ3 H3 n3
   exact ⟨m',hm,σ3,H3,I3,w3⟩
  | brk=>exact q3
  | ret v=>exact q3
 | false =>
  rw [if_neg Bool.false_ne_true]
  exact wpAny_execs_nil ⟨σ1,H2,I2,q2⟩
end
structure It where
 go:Nat→Hp→Prop
 QI:Nat→Hp→V→Hp→Prop
 stop:Nat→Hp→Prop
def v9 (X:Cx) (pins:List (Addr×Obj)) (H:Hp) (b:Addr):Prop :=
 H b=none∧b≠X.env.locals∧b ∉ X.fs∧(b∈X.ex∨X.s₀.heap.objs.size≤b)∧(∀ x c,X.env.cells.lookup x=some c→c≠b)∧∀ p∈X.pn++pins,p.1≠b
theorem Inv.MT {X:Cx} {pins:List (Addr×Obj)} {σ:St} {H H':Hp} {s:Shared} {b:Addr} (I:Inv X pins σ H s) (hb:s.heap.objs.size≤b) (hn:H' b=none):v9 X pins H' b:=by
 refine ⟨hn,Nat.ne_of_gt (Nat.lt_of_lt_of_le I.lt hb),I.UT hb,.inr (Nat.le_trans I.sz hb),fun x c e z=>?_,fun p hp z=>?_⟩
 ·obtain ⟨v,q⟩:=I.cell x c e
  exact absurd (Nat.lt_of_lt_of_le q.lt (by rw [z];exact hb)) (Nat.lt_irrefl _)
 ·exact absurd (Nat.lt_of_lt_of_le (Heap.lt_size (I.pin p hp).1) (by rw [z];exact hb)) (Nat.lt_irrefl _)
structure Turn (P:Program) (w:World) (K:PySem.W.Frag) (tg:Expr) (J:It) (fp:List Addr) (it:Addr) (tn:Nat→Heap→Prop):Prop where
 mem:it∈fp
 obj:∀ i h,tn i h→∀ b∈fp,∃ o,h.get? b=some o∧∀ v,o.data≠.cell v
 keep:∀ i h h',tn i h→(∀ b∈fp,∀ o,h.get? b=some o→h'.get? b=some o)→tn i h'
 item:∀ (X:Cx),X.prog=P→X.w=w→X.K=K→X.calm=true→∀ (i:Nat) (pins:List (Addr×Obj)) (s:Shared) (σ:St) (H:Hp) (E:Value→Shared→Prop),Inv X pins σ H s→(∀ b∈fp,v9 X pins H b)→tn i s.heap→J.go i H →
  wpAny (model P w) X.A (pyNext (.ref it)) (fun r s1=>∃ u,r=some u ∧
   wpAny (model P w) X.A (letOwnedTupleGo tg (.ref it) u) (fun _ s2=>∃ x H',Inv X pins σ H' s2∧RelV x u∧J.QI i H x H'∧tn (i+1) s2.heap∧∀ b∈fp,H' b=none) E s1) E s
 done:∀ (X:Cx),X.prog=P→X.w=w→X.K=K→X.calm=true→∀ (i:Nat) (pins:List (Addr×Obj)) (s:Shared) (σ:St) (H:Hp) (E:Value→Shared→Prop),Inv X pins σ H s→(∀ b∈fp,v9 X pins H b)→tn i s.heap→J.stop i H →
  wpAny (model P w) X.A (pyNext (.ref it)) (fun r s1=>r=none∧Inv X pins σ H s1) E s
 self:∀ (A:Around) (i:Nat) (s:Shared) (Q:Value→Shared→Prop) (E:Value→Shared→Prop),tn i s.heap→Q (.ref it) s→wpAny (model P w) A (pyIter (.ref it)) Q E s
abbrev TI:=St→Hp→(It→Hp→Prop)→Prop
def PIE (X:Cx) (pins:List (Addr×Obj)) (σ:St) (tg:Expr) (R:It→Hp→Prop) (itv:Value) (s2:Shared):Prop :=
 ∃ (it:Addr) (fp:List Addr) (tn:Nat→Heap→Prop) (J:It) (H':Hp),itv=.ref it∧Inv X pins σ H' s2∧Turn X.prog X.w X.K tg J fp it tn∧tn 0 s2.heap∧(∀ b∈fp,v9 X pins H' b)∧R J H'
def PI (X:Cx) (tg iter:Expr) (wi:TI):Prop :=
 ∀ (pins:List (Addr×Obj)) (s:Shared) (σ:St) (H:Hp) (R:It→Hp→Prop),Inv X pins σ H s→wi σ H R →
  wpAny (model X.prog X.w) X.A (eval iter X.env) (fun v s1=>wpAny (model X.prog X.w) X.A (pyIter v) (PIE X pins σ tg R) X.xe s1) X.xe s
theorem MP {M:Model} {A:Around} {E:Value→Shared→Prop} {s:Shared} {tg:Expr} {it:Addr} {u:Value} {o:Obj} {n:String} {vs:Array Value} {Q:Unit→Shared→Prop} (ho:s.heap.get? it=some o) (hc:o.cls=.type n) (hd:o.data=.fields vs)
  (hn:["enumerate","zip","dict_itemiterator","dict_reverseitemiterator","odict_iterator","itertools.zip_longest","itertools.pairwise"].contains n=false) (hQ:Q () s):wpAny M A (letOwnedTupleGo tg (.ref it) u) Q E s:=by
 unfold letOwnedTupleGo
 cases tg <;> first
  | exact wpAny_pure hQ
  | (cases u <;> first
    | exact wpAny_pure hQ
    | (
      refine wpAny_bind (wpAny_load ho ?_)
      rw [hc,hd]
      show wpAny M A (if (["enumerate","zip","dict_itemiterator","dict_reverseitemiterator","odict_iterator","itertools.zip_longest","itertools.pairwise"].contains n && vs[0]? == some (rawInt _))=true then _ else _) Q E s
      rw [if_neg (by intro h;rw [hn,Bool.false_and] at h;cases h)]
      exact wpAny_pure hQ))
def Pf (K:PySem.W.Frag) (a:Addr):It :=
 ⟨fun i H=>∃ xs x,ck K H a xs∧xs[i]?=some x,fun i H x H'=>H'=H∧∀ xs,ck K H a xs→xs[i]?=some x,fun i H=>∃ xs,ck K H a xs∧xs.length≤i⟩
def NZ (K:PySem.W.Frag) (a:Addr):It :=
 ⟨fun i H=>∃ xs x,aV K H a xs∧xs[i]?=some x,fun i H x H'=>H'=H∧∀ xs,aV K H a xs→xs[i]?=some x,fun i H=>∃ xs,aV K H a xs∧xs.length≤i⟩
def To (lo:Int) (n:Nat):It:=⟨fun i _=>i < n,fun i H x H'=>H'=H∧x=.int (lo+i),fun i _=>n≤i⟩
theorem yK {P:Program} {w:World} {K:PySem.W.Frag} {tg:Expr} (a it:Addr):Turn P w K tg (Pf K a) [it] it (fun i h=>h.IsListIter it a i) where
 mem:=by simp
 obj:=fun i h st b hb=>by
  have e:b=it:=by simpa using hb
  subst e
  obtain ⟨o,e,c,d⟩:=st
  exact ⟨o,e,fun v z=>by rw [d] at z;cases z⟩
 keep:=fun i h h' st k=>st.at fun o e=>k it (by simp) o e
 item:=by
  intro X hP hw hK hc i pins s σ H E I hf st hg
  subst hP hw hK
  obtain ⟨xs,x,hq,hx⟩:=hg
  obtain ⟨its,rv,p,hz⟩:=I.list hq
  obtain ⟨u,hu,ru⟩:=rv.get hx
  obtain ⟨f0,f1,f2,f3,f4,f5⟩:=hf it (by simp)
  refine wpAny_pyNext_list_item st p.isList (x:=u) (by simpa using hu) fun h' st' sb=>?_
  have I1:Inv X pins σ H { s with heap:=h' }:=I.turned (t':=s.toks) (fun b o hb e=>(sb.2 b hb).trans e) f0 f1 f3 f4 f5
  obtain ⟨o,e,c,d⟩:=id st'
  exact ⟨u,rfl,MP (s:={ s with heap:=h' }) e c d (by decide) ⟨x,H,I1,ru,⟨rfl,fun ys hy=>by rw [I.LO hy hq];exact hx⟩,st',fun b hb=>(hf b hb).1⟩⟩
 done:=by
  intro X hP hw hK hc i pins s σ H E I hf st hg
  subst hP hw hK
  obtain ⟨xs,hq,hx⟩:=hg
  obtain ⟨its,rv,p,hz⟩:=I.list hq
  obtain ⟨f0,f1,f2,f3,f4,f5⟩:=hf it (by simp)
  have hl:=rv.length
  exact wpAny_pyNext_list_end (I.ok.hd hc) st p.isList (by simp;omega) fun h' eb=>⟨rfl,I.turned (t':=s.toks) (fun b o hb e=>eb b o hb e) f0 f1 f3 f4 f5⟩
 self:=fun _ _ _ _ _ st h=>wpAny_pyIter_listiter st h
theorem wL {P:Program} {w:World} {K:PySem.W.Frag} {tg:Expr} (a it:Addr):Turn P w K tg (NZ K a) [it] it (fun i h=>h.IsTupleIter it a i) where
 mem:=by simp
 obj:=fun i h st b hb=>by
  have e:b=it:=by simpa using hb
  subst e
  obtain ⟨o,e,c,d⟩:=st
  exact ⟨o,e,fun v z=>by rw [d] at z;cases z⟩
 keep:=fun i h h' st k=>st.at fun o e=>k it (by simp) o e
 item:=by
  intro X hP hw hK hc i pins s σ H E I hf st hg
  subst hP hw hK
  obtain ⟨xs,x,hq,hx⟩:=hg
  obtain ⟨its,rv,p,hz⟩:=I.tuple hq
  obtain ⟨u,hu,ru⟩:=rv.get hx
  obtain ⟨f0,f1,f2,f3,f4,f5⟩:=hf it (by simp)
  refine wpAny_pyNext_tuple_item st (show s.heap.IsTuple a its.toArray from p) (x:=u) (by simpa using hu) fun h' st' sb=>?_
  have I1:Inv X pins σ H { s with heap:=h' }:=I.turned (t':=s.toks) (fun b o hb e=>(sb.2 b hb).trans e) f0 f1 f3 f4 f5
  obtain ⟨o,e,c,d⟩:=id st'
  exact ⟨u,rfl,MP (s:={ s with heap:=h' }) e c d (by decide) ⟨x,H,I1,ru,⟨rfl,fun ys hy=>by rw [I.Ho hy hq];exact hx⟩,st',fun b hb=>(hf b hb).1⟩⟩
 done:=by
  intro X hP hw hK hc i pins s σ H E I hf st hg
  subst hP hw hK
  obtain ⟨xs,hq,hx⟩:=hg
  obtain ⟨its,rv,p,hz⟩:=I.tuple hq
  obtain ⟨f0,f1,f2,f3,f4,f5⟩:=hf it (by simp)
  have hl:=rv.length
  exact wpAny_pyNext_tuple_end (I.ok.hd hc) st (show s.heap.IsTuple a its.toArray from p) (by simp;omega) fun h' eb=>⟨rfl,I.turned (t':=s.toks) (fun b o hb e=>eb b o hb e) f0 f1 f3 f4 f5⟩
 self:=fun _ _ _ _ _ st h=>wpAny_pyIter_tupleiter st h
theorem EA {P:Program} {w:World} {K:PySem.W.Frag} {tg:Expr} (it:Addr) (lo:Int) (n:Nat):Turn P w K tg (To lo n) [it] it (fun i h=>IsRangeIter h it (lo+(i:Nat)*1) ((n:Int) - (i:Nat)) 1) where
 mem:=by simp
 obj:=fun i h st b hb=>by
  have e:b=it:=by simpa using hb
  subst e
  exact ⟨_,st,fun v z=>by
   have z':Data.fields _=Data.cell v:=z
   cases z'⟩
 keep:=fun i h h' st k=>k it (by simp) _ st
 item:=by
  intro X hP hw hK hc i pins s σ H E I hf st hg
  subst hP hw hK
  obtain ⟨f0,f1,f2,f3,f4,f5⟩:=hf it (by simp)
  have W:=Walks.range (prog:=X.prog) (w:=X.w) (I.ok.hd hc) it lo 1 n
  refine W.item i s _ _ hg st fun v h' tk hv st' kk=>?_
  obtain ⟨t,rfl⟩:=hv
  have I1:Inv X pins σ H { s with heap:=h',toks:=tk }:=I.turned (fun b o hb e=>kk b o (by simpa using hb) e) f0 f1 f3 f4 f5
  refine ⟨_,rfl,MP (s:={ s with heap:=h',toks:=tk }) (n:="range_iterator") st' rfl rfl (by decide) ⟨.int (lo+i),H,I1,⟨t,?_⟩,⟨rfl,rfl⟩,st',fun b hb=>(hf b hb).1⟩⟩
  rw [Int.mul_one]
 done:=by
  intro X hP hw hK hc i pins s σ H E I hf st hg
  subst hP hw hK
  obtain ⟨f0,f1,f2,f3,f4,f5⟩:=hf it (by simp)
  exact wpAny_pyNext_range_end (I.ok.hd hc) st (by have:n≤i:=hg;omega) fun h' eb=>⟨rfl,I.turned (t':=s.toks) (fun b o hb e=>eb b o hb e) f0 f1 f3 f4 f5⟩
 self:=fun _ _ _ _ _ st h=>wpAny_pyIter_rangeiter st h
end L2
namespace L2
open PySem PySem.Spec PyProof.Rows
section
variable {X:Cx} {tg:Expr}
def Vk (K:PySem.W.Frag) (tl:TE):TI:=fun σ H R=>tl σ H fun x H1=>∃ a,x=.ref a∧(∃ xs,ck K H1 a xs)∧R (Pf K a) H1
def Vi (K:PySem.W.Frag) (tl:TE):TI:=fun σ H R=>tl σ H fun x H1=>∃ a,x=.ref a∧(∃ xs,aV K H1 a xs)∧R (NZ K a) H1
theorem jj {l:Expr} {tl:TE} (hl:PE X l tl):PI X tg l (Vk X.K tl):=by
 intro pins s σ H R I h
 refine gZ (hl pins s σ H _ I h) fun v s1 ⟨x,H1,I1,r1,q1⟩=>?_
 obtain ⟨a,e,⟨xs,hq⟩,q⟩:=q1
 subst e
 cases r1
 obtain ⟨its,rv,p,hz⟩:=I1.list hq
 refine wpAny_pyIter_list p.isList ?_
 refine ⟨s1.heap.objs.size,[s1.heap.objs.size],_,_,H1,rfl,I1.kept (t':=s1.toks) fun b o e=>Heap.get?_push_of_some _ e,yK a _,⟨_,Heap.get?_push_size _ rfl,rfl,rfl⟩,fun b hb=>?_,q⟩
 have e:b=s1.heap.objs.size:=by simpa using hb
 subst e
 exact I1.MT (Nat.le_refl _) (I1.hok.fresh (Nat.le_refl _))
theorem gF {l:Expr} {tl:TE} (hl:PE X l tl):PI X tg l (Vi X.K tl):=by
 intro pins s σ H R I h
 refine gZ (hl pins s σ H _ I h) fun v s1 ⟨x,H1,I1,r1,q1⟩=>?_
 obtain ⟨a,e,⟨xs,hq⟩,q⟩:=q1
 subst e
 cases r1
 obtain ⟨its,rv,p,hz⟩:=I1.tuple hq
 refine wpAny_pyIter_tuple (show s1.heap.IsTuple a its.toArray from p) ?_
 refine ⟨s1.heap.objs.size,[s1.heap.objs.size],_,_,H1,rfl,I1.kept (t':=s1.toks) fun b o e=>Heap.get?_push_of_some _ e,wL a _,⟨_,Heap.get?_push_size _ rfl,rfl,rfl⟩,fun b hb=>?_,q⟩
 have e:b=s1.heap.objs.size:=by simpa using hb
 subst e
 exact I1.MT (Nat.le_refl _) (I1.hok.fresh (Nat.le_refl _))
theorem JT {pins:List (Addr×Obj)} {σ:St} {H:Hp} {s:Shared} {R:It→Hp→Prop} {E:Value→Shared→Prop} {lo hi:Int} {t u v:Tok} {tk:Nat} (I:Inv X pins σ H s) (h1:-(2 ^ 62)≤lo) (h2:lo < 2 ^ 62) (h3:-(2 ^ 62)≤hi) (h4:hi < 2 ^ 62)
  (q:R (To lo (hi - lo).toNat) H):wpAny (model X.prog X.w) X.A (pyIter (.ref s.heap.objs.size)) (PIE X pins σ tg R) E { s with heap:=s.heap.push { cls:=.type "range",data:=.fields #[.int lo t,.int hi u,.int 1 v] },toks:=tk }:=by
 refine wpAny_pyIter_range (IsRange.new ..) (small_one h1 h2 h3 h4) ?_
 have I1:Inv X pins σ H { s with heap:=s.heap.push { cls:=.type "range",data:=.fields #[.int lo t,.int hi u,.int 1 v] },toks:=tk }:=I.kept fun b o e=>Heap.get?_push_of_some _ e
 refine ⟨(s.heap.push { cls:=.type "range",data:=.fields #[.int lo t,.int hi u,.int 1 v] }).objs.size,[(s.heap.push { cls:=.type "range",data:=.fields #[.int lo t,.int hi u,.int 1 v] }).objs.size],_,_,H,rfl,
  I1.kept (t':=tk) fun b o e=>Heap.get?_push_of_some _ e,EA _ lo (hi - lo).toNat,?_,fun b hb=>?_,q⟩
 ·have e1:lo+((0:Nat):Int)*1=lo:=by simp
  have e2:(((hi - lo).toNat:Nat):Int) - ((0:Nat):Int)=Builtin.Range.rangeSize lo hi 1:=by rw [rangeSize_one];split <;> omega
  show IsRangeIter _ _ (lo+((0:Nat):Int)*1) ((((hi - lo).toNat:Nat):Int) - ((0:Nat):Int)) 1
  rw [e1,e2]
  exact Heap.get?_push_size _ rfl
 ·have e:b=(s.heap.push { cls:=.type "range",data:=.fields #[.int lo t,.int hi u,.int 1 v] }).objs.size:=by simpa using hb
  subst e
  exact I1.MT (Nat.le_refl _) (I1.hok.fresh (Nat.le_refl _))
def Vj (ta:TA):TI:=fun σ H R=>ta σ H fun vs H1=>∃ j:Int,vs=[.int j]∧-(2 ^ 62)≤j∧j < 2 ^ 62∧R (To 0 j.toNat) H1
theorem gT {a:Expr} {ta:TA} {p pos:Pos} (hg:Gl X "range") (hm:X.mg "range"=none) (ha:PA X [a] ta) (hs:starEach [a] X.env=[(false,eval a X.env)]:=by rfl):PI X tg (.Call (.Name "range" p) [a] [] pos) (Vj ta):=by
 intro pins s σ H R I h
 refine Call_ (Aa I hg hm boot_range (PyProof.Rows.callWith_type1 (gZ (ha pos pins s σ H _ I h) fun us s1 ⟨vs,H1,I1,r1,q1⟩=>?_) hs rfl))
 obtain ⟨j,e,q1,q2,q⟩:=q1
 subst e
 cases r1 with
 | cons r rr =>
  cases rr
  obtain ⟨t,rfl⟩:=r
  exact call_range_1 (JT I1 (by omega) (by omega) q1 q2 (by simpa using q))
def a0g (wi:TI) (g:TG) (tb:TS):TS:=fun D σ H=>wi σ H fun J H1=>∃ W:Nat→Nat→St→Hp→Prop,(∃ m,W 0 m σ H1)∧∀ i m σ H,W i m σ H →
 (J.stop i H∧D.nx σ H)∨(J.go i H∧∃ N:St→Hp→Prop,(∀ σ' H',N σ' H'→∃ m',m' < m∧W (i+1) m' σ' H')∧∀ x H',J.QI i H x H'→g x σ H' fun σ2 H2=>tb { D with nx:=N,ct:=N,bk:=D.nx } σ2 H2)
def xu (fp:List Addr) (h:Heap):List (Addr×Obj):=fp.filterMap fun b=>(h.get? b).map fun o=>(b,o)
theorem oK {fp:List Addr} {h:Heap} {b:Addr} {o:Obj} (hb:b∈fp) (e:h.get? b=some o):(b,o)∈xu fp h:=List.mem_filterMap.mpr ⟨b,hb,by rw [e];rfl⟩
theorem HC {fp:List Addr} {h:Heap} {p:Addr×Obj} (hp:p∈xu fp h):p.1∈fp∧h.get? p.1=some p.2:=by
 obtain ⟨b,hb,e⟩:=List.mem_filterMap.mp hp
 cases q:h.get? b with
 | none=>rw [q] at e;cases e
 | some o =>
  rw [q] at e
  have e':(b,o)=p:=Option.some.inj e
  subst e'
  exact ⟨hb,q⟩
theorem Inv.pinned {pins:List (Addr×Obj)} {σ:St} {H:Hp} {s:Shared} {fp:List Addr} (I:Inv X pins σ H s) (hf:∀ b∈fp,v9 X pins H b) (ho:∀ b∈fp,∃ o,s.heap.get? b=some o∧∀ v,o.data≠.cell v):Inv X (pins++xu fp s.heap) σ H s :=
 I.wu fun p hp=>(List.mem_append.mp hp).elim (fun z=>I.pin p (List.mem_append_right _ z)) fun z=>by
  obtain ⟨hb,e⟩:=HC z
  obtain ⟨f0,f1,f2,_⟩:=hf p.1 hb
  obtain ⟨o,e',d⟩:=ho p.1 hb
  rw [e] at e';cases e'
  exact ⟨e,f0,f1,f2,d⟩
theorem Inv.sL {pins pl:List (Addr×Obj)} {σ:St} {H:Hp} {s:Shared} (I:Inv X (pins++pl) σ H s):Inv X pins σ H s:=I.wu fun p hp=>I.pin p (List.mem_append_right _ (List.mem_append_left _ hp))
theorem oE {iter:Expr} {body:List Stmt} {wi:TI} {g:TG} {tb:TS} {pos:Pos} (hp:PassesOwn (model X.prog X.w) X.A X.env X.xe) (hc:X.calm=true) (hi:PI X tg iter wi) (hg:PG X tg g) (hb:IA X body tb)
  (hs:∀ x,foldedSetIterable iter X.env x=pure x:=by intro _;rfl):PS X (.For tg iter body [] pos) (a0g wi g tb):=by
 intro pins s σ H D I h
 refine wpAny_For (gZ (hi pins s σ H _ I h) fun v s1 h1=>gZ h1 fun itv s2 h2=>?_) hs
 obtain ⟨it,fp,tn,J,H2,e,I2,T,st2,f2,W,⟨m0,w0⟩,turn⟩:=h2
 subst e
 have QY:∀ {H':Hp},(∀ b∈fp,H' b=none)→∀ b∈fp,v9 X pins H' b:=fun hn b hb=>⟨hn b hb,(f2 b hb).2⟩
 refine codeAny_forLoop_any (fun n s'=>∃ i σ' H',Inv X pins σ' H' s'∧tn i s'.heap∧(∀ b∈fp,H' b=none)∧W i n σ' H') ?_ m0 ⟨0,σ,H2,I2,st2,fun b hb=>(f2 b hb).1,w0⟩
 rintro n s3 ⟨i,σ3,H3,I3,st3,fr3,w3⟩
 rcases turn i n σ3 H3 w3 with ⟨stop,qn⟩ | ⟨go,N,hN,step⟩
 ·refine wpAny_passesOwn hp (gZ (T.done X rfl rfl rfl hc i pins s3 σ3 H3 X.xe I3 (QY fr3) st3 stop) fun r s4 ⟨hr,I4⟩=>?_)
  subst hr
  exact wpAny_execs_nil ⟨σ3,H3,I4,qn⟩
 ·refine wpAny_passesOwn hp (gZ (T.item X rfl rfl rfl hc i pins s3 σ3 H3 X.xe I3 (QY fr3) st3 go) fun r s4 ⟨u,hr,h4⟩=>?_)
  subst hr
  refine wpAny_passesOwn hp (gZ h4 fun _ s5 ⟨x,H5,I5,r5,y5,st5,fr5⟩=>?_)
  have I5':=I5.pinned (QY fr5) (T.obj _ _ st5)
  refine wpAny_passesOwn hp (gZ (hg _ s5 σ3 H5 x u _ I5' r5 (step x H5 y5)) fun _ s6 ⟨σ6,H6,I6,q6⟩=>?_)
  refine wpAny_passesOwn hp (gZ (hb _ s6 σ6 H6 _ I6 q6) fun f s7 q7=>?_)
  have again:∀ {σ7:St} {H7:Hp},Inv X (pins++xu fp s5.heap) σ7 H7 s7→N σ7 H7→∃ m,m < n∧∃ i σ' H',Inv X pins σ' H' s7∧tn i s7.heap∧(∀ b∈fp,H' b=none)∧W i m σ' H':=fun {σ7 H7} I7 n7=>by
   obtain ⟨m',hm,w7⟩:=hN σ7 H7 n7
   refine ⟨m',hm,i+1,σ7,H7,I7.sL,T.keep _ _ _ st5 fun b hb o e=>(I7.pin (b,o) (List.mem_append_right _ (List.mem_append_right _ (oK hb e)))).1,fun b hb=>?_,w7⟩
   obtain ⟨o,e,d⟩:=T.obj _ _ st5 b hb
   exact (I7.pin (b,o) (List.mem_append_right _ (List.mem_append_right _ (oK hb e)))).2.1
  cases f with
  | next=>obtain ⟨σ7,H7,I7,n7⟩:=q7;exact again I7 n7
  | cont=>obtain ⟨σ7,H7,I7,n7⟩:=q7;exact again I7 n7
  | brk=>obtain ⟨σ7,H7,I7,q7⟩:=q7;exact ⟨σ7,H7,I7.sL,q7⟩
  | ret v=>obtain ⟨x7,σ7,H7,I7,r7,q7⟩:=q7;exact ⟨x7,σ7,H7,I7.sL,r7,q7⟩
end
theorem Bw {K:PySem.W.Frag} {a:Addr} {xs:List V} {g:TG} {tb:TS} {D:Ends} {σ:St} {H:Hp} (Pv:Nat→St→Hp→Prop) (h0:Pv 0 σ H) (hl:∀ i σ H,i≤xs.length→Pv i σ H→ck K H a xs)
  (hs:∀ i x σ H,xs[i]?=some x→Pv i σ H→g x σ H fun σ2 H2=>tb { D with nx:=Pv (i+1),ct:=Pv (i+1),bk:=D.nx } σ2 H2) (hd:∀ σ H,Pv xs.length σ H→D.nx σ H) :
  ∃ W:Nat→Nat→St→Hp→Prop,(∃ m,W 0 m σ H)∧∀ i m σ H,W i m σ H →
   ((Pf K a).stop i H∧D.nx σ H)∨((Pf K a).go i H∧∃ N:St→Hp→Prop,(∀ σ' H',N σ' H'→∃ m',m' < m∧W (i+1) m' σ' H')∧∀ x H',(Pf K a).QI i H x H'→g x σ H' fun σ2 H2=>tb { D with nx:=N,ct:=N,bk:=D.nx } σ2 H2):=by
 refine ⟨fun i m σ H=>m=xs.length - i∧i≤xs.length∧Pv i σ H,⟨xs.length,by simp,Nat.zero_le _,h0⟩,?_⟩
 rintro i m σ H ⟨rfl,hi,p⟩
 have q:=hl i σ H hi p
 by_cases hlt:i < xs.length
 ·refine .inr ⟨⟨xs,xs[i],q,by simp [hlt]⟩,Pv (i+1),fun σ' H' p'=>⟨xs.length - (i+1),by omega,rfl,hlt,p'⟩,fun x H' y=>?_⟩
  obtain ⟨e,y⟩:=y
  subst e
  exact hs i x σ _ (y xs q) p
 ·have e:i=xs.length:=by omega
  subst e
  exact .inl ⟨⟨xs,q,Nat.le_refl _⟩,hd σ H p⟩
theorem Ai {K:PySem.W.Frag} {a:Addr} {xs:List V} {g:TG} {tb:TS} {D:Ends} {σ:St} {H:Hp} (Pv:Nat→St→Hp→Prop) (h0:Pv 0 σ H) (hl:∀ i σ H,i≤xs.length→Pv i σ H→aV K H a xs)
  (hs:∀ i x σ H,xs[i]?=some x→Pv i σ H→g x σ H fun σ2 H2=>tb { D with nx:=Pv (i+1),ct:=Pv (i+1),bk:=D.nx } σ2 H2) (hd:∀ σ H,Pv xs.length σ H→D.nx σ H) :
  ∃ W:Nat→Nat→St→Hp→Prop,(∃ m,W 0 m σ H)∧∀ i m σ H,W i m σ H →
   ((NZ K a).stop i H∧D.nx σ H)∨((NZ K a).go i H∧∃ N:St→Hp→Prop,(∀ σ' H',N σ' H'→∃ m',m' < m∧W (i+1) m' σ' H')∧∀ x H',(NZ K a).QI i H x H'→g x σ H' fun σ2 H2=>tb { D with nx:=N,ct:=N,bk:=D.nx } σ2 H2):=by
 refine ⟨fun i m σ H=>m=xs.length - i∧i≤xs.length∧Pv i σ H,⟨xs.length,by simp,Nat.zero_le _,h0⟩,?_⟩
 rintro i m σ H ⟨rfl,hi,p⟩
 have q:=hl i σ H hi p
 by_cases hlt:i < xs.length
 ·refine .inr ⟨⟨xs,xs[i],q,by simp [hlt]⟩,Pv (i+1),fun σ' H' p'=>⟨xs.length - (i+1),by omega,rfl,hlt,p'⟩,fun x H' y=>?_⟩
  obtain ⟨e,y⟩:=y
  subst e
  exact hs i x σ _ (y xs q) p
 ·have e:i=xs.length:=by omega
  subst e
  exact .inl ⟨⟨xs,q,Nat.le_refl _⟩,hd σ H p⟩
theorem nV {lo:Int} {n:Nat} {g:TG} {tb:TS} {D:Ends} {σ:St} {H:Hp} (Pv:Nat→St→Hp→Prop) (h0:Pv 0 σ H)
  (hs:∀ i σ H,i < n→Pv i σ H→g (.int (lo+i)) σ H fun σ2 H2=>tb { D with nx:=Pv (i+1),ct:=Pv (i+1),bk:=D.nx } σ2 H2) (hd:∀ σ H,Pv n σ H→D.nx σ H) :
  ∃ W:Nat→Nat→St→Hp→Prop,(∃ m,W 0 m σ H)∧∀ i m σ H,W i m σ H →
   ((To lo n).stop i H∧D.nx σ H)∨((To lo n).go i H∧∃ N:St→Hp→Prop,(∀ σ' H',N σ' H'→∃ m',m' < m∧W (i+1) m' σ' H')∧∀ x H',(To lo n).QI i H x H'→g x σ H' fun σ2 H2=>tb { D with nx:=N,ct:=N,bk:=D.nx } σ2 H2):=by
 refine ⟨fun i m σ H=>m=n - i∧i≤n∧Pv i σ H,⟨n,by simp,Nat.zero_le _,h0⟩,?_⟩
 rintro i m σ H ⟨rfl,hi,p⟩
 by_cases hlt:i < n
 ·refine .inr ⟨hlt,Pv (i+1),fun σ' H' p'=>⟨n - (i+1),by omega,rfl,hlt,p'⟩,fun x H' y=>?_⟩
  obtain ⟨e,y⟩:=y
  subst e y
  exact hs i σ _ hlt p
 ·have e:i=n:=by omega
  subst e
  exact .inl ⟨Nat.le_refl _,hd σ H p⟩
theorem wJ {c:TT} {tb:TS} {D:Ends} {σ:St} {H:Hp} (Pv:St→Hp→Prop) (μ:St→Hp→Nat) (h0:Pv σ H)
  (hs:∀ σ H,Pv σ H→c σ H fun b H1=>if b=true then tb { D with nx:=fun σ' H'=>Pv σ' H'∧μ σ' H' < μ σ H,ct:=fun σ' H'=>Pv σ' H'∧μ σ' H' < μ σ H,bk:=D.nx } σ H1 else D.nx σ H1)
  (mono:∀ σ H Q Q',(∀ b H1,Q b H1→Q' b H1)→c σ H Q→c σ H Q'):Jv c tb D σ H:=by
 refine ⟨fun m σ H=>m=μ σ H∧Pv σ H,⟨_,rfl,h0⟩,?_⟩
 rintro m σ H ⟨rfl,p⟩
 refine mono σ H _ _ (fun b H1 q=>?_) (hs σ H p)
 cases b with
 | true=>exact ⟨_,fun σ' H' ⟨p',l⟩=>⟨_,l,rfl,p'⟩,q⟩
 | false=>exact q
end L2
namespace L2
open PySem PySem.Spec PyProof.Rows
abbrev R2:=V→V→Hp→VK→Prop
def sy (X:Cx) (f:Value→Value→Sem Value) (r:R2):Prop :=
 ∀ (pins:List (Addr×Obj)) (s:Shared) (σ:St) (H:Hp) (x y:V) (v u:Value) (Q:VK),Inv X pins σ H s→RelV x v→RelV y u→r x y H Q →
  wpAny (model X.prog X.w) X.A (f v u) (EP X pins σ Q) X.xe s
def UnR (X:Cx) (f:Value→Sem Value) (r:V→Hp→VK→Prop):Prop :=
 ∀ (pins:List (Addr×Obj)) (s:Shared) (σ:St) (H:Hp) (x:V) (v:Value) (Q:VK),Inv X pins σ H s→RelV x v→r x H Q →
  wpAny (model X.prog X.w) X.A (f v) (EP X pins σ Q) X.xe s
def oW (X:Cx) (f:Value) (r:List V→Hp→VK→Prop):Prop :=
 ∀ (pins:List (Addr×Obj)) (s:Shared) (σ:St) (H:Hp) (xs:List V) (us:List Value) (Q:VK),Inv X pins σ H s→Vals xs us→r xs H Q →
  wpAny (model X.prog X.w) X.A (call f us) (EP X pins σ Q) X.xe s
def Uq (r:R2) (ta tb:TE):TE:=fun σ H Q=>ta σ H fun x H1=>tb σ H1 fun y H2=>r x y H2 Q
def tUn (r:V→Hp→VK→Prop) (ta:TE):TE:=fun σ H Q=>ta σ H fun x H1=>r x H1 Q
def rI (C:Int→Int→Prop) (g:Int→Int→V):R2:=fun x y H Q=>∃ i j,x=.int i∧y=.int j∧C i j∧Q (g i j) H
def TL (g:Int→Int→V):R2:=fun x y H Q=>∃ i j,x=.int i∧y=.int j∧Q (g i j) H
def rU (g:Int→V):V→Hp→VK→Prop:=fun x H Q=>∃ i,x=.int i∧Q (g i) H
section
variable {X:Cx} {a b c:Expr} {ta tb tc:TE} {pos:Pos}
theorem S9 (ha:PE X a ta) (hb:PE X b tb) {pins:List (Addr×Obj)} {s:Shared} {σ:St} {H:Hp} {R:V→V→Hp→Prop} (I:Inv X pins σ H s)
  (h:ta σ H fun x H1=>tb σ H1 fun y H2=>R x y H2) {Q:Value→Shared→Prop} {f:Value→Value→Sem Value}
  (hf:∀ v u s2 x y H2,Inv X pins σ H2 s2→RelV x v→RelV y u→R x y H2→wpAny (model X.prog X.w) X.A (f v u) Q X.xe s2) :
  wpAny (model X.prog X.w) X.A (eval a X.env) (fun v s₁=>wpAny (model X.prog X.w) X.A (eval b X.env) (fun u s₂=>wpAny (model X.prog X.w) X.A (f v u) Q X.xe s₂) X.xe s₁) X.xe s:=by
 refine gZ (ha pins s σ H _ I h) fun v s1 ⟨x,H1,I1,r1,q1⟩=>?_
 refine gZ (hb pins s1 σ H1 _ I1 q1) fun u s2 ⟨y,H2,I2,r2,q2⟩=>?_
 exact hf v u s2 x y H2 I2 r1 r2 q2
theorem bX {op:Operator} {r:R2} (ho:sy X (binaryOp op) r) (ha:PE X a ta) (hb:PE X b tb):PE X (.BinOp a op b pos) (Uq r ta tb):=by
 intro pins s σ H Q I h
 exact wpAny_BinOp (S9 ha hb I h fun v u s2 x y H2 I2 rx ry q=>ho pins s2 σ H2 x y v u Q I2 rx ry q)
theorem yN {op:UnaryOp} {r:V→Hp→VK→Prop} (ho:UnR X (unaryOp op) r) (ha:PE X a ta):PE X (.UnaryOp op a pos) (tUn r ta):=by
 intro pins s σ H Q I h
 exact UnaryOp_ (gZ (ha pins s σ H _ I h) fun v s1 ⟨x,H1,I1,r1,q1⟩=>ho pins s1 σ H1 x v Q I1 r1 q1)
theorem opI {f:Value→Value→Sem Value} {C:Int→Int→Prop} {g:Int→Int→Int}
  (rule:∀ (i j:Int) (t u:Tok) (s:Shared) (Q:Value→Shared→Prop) (E:Value→Shared→Prop),C i j→Q (.int (g i j) s.toks) { s with toks:=s.toks+1 }→wpAny (model X.prog X.w) X.A (f (.int i t) (.int j u)) Q E s) :
  sy X f (rI C fun i j=>.int (g i j)):=by
 intro pins s σ H x y v u Q I rx ry h
 obtain ⟨i,j,rfl,rfl,hc,q⟩:=h
 obtain ⟨t,rfl⟩:=rx
 obtain ⟨t',rfl⟩:=ry
 exact rule i j t t' s _ _ hc ⟨.int (g i j),H,I.tok _,⟨_,rfl⟩,q⟩
theorem UM {f:Value→Value→Sem Value} {g:Int→Int→Int}
  (rule:∀ (i j:Int) (t u:Tok) (s:Shared) (Q:Value→Shared→Prop) (E:Value→Shared→Prop),Q (.int (g i j) s.toks) { s with toks:=s.toks+1 }→wpAny (model X.prog X.w) X.A (f (.int i t) (.int j u)) Q E s) :
  sy X f (TL fun i j=>.int (g i j)):=by
 intro pins s σ H x y v u Q I rx ry h
 obtain ⟨i,j,rfl,rfl,q⟩:=h
 obtain ⟨t,rfl⟩:=rx
 obtain ⟨t',rfl⟩:=ry
 exact rule i j t t' s _ _ ⟨.int (g i j),H,I.tok _,⟨_,rfl⟩,q⟩
theorem UN {f:Value→Value→Sem Value} {g:Int→Int→Bool}
  (rule:∀ (i j:Int) (t u:Tok) (s:Shared) (Q:Value→Shared→Prop) (E:Value→Shared→Prop),Q (.bool (g i j)) s→wpAny (model X.prog X.w) X.A (f (.int i t) (.int j u)) Q E s) :
  sy X f (TL fun i j=>.bl (g i j)):=by
 intro pins s σ H x y v u Q I rx ry h
 obtain ⟨i,j,rfl,rfl,q⟩:=h
 obtain ⟨t,rfl⟩:=rx
 obtain ⟨t',rfl⟩:=ry
 exact rule i j t t' s _ _ ⟨.bl (g i j),H,I,rfl,q⟩
def b4D (i j:Int):Prop:=0 < j∧j < 1073741824
def TF (i j:Int):Prop:=(-(2 ^ 64) < i∧i < 2 ^ 64)∨(-(2 ^ 64) < j∧j < 2 ^ 64)
theorem TF.ok {i j:Int} (h:TF i j):IntMulOk i j:=by
 rcases h with ⟨h1,h2⟩ | ⟨h1,h2⟩
 ·exact .of_left (intBits_le_64 h1 h2)
 ·exact .of_right (intBits_le_64 h1 h2)
theorem ju:sy X (binaryOp .Add) (TL fun i j=>.int (i+j)):=UM fun _ _ _ _ _ _ _ q=>add_int q
theorem rm:sy X (binaryOp .Sub) (TL fun i j=>.int (i - j)):=UM fun _ _ _ _ _ _ _ q=>sub_int q
theorem rA:sy X (binaryOp .Mult) (rI TF fun i j=>.int (i*j)):=opI fun _ _ _ _ _ _ _ hc q=>mul_int q hc.ok
theorem tK:sy X (binaryOp .FloorDiv) (rI b4D fun i j=>.int (i / j)):=opI fun i j _ _ _ _ _ hc q=>by
 have h1:(0:Int) < j:=hc.1
 have h2:j < 1073741824:=hc.2
 exact floordiv_int (by omega) (by rw [Int.fdiv_eq_ediv_of_nonneg i (by omega)];exact q) (.inl (PyProof.noPylong_small (by omega)))
theorem lC:sy X (binaryOp .Mod) (rI (fun _ j=>0 < j) fun i j=>.int (i % j)):=opI fun i j _ _ _ _ _ hc q=>by
 have h1:(0:Int) < j:=hc
 exact mod_int' (by omega) (by rw [Int.fmod_eq_emod_of_nonneg i (by omega)];exact q)
theorem unI {f:Value→Sem Value} {g:Int→Int}
  (rule:∀ (i:Int) (t:Tok) (s:Shared) (Q:Value→Shared→Prop) (E:Value→Shared→Prop),Q (.int (g i) s.toks) { s with toks:=s.toks+1 }→wpAny (model X.prog X.w) X.A (f (.int i t)) Q E s) :
  UnR X f (rU fun i=>.int (g i)):=by
 intro pins s σ H x v Q I rx h
 obtain ⟨i,rfl,q⟩:=h
 obtain ⟨t,rfl⟩:=rx
 exact rule i t s _ _ ⟨.int (g i),H,I.tok _,⟨_,rfl⟩,q⟩
theorem uv:UnR X (unaryOp .USub) (rU fun i=>.int (-i)):=unI fun _ _ _ _ _ q=>neg_int q
end
def UC:V→V→Bool
 | .eT,.eT=>true | .eT,.int _=>true | .int _,.eT=>true | .eT,.bl _=>true | .bl _,.eT=>true | .eT,.str _=>true | .str _,.eT=>true
 | .int _,.int _=>true | .bl _,.bl _=>true | .str _,.str _=>true | .IV _,.IV _=>true
 | .int _,.str _=>true | .str _,.int _=>true | .bl _,.str _=>true | .str _,.bl _=>true
 | _,_=>false
def rEq:R2:=fun x y H Q=>UC x y=true∧Q (.bl (decide (x=y))) H
def rNe:R2:=fun x y H Q=>UC x y=true∧Q (.bl (!decide (x=y))) H
theorem GQ {i j:Int}:decide (V.int i=V.int j)=(i == j):=by
 rw [Bool.eq_iff_iff]
 simp
theorem M1 {i j:Bool}:decide (V.bl i=V.bl j)=(i == j):=by
 rw [Bool.eq_iff_iff]
 simp
theorem GP {i j:Str}:decide (V.str i=V.str j)=(i == j):=by
 rw [Bool.eq_iff_iff]
 simp
theorem GR {i j:Array UInt8}:decide (V.IV i=V.IV j)=(i.toList == j.toList):=by
 rw [Bool.eq_iff_iff]
 cases i
 cases j
 simp
section
variable {X:Cx} {a b c:Expr} {ta tb tc:TE} {pos:Pos}
theorem dG {pins:List (Addr×Obj)} {σ:St} {H:Hp} {s:Shared} {Q:VK} {k k':Bool} (I:Inv X pins σ H s) (q:Q (.bl k) H) (e:k=k'):EP X pins σ Q (.bool k') s:=by
 subst e
 exact ⟨.bl k,H,I,rfl,q⟩
theorem di:sy X (compareOp .Eq) rEq:=by
 intro pins s σ H x y v u Q I rx ry h
 obtain ⟨hs,q⟩:=h
 cases x with
 | eT =>
  cases rx
  cases y with
  | eT=>cases ry;exact PySem.EqNone.eq_none_none (dG I q (by simp))
  | bl j=>cases ry;exact PySem.EqNone.eq_none_bool (dG I q (by simp))
  | int j=>obtain ⟨t',rfl⟩:=ry;exact PySem.EqNone.eq_none_int (dG I q (by simp))
  | str j=>obtain ⟨t',rfl⟩:=ry;exact PySem.EqNone.eq_none_str (dG I q (by simp))
  | _=>exact absurd (show false=true from hs) Bool.false_ne_true
 | bl i =>
  cases rx
  cases y with
  | eT=>cases ry;exact PySem.EqNone.eq_bool_none (dG I q (by simp))
  | bl j=>cases ry;exact eq_bool (dG I q M1)
  | str j=>obtain ⟨t',rfl⟩:=ry;exact PySem.EqMixed.eq_bool_str (dG I q (by simp))
  | _=>exact absurd (show false=true from hs) Bool.false_ne_true
 | int i =>
  obtain ⟨t,rfl⟩:=rx
  cases y with
  | eT=>cases ry;exact PySem.EqNone.eq_int_none (dG I q (by simp))
  | int j=>obtain ⟨t',rfl⟩:=ry;exact eq_int (dG I q GQ)
  | str j=>obtain ⟨t',rfl⟩:=ry;exact PySem.EqMixed.eq_int_str (dG I q (by simp))
  | _=>exact absurd (show false=true from hs) Bool.false_ne_true
 | str i =>
  obtain ⟨t,rfl⟩:=rx
  cases y with
  | eT=>cases ry;exact PySem.EqNone.eq_str_none (dG I q (by simp))
  | bl j=>cases ry;exact PySem.EqMixed.eq_str_bool (dG I q (by simp))
  | int j=>obtain ⟨t',rfl⟩:=ry;exact PySem.EqMixed.eq_str_int (dG I q (by simp))
  | str j=>obtain ⟨t',rfl⟩:=ry;exact eq_str (dG I q GP)
  | _=>exact absurd (show false=true from hs) Bool.false_ne_true
 | IV i =>
  obtain ⟨t,rfl⟩:=rx
  cases y with
  | IV j=>obtain ⟨t',rfl⟩:=ry;exact PySem.W.eq_bytes (dG I q GR)
  | _=>exact absurd (show false=true from hs) Bool.false_ne_true
 | _=>cases y <;> exact absurd (show false=true from hs) Bool.false_ne_true
theorem Gp:sy X (compareOp .NotEq) rNe:=by
 intro pins s σ H x y v u Q I rx ry h
 obtain ⟨hs,q⟩:=h
 cases x with
 | eT =>
  cases rx
  cases y with
  | eT=>cases ry;exact PySem.EqNone.ne_none_none (dG I q (by simp))
  | bl j=>cases ry;exact PySem.EqNone.ne_none_bool (dG I q (by simp))
  | int j=>obtain ⟨t',rfl⟩:=ry;exact PySem.EqNone.ne_none_int (dG I q (by simp))
  | str j=>obtain ⟨t',rfl⟩:=ry;exact PySem.EqNone.ne_none_str (dG I q (by simp))
  | _=>exact absurd (show false=true from hs) Bool.false_ne_true
 | bl i =>
  cases rx
  cases y with
  | eT=>cases ry;exact PySem.EqNone.ne_bool_none (dG I q (by simp))
  | bl j=>cases ry;exact ne_bool (dG I q (congrArg not M1))
  | str j=>obtain ⟨t',rfl⟩:=ry;exact PySem.EqMixed.ne_bool_str (dG I q (by simp))
  | _=>exact absurd (show false=true from hs) Bool.false_ne_true
 | int i =>
  obtain ⟨t,rfl⟩:=rx
  cases y with
  | eT=>cases ry;exact PySem.EqNone.ne_int_none (dG I q (by simp))
  | int j=>obtain ⟨t',rfl⟩:=ry;exact ne_int (dG I q (congrArg not GQ))
  | str j=>obtain ⟨t',rfl⟩:=ry;exact PySem.EqMixed.ne_int_str (dG I q (by simp))
  | _=>exact absurd (show false=true from hs) Bool.false_ne_true
 | str i =>
  obtain ⟨t,rfl⟩:=rx
  cases y with
  | eT=>cases ry;exact PySem.EqNone.ne_str_none (dG I q (by simp))
  | bl j=>cases ry;exact PySem.EqMixed.ne_str_bool (dG I q (by simp))
  | int j=>obtain ⟨t',rfl⟩:=ry;exact PySem.EqMixed.ne_str_int (dG I q (by simp))
  | str j=>obtain ⟨t',rfl⟩:=ry;exact ne_str (dG I q (congrArg not GP))
  | _=>exact absurd (show false=true from hs) Bool.false_ne_true
 | IV i =>
  obtain ⟨t,rfl⟩:=rx
  cases y with
  | IV j=>obtain ⟨t',rfl⟩:=ry;exact PySem.W.ne_bytes (dG I q (congrArg not GR))
  | _=>exact absurd (show false=true from hs) Bool.false_ne_true
 | _=>cases y <;> exact absurd (show false=true from hs) Bool.false_ne_true
theorem KO:sy X (compareOp .Lt) (TL fun i j=>.bl (decide (i < j))):=UN fun _ _ _ _ _ _ _ q=>lt_int q
theorem KP:sy X (compareOp .Gt) (TL fun i j=>.bl (decide (j < i))):=UN fun _ _ _ _ _ _ _ q=>gt_int q
theorem tH:sy X (compareOp .IsNot) (fun x y H Q=>y=.eT∧Q (.bl (!decide (x=.eT))) H):=by
 intro pins s σ H x y v u Q I rx ry h
 obtain ⟨rfl,q⟩:=h
 cases ry
 refine isnot_none_gen (dG I q ?_)
 cases x <;> first
  | (cases rx;rfl)
  | (obtain ⟨t,rfl⟩:=rx;rfl)
theorem aP (b:Expr) {op:CmpOp} (h:op≠.In:=by decide) (h2:op≠.NotIn:=by decide):behindInMarks op b=false:=by
 have e1:(op == CmpOp.In)=false:=by cases op <;> first | rfl | exact absurd rfl h
 have e2:(op == CmpOp.NotIn)=false:=by cases op <;> first | rfl | exact absurd rfl h2
 cases b <;> simp [behindInMarks,e1,e2]
theorem gi {op:CmpOp} {r:R2} (ho:sy X (compareOp op) r) (ha:PE X a ta) (hb:PE X b tb) (hm:behindInMarks op b=false):PE X (.Compare a [op] [b] pos) (Uq r ta tb):=by
 intro pins s σ H Q I h
 exact wpAny_Compare1 (S9 ha hb I h fun v u s2 x y H2 I2 rx ry q=>ho pins s2 σ H2 x y v u Q I2 rx ry q) hm
def PM (t:TE):TT:=fun σ H Q=>t σ H fun x H'=>∃ k,x=.bl k∧Q k H'
theorem aK {op:CmpOp} {r:R2} (ho:sy X (compareOp op) r) (ha:PE X a ta) (hb:PE X b tb) (hm:behindInMarks op b=false):PT X (.Compare a [op] [b] pos) (PM (Uq r ta tb)):=by
 intro pins s σ H Q I h
 refine wpAny_isTrue_Compare1 (gZ (ha pins s σ H _ I h) fun v s1 ⟨x,H1,I1,r1,q1⟩=>gZ (hb pins s1 σ H1 _ I1 q1) fun u s2 ⟨y,H2,I2,r2,q2⟩ =>
  gZ (ho pins s2 σ H2 x y v u _ I2 r1 r2 q2) fun c s3 ⟨z,H3,I3,r3,k,e,q3⟩=>?_) hm
 subst e
 cases r3
 exact wpAny_truthy_bool ⟨H3,I3,q3⟩
theorem uU:(sizeLine:Nat) < 2 ^ 63:=by rw [sizeLine_eq];decide
theorem kg:sy X (binaryOp .Add) (fun x y H Q=>∃ i j,x=.str i∧y=.str j∧i.length+j.length≤sizeLine∧Q (.str (i++j)) H):=by
 intro pins s σ H x y v u Q I rx ry h
 obtain ⟨i,j,rfl,rfl,hz,q⟩:=h
 obtain ⟨t,rfl⟩:=rx
 obtain ⟨t',rfl⟩:=ry
 exact add_str (fun t' tk=>⟨.str (i++j),H,I.tok _,⟨_,rfl⟩,q⟩) hz
theorem vals1 {x:V} {us:List Value} (r:Vals [x] us):∃ u,us=[u]∧RelV x u:=by
 cases r with
 | cons r1 r2=>cases r2;exact ⟨_,rfl,r1⟩
theorem vals2 {x y:V} {us:List Value} (r:Vals [x,y] us):∃ u w',us=[u,w']∧RelV x u∧RelV y w':=by
 cases r with
 | cons r1 r2 =>
  cases r2 with
  | cons r3 r4=>cases r4;exact ⟨_,_,rfl,r1,r3⟩
theorem vg:oW X (.type "int") (fun xs H Q=>(∃ i,xs=[.int i]∧Q (.int i) H)∨∃ k,xs=[.bl k]∧Q (.int (if k then 1 else 0)) H):=by
 intro pins s σ H xs us Q I r h
 rcases h with ⟨i,rfl,q⟩ | ⟨k,rfl,q⟩
 ·obtain ⟨u,rfl,t,rfl⟩:=vals1 r
  exact call_int_int ⟨.int i,H,I,⟨_,rfl⟩,q⟩
 ·obtain ⟨u,rfl,r1⟩:=vals1 r
  cases r1
  exact call_int_bool ⟨.int (if k then 1 else 0),H,I.tok _,⟨_,rfl⟩,q⟩
end
end L2
namespace L2
open PySem PySem.Spec PyProof.Rows
structure Fz (h:Heap) (x dx C:Addr) (mA:Str→Option Value):Prop where
 obj:h.get? x=some (PySem.W.instObj C dx)
 ns:h.Ns1 dx mA
 ne:dx≠x
theorem HK {h:Heap} {dx:Addr} {mA:Str→Option Value} (n:h.Ns1 dx mA):∃ od,h.get? dx=some od∧∀ name,PySem.W.lookIn name od=some (mA name):=by
 obtain ⟨o,es,ep,ho,hd,hk,_,hm⟩:=n
 refine ⟨o,ho,fun name=>?_⟩
 have e:=hm name
 unfold nsFind findBy at e
 rw [← Array.find?_toList] at e
 unfold PySem.W.lookIn
 rw [hd]
 dsimp only
 split
 ·rename_i y q
  rw [q] at e
  exact congrArg some e
 ·rename_i q
  rw [q] at e
  have a:es.toList.any (·.refKey)=false:=by
   rw [List.any_eq_false]
   intro y hy
   obtain ⟨z,t,hkey⟩:=hk y (Array.mem_toList_iff.mp hy)
   simp [DictEntry.refKey,hkey]
  have a':¬ es.toList.any (·.refKey)=true:=by rw [a];exact Bool.false_ne_true
  rw [if_neg a']
  exact congrArg some e
theorem Fz.look {h:Heap} {x dx C:Addr} {mA:Str→Option Value} (I:Fz h x dx C mA):∃ od,PySem.W.InstAt h x (PySem.W.instObj C dx) C (some od)∧∀ name,PySem.W.lookIn name od=some (mA name) :=
 let ⟨od,ho,hl⟩:=HK I.ns
 ⟨od,⟨I.obj,rfl,rfl,ho⟩,hl⟩
section
variable {prog:Program} {w:World} {A:Around} {E:Value→Shared→Prop} {s:Shared} {K:PySem.W.Frag} {x dx C f:Addr} {mA:Str→Option Value} {name:Str} {v:Value}
theorem get_map {expr:Bool} {Q:Value→Shared→Prop} (X:K.In s.heap) (I:Fz s.heap x dx C mA) (hg:PySem.W.plainGet K C name=true) (hh:PySem.W.hasDictIn K C=true)
  (ha:PySem.W.findIn K (.ref C) name=some none) (hv:mA name=some v) (hv':PySem.W.handedIn v=true) (h:Q v { s with toks:=s.toks+1 }) :
  wpAny (model prog w) A (getAttr (.ref x) name expr) Q E s:=by
 obtain ⟨od,J,hl⟩:=I.look
 exact PySem.W.get_value X J (PySem.W.plainGet_of hg).1 (PySem.W.findObj_own hh ha rfl (by rw [hl,hv])) hv' h
theorem MQ {pl:Sem Bool} {Q:Value×List Value→Shared→Prop} (X:K.In s.heap) (I:Fz s.heap x dx C mA) (hg:PySem.W.plainGet K C name=true)
  (hf:PySem.W.findIn K (.ref C) name=some (some (.ref f))) (ht:PySem.W.isFn K (.ref f)=true) (hv:mA name=none) (h:Q (.ref f,[.ref x]) s) :
  wpAny (model prog w) A (getMethod (.ref x) name pl) Q E s:=by
 obtain ⟨od,J,hl⟩:=I.look
 exact PySem.W.method_fn X J (PySem.W.plainGet_of hg).1 (PySem.W.plainGet_of hg).2 hf (beq_iff_eq.mp ht) (by show (PySem.W.lookIn name od).map (·.isSome)=some false;rw [hl,hv];rfl) h
theorem Oe {ns:List Str} {Q:Unit→Shared→Prop} (X:K.In s.heap) (I:Fz s.heap x dx C mA)
  (hs:PySem.W.findIn K (.ref C) "__setattr__"=some (some (.builtin "object.__setattr__"))) (hp:PySem.W.plainOver K C=true) (ht:PySem.W.takerIn K C name=some none) (hh:PySem.W.hasDictIn K C=true)
  (hw:PySem.Within mA ns) (hsz:ns.length≤sizeLine)
  (h:∀ h',Fz h' x dx C (fun y=>if y=name then some v else mA y)→Heap.SameBut dx s.heap h'→Q () { s with heap:=h',toks:=s.toks+2 }) :
  wpAny (model prog w) A (setAttr (.ref x) name v) Q E s:=by
 obtain ⟨od,J,hl⟩:=I.look
 refine PySem.W.set_plain X J hs (PySem.W.osa_open (s:={ s with toks:=s.toks+1 }) (r:=none) X J hp ht fun b=>?_)
 obtain ⟨cd,hc,hd'⟩:=PySem.W.any_some hh
 have hx:s.heap.get? x=some ⟨.ref C,some dx,.plain,#[]⟩:=I.obj
 refine wpAny_bind (wpAny_pure (wpAny_bind (wpAny_bind (wpAny_loadPart hx (wpAny_bind (PySem.W.Looks.here (s:={ s with toks:=s.toks+1 }) (PySem.W.looks_clsIn X hc) ?_))))))
 rw [hd']
 refine wpAny_pure (a:=some dx) (wpAny_bind (wpAny_pure (wpAny_bind ?_)))
 refine wpAny_nsSet1 (s:={ s with toks:=s.toks+1 }) I.ns fun h' hn2 hs2=>?_
 obtain ⟨oD,esD,epD,hoD,hdD,hcD⟩:=hn2.count (PySem.Within.cons name v hw)
 refine wpAny_bind (wpAny_lookBehind hoD (by rw [hdD];exact pastItsLine_dict (Nat.le_trans hcD (by rw [List.length_cons];omega))) ?_)
 exact wpAny_pure (h _ ⟨(hs2.2 _ (Ne.symm I.ne)).trans I.obj,hn2,I.ne⟩ hs2)
theorem LK {R:Result→Shared→Prop} {vs:List Value} {kw:List (Str×Value)} (X:K.In s.heap) (hm:PySem.W.makesIn K C=true)
  (hi:PySem.W.findIn K (.ref C) "__init__"=some (some (.ref f))) (hf:PySem.W.typeIn K (.ref f)=some (.type "function"))
  (h:codeAny (model prog w) (A.under (.builtin "type.__call__" ⟨.ref C::vs,kw⟩)) (.call (.ref f) ⟨.ref (s.heap.objs.size+1)::vs,kw⟩) (PySem.W.InitBack (s.heap.objs.size+1) R)
   { s with heap:=(s.heap.push PySem.W.emptyDict).push (PySem.W.instObj C s.heap.objs.size) }) :
  codeAny (model prog w) A (.call (.ref C) ⟨vs,kw⟩) R s:=by
 obtain ⟨hh,g,d,t,os⟩:=s
 exact PySem.W.make_core (PySem.W.makes_of X hm) (PySem.W.looks_findIn X hi) (fun self=>PySem.W.bind_fn X self hf) (.inl rfl) h
end
def bw (f:Str) (v:V):List (Str×V)→List (Str×V)
 | []=>[(f,v)]
 | (g,x)::r=>if g=f then (g,v)::r else (g,x)::bw f v r
theorem bM (f g:Str) (v:V):∀ fs:List (Str×V),(bw f v fs).lookup g=if g=f then some v else fs.lookup g
 | []=>by
  show List.lookup g [(f,v)]=_
  by_cases h:g=f
  ·have hb:(g == f)=true:=beq_iff_eq.mpr h
   simp only [List.lookup,hb,if_pos h]
  ·have hb:(g == f)=false:=beq_eq_false_iff_ne.mpr h
   simp only [List.lookup,hb,if_neg h]
 | (k,x)::r=>by
  have ih:=bM f g v r
  rw [show bw f v ((k,x)::r)=(if k=f then (k,v)::r else (k,x)::bw f v r) from rfl]
  by_cases hk:k=f
  ·rw [if_pos hk]
   by_cases h:g=k
   ·have hb:(g == k)=true:=beq_iff_eq.mpr h
    simp only [List.lookup,hb,if_pos (h.trans hk)]
   ·have hb:(g == k)=false:=beq_eq_false_iff_ne.mpr h
    simp only [List.lookup,hb,if_neg (fun e:g=f=>h (e.trans hk.symm))]
  ·rw [if_neg hk]
   by_cases h:g=k
   ·have hb:(g == k)=true:=beq_iff_eq.mpr h
    simp only [List.lookup,hb,if_neg (fun e:g=f=>hk (h.symm.trans e))]
   ·have hb:(g == k)=false:=beq_eq_false_iff_ne.mpr h
    simp only [List.lookup,hb]
    exact ih
theorem uW (f:Str) (v:V):∀ fs:List (Str×V),f∈(bw f v fs).map (·.1)∧∀ g,g∈fs.map (·.1)→g∈(bw f v fs).map (·.1)
 | []=>⟨by simp [bw],fun g h=>by simp at h⟩
 | (k,x)::r=>by
  obtain ⟨i1,i2⟩:=uW f v r
  rw [show bw f v ((k,x)::r)=(if k=f then (k,v)::r else (k,x)::bw f v r) from rfl]
  by_cases hk:k=f
  ·rw [if_pos hk]
   subst hk
   exact ⟨by simp,fun g h=>by simpa using h⟩
  ·rw [if_neg hk]
   refine ⟨?_,fun g h=>?_⟩
   ·rw [List.map_cons]
    exact List.mem_cons_of_mem _ i1
   ·rw [List.map_cons] at h ⊢
    rcases List.mem_cons.mp h with e | e
    ·exact List.mem_cons.mpr (.inl e)
    ·exact List.mem_cons_of_mem _ (i2 g e)
theorem vJ (f:Str) (v:V):∀ fs:List (Str×V),(bw f v fs).length≤fs.length+1
 | []=>by simp [bw]
 | (k,x)::r=>by
  have ih:=vJ f v r
  rw [show bw f v ((k,x)::r)=(if k=f then (k,v)::r else (k,x)::bw f v r) from rfl]
  by_cases hk:k=f
  ·rw [if_pos hk,List.length_cons,List.length_cons];omega
  ·rw [if_neg hk,List.length_cons,List.length_cons];omega
theorem oY.some_of {v:V} {o:Option Value} (r:oY (some v) o):∃ u,o=some u∧RelV v u:=by
 cases o with
 | none=>exact (show False from r).elim
 | some u=>exact ⟨u,rfl,r⟩
theorem oY.none_of {o:Option Value} (r:oY none o):o=none:=by
 cases o with
 | none=>rfl
 | some u=>exact (show False from r).elim
theorem Ig {v:V} {u:Value} (r:RelV v u):PySem.W.handedIn u=true:=by
 cases v with
 | eT=>cases (show u=Value.none from r);rfl
 | bl b=>cases (show u=Value.bool b from r);rfl
 | int i=>obtain ⟨t,e⟩:=(show ∃ t,u=Value.int i t from r);cases e;rfl
 | str x=>obtain ⟨t,e⟩:=(show ∃ t,u=Value.str x t from r);cases e;rfl
 | IV b=>obtain ⟨t,e⟩:=(show ∃ t,u=Value.bytes b t from r);cases e;rfl
 | Sz b=>obtain ⟨t,e⟩:=(show ∃ t,u=Value.float b t from r);cases e;rfl
 | ref a=>cases (show u=Value.ref a from r);rfl
 | ty n=>cases (show u=Value.type n from r);rfl
section
variable {P:Program} {w:World} {H H':Hp} {h h':Heap} {a C dx:Addr} {fs fs':List (Str×V)}
theorem tP (hok:sH P w H h) (e:H a=some (.ins C dx fs)):∃ mA,Fz h a dx C mA∧(∀ f,oY (fs.lookup f) (mA f))∧PySem.Within mA (fs.map (·.1))∧fs.length≤1000∧H dx=some (.own a):=by
 obtain ⟨d,z,ne,ob,mA,n,r,q⟩:=(show gk P w H h a (.ins C dx fs) from hok a _ e)
 exact ⟨mA,⟨ob,n,ne⟩,r,q,z,d⟩
end
structure AL (K:PySem.W.Frag) (C:Addr):Prop where
 pg:PySem.W.plainGet K C Str.empty=true
 hd:PySem.W.hasDictIn K C=true
 po:PySem.W.plainOver K C=true
 sa:PySem.W.findIn K (.ref C) "__setattr__"=some (some (.builtin "object.__setattr__"))
theorem AL.get {K:PySem.W.Frag} {C:Addr} (c:AL K C) (f:Str):PySem.W.plainGet K C f=true:=c.pg
def iz (K:PySem.W.Frag) (C:Addr) (f:Str):Prop:=PySem.W.findIn K (.ref C) f=some none
theorem iz.Uo {K:PySem.W.Frag} {C:Addr} {f:Str} (n:iz K C f):PySem.W.takerIn K C f=some none:=by
 unfold PySem.W.takerIn
 rw [show PySem.W.findIn K (.ref C) f=some none from n]
 rfl
structure Meth (K:PySem.W.Frag) (C:Addr) (m:Str) (f:Addr):Prop where
 at_:PySem.W.findIn K (.ref C) m=some (some (.ref f))
 fn:PySem.W.isFn K (.ref f)=true
 kp:PySem.W.keepIn K (.ref f)=true
section
variable {X:Cx} {pins:List (Addr×Obj)} {σ:St} {H:Hp} {s:Shared} {a C dx:Addr} {fs:List (Str×V)} {f:Str} {v:V} {A:Around} {E:Value→Shared→Prop}
theorem Fg {b:Bool} {Q:Value→Shared→Prop} (I:Inv X pins σ H s) (e:H a=some (.ins C dx fs)) (c:AL X.K C) (n:iz X.K C f) (l:fs.lookup f=some v)
  (h:∀ u s',Inv X pins σ H s'→RelV v u→Q u s'):wpAny (model X.prog X.w) A (getAttr (.ref a) f b) Q E s:=by
 obtain ⟨mA,O,r,_,_,_⟩:=tP I.hok e
 obtain ⟨u,hu,ru⟩:=oY.some_of (v:=v) (o:=mA f) (by rw [← l];exact r f)
 exact get_map I.qJ O (c.get f) c.hd n hu (Ig ru) (h u _ (I.tok _) ru)
theorem oM {m:Str} {g:Addr} {pl:Sem Bool} {Q:Value×List Value→Shared→Prop} (I:Inv X pins σ H s) (e:H a=some (.ins C dx fs)) (c:AL X.K C) (k:Meth X.K C m g) (l:fs.lookup m=none)
  (h:Q (.ref g,[.ref a]) s):wpAny (model X.prog X.w) A (getMethod (.ref a) m pl) Q E s:=by
 obtain ⟨mA,O,r,_,_,_⟩:=tP I.hok e
 have hn:mA m=none:=oY.none_of (by rw [← l];exact r m)
 exact MQ I.qJ O (c.get m) k.at_ k.fn hn h
theorem EC {y:V} {u:Value} {Q:Unit→Shared→Prop} (I:Inv X pins σ H s) (e:H a=some (.ins C dx fs)) (c:AL X.K C) (n:iz X.K C f) (hl:fs.length < 1000) (ry:RelV y u)
  (h:∀ s',Inv X pins σ (upd H a (.ins C dx (bw f y fs))) s'→Q () s'):wpAny (model X.prog X.w) A (setAttr (.ref a) f u) Q E s:=by
 obtain ⟨mA,O,r,wi,_,ho⟩:=tP I.hok e
 have hz:(fs.map (·.1)).length≤sizeLine:=by rw [List.length_map,sizeLine_eq];omega
 refine Oe I.qJ O c.sa c.po n.Uo c.hd wi hz fun h' O' sb=>h _ ?_
 have hd:∃ o,h'.get? dx=some o:=let ⟨o,_,_,e',_⟩:=O'.ns;⟨o,e'⟩
 refine I.write (x:=a) (e:=dx) (by rw [e];exact True.intro) (.inr ho) (fun b q hb z=>(sb.2 b hb).trans z) hd ?_
 refine ⟨by rw [aX O.ne];exact ho,?_,O.ne,O'.obj,_,O'.ns,fun g=>?_,fun g hg=>?_⟩
 ·have:=vJ f y fs;omega
 ·show oY ((bw f y fs).lookup g) (if g=f then some u else mA g)
  rw [bM]
  by_cases q:g=f
  ·rw [if_pos q,if_pos q];exact ry
  ·rw [if_neg q,if_neg q];exact r g
 ·by_cases q:g=f
  ·rw [q];exact (uW f y fs).1
  ·refine (uW f y fs).2 g (wi g fun z=>hg ?_)
   show (if g=f then some u else mA g)=none
   rw [if_neg q];exact z
theorem Inv.made (I:Inv X pins σ H s):Inv X pins σ (upd (upd H s.heap.objs.size (.own (s.heap.objs.size+1))) (s.heap.objs.size+1) (.ins C s.heap.objs.size []))
  { s with heap:=(s.heap.push PySem.W.emptyDict).push (PySem.W.instObj C s.heap.objs.size) }:=by
 have e1:(s.heap.push PySem.W.emptyDict).get? s.heap.objs.size=some PySem.W.emptyDict:=Heap.get?_push_size s.heap rfl
 have e2:((s.heap.push PySem.W.emptyDict).push (PySem.W.instObj C s.heap.objs.size)).get? (s.heap.objs.size+1)=some (PySem.W.instObj C s.heap.objs.size):=by
  have:=Heap.get?_push_size (s.heap.push PySem.W.emptyDict) (o:=PySem.W.instObj C s.heap.objs.size) rfl
  rwa [Heap.size_push] at this
 have e3:(s.heap.push PySem.W.emptyDict).Ns s.heap.objs.size (fun _=>none):=⟨PySem.W.emptyDict,#[],_,e1,rfl,(fun e he=>absurd he (by simp)),fun _=>rfl⟩
 have I1:=I.laid (a:=s.heap.objs.size) (o:=.own (s.heap.objs.size+1)) (h':=s.heap.push PySem.W.emptyDict) (t':=s.toks) (fun b u q=>Heap.get?_push_of_some _ q) (Nat.le_refl _) ⟨_,e1⟩
 refine I1.laid (a:=s.heap.objs.size+1) (o:=.ins C s.heap.objs.size []) (t':=s.toks) (fun b u q=>Heap.get?_push_of_some _ q) (Nat.le_of_eq (Heap.size_push _ _)) ?_
 have ne:s.heap.objs.size≠s.heap.objs.size+1:=Nat.ne_of_lt (Nat.lt_succ_self _)
 refine ⟨by rw [aX ne,af],Nat.zero_le _,ne,e2,fun _=>none,(Heap.Ns1.of_empty e3).at fun o q=>Heap.get?_push_of_some _ q,fun _=>True.intro,fun y hy=>absurd rfl hy⟩
theorem O6 {prog:Program} {w:World} {env:Env} {e:Expr} {f:Str} {pos:Pos} {s:Shared} {Q:Value→Shared→Prop} (hb:attributeBase e f env (eval e env)=eval e env)
  (h:wpAny (model prog w) A (eval e env) (fun o s₁=>wpAny (model prog w) A (getAttr o f true) Q E s₁) E s):wpAny (model prog w) A (eval (.Attribute e f pos) env) Q E s :=
 Attribute_any_ h (by rw [arm_eval_Attribute,hb])
end
def Ut (K:PySem.W.Frag) (ta:TE) (f:Str):TE:=fun σ H Q=>ta σ H fun x H1=>∃ a C dx fs v,x=.ref a∧H1 a=some (.ins C dx fs)∧AL K C∧iz K C f∧fs.lookup f=some v∧Q v H1
def a1n (K:PySem.W.Frag) (ta tv:TE) (f:Str):TS:=fun D σ H=>tv σ H fun y H1=>ta σ H1 fun x H2=>∃ a C dx fs,x=.ref a∧H2 a=some (.ins C dx fs)∧AL K C∧iz K C f∧fs.length < 1000 ∧
 D.nx σ (upd H2 a (.ins C dx (bw f y fs)))
section
variable {X:Cx} {o e value:Expr} {f:Str} {pos pos' tpos:Pos} {ta tv:TE}
theorem aE (he:PE X e ta) (hb:attributeBase e f X.env (eval e X.env)=eval e X.env):PE X (.Attribute e f pos) (Ut X.K ta f):=by
 intro pins s σ H Q I h
 refine O6 hb (gZ (he pins s σ H _ I h) fun u s1 ⟨x,H1,I1,rx,a,C,dx,fs,v,ex,ea,c,n,l,q⟩=>?_)
 subst ex
 obtain rfl:u=Value.ref a:=rx
 exact Fg I1 ea c n l fun u' s2 I2 ru=>⟨v,H1,I2,ru,q⟩
theorem cE (ha:PE X o ta) (hv:PE X value tv) (hs:swapsWith value (some (.Attribute o f pos')) pos.line X.env=pure false):PS X (.Assign [.Attribute o f pos'] value pos) (a1n X.K ta tv f):=by
 intro pins s σ H D I h
 refine plainObj_wpAny_Assign_Attribute (gZ (hv pins s σ H _ I h) fun u s1 ⟨y,H1,I1,ry,q⟩=>gZ (ha pins s1 σ H1 _ I1 q) fun ov s2 ⟨x,H2,I2,rx,a,C,dx,fs,ex,ea,c,n,l,q2⟩=>?_) hs
 subst ex
 obtain rfl:ov=Value.ref a:=rx
 exact EC I2 ea c n l ry fun s3 I3=>⟨σ,_,I3,q2⟩
end
section
variable {X:Cx} {pins:List (Addr×Obj)} {σ:St} {H:Hp} {s:Shared} {A:Around} {E:Value→Shared→Prop} {Q:Value→Shared→Prop} {c:Value} {b:Bool}
inductive sf (K:PySem.W.Frag) (H:Hp):V→Value→Prop where
 | eT:sf K H .eT (.type "NoneType")
 | bl (x:Bool):sf K H (.bl x) (.type "bool")
 | int (i:Int):sf K H (.int i) (.type "int")
 | str (x:Str):sf K H (.str x) (.type "str")
 | Sz (x:UInt64):sf K H (.Sz x) (.type "float")
 | lst {a:Addr} {xs:List V} (e:H a=some (.lst xs)):sf K H (.ref a) (.type "list")
 | Fj {a:Addr} {o:Obj} {xs:List V} (e:H a=some (.Fj o (.lst xs))):sf K H (.ref a) (.type "list")
 | tup {a:Addr} {xs:List V} (e:H a=some (.tup xs)):sf K H (.ref a) (.type "tuple")
 | dK {a:Addr} {kvs:List (Key×V)} (e:H a=some (.dK kvs)):sf K H (.ref a) (.type "dict")
 | dT {a:Addr} {kvs:List (List Key×V)} (e:H a=some (.dT kvs)):sf K H (.ref a) (.type "dict")
 | ins {a C dx:Addr} {fs:List (Str×V)} (e:H a=some (.ins C dx fs)) (cl:AL K C) (ha:PySem.W.findIn K (.ref C) "__class__"=some (some (.builtin "object.__class__")))
   (hn:PySem.W.specialIn K (.builtin "object.__class__") "__get__"=some (some (.builtin "getset_descriptor.__get__"))) (htk:PySem.W.takesIn K (.builtin "object.__class__")=some true)
   (hm:PySem.W.mroIn K C (.type "object")=some true):sf K H (.ref a) (.ref C)
theorem HW {x:V} {u t:Value} (I:Inv X pins σ H s) (rx:RelV x u) (ty:sf X.K H x t) (e:PySem.W.kitOne X.K t c=some b) (h:∀ tk,Q (.bool b) { s with toks:=tk }) :
  wpAny (model X.prog X.w) A (call (.builtin "isinstance") [u,c]) Q E s:=by
 cases ty with
 | eT=>cases (show u=Value.none from rx);exact PySem.W.kia_one PySem.W.kitx_none I.qJ True.intro e (fun z=>nomatch z) h
 | bl y=>cases (show u=Value.bool y from rx);exact PySem.W.kia_one PySem.W.kitx_bool I.qJ True.intro e (fun z=>nomatch z) h
 | int i=>obtain ⟨t,q⟩:=(show ∃ t,u=Value.int i t from rx);cases q;exact PySem.W.kia_one PySem.W.kitx_int I.qJ True.intro e (fun z=>nomatch z) h
 | str y=>obtain ⟨t,q⟩:=(show ∃ t,u=Value.str y t from rx);cases q;exact PySem.W.kia_one PySem.W.kitx_str I.qJ True.intro e (fun z=>nomatch z) h
 | Sz y=>obtain ⟨t,q⟩:=(show ∃ t,u=Value.float y t from rx);cases q;exact PySem.W.kia_one PySem.W.kitx_float I.qJ True.intro e (fun z=>nomatch z) h
 | @lst a xs ea =>
  cases (show u=Value.ref a from rx)
  obtain ⟨_,_,n,_,h1⟩:=(show gk X.prog X.w H s.heap a (.lst xs) from I.hok a _ ea)
  exact PySem.W.kia_one PySem.W.kitx_list I.qJ ⟨_,h1,rfl⟩ e (fun z=>nomatch z) h
 | @Fj a ob xs ea =>
  cases (show u=Value.ref a from rx)
  obtain ⟨_,_,_,n,_,h1⟩:=(show gk X.prog X.w H s.heap a (.Fj ob (.lst xs)) from I.hok a _ ea)
  exact PySem.W.kia_one PySem.W.kitx_list I.qJ ⟨_,h1,rfl⟩ e (fun z=>nomatch z) h
 | @tup a xs ea =>
  cases (show u=Value.ref a from rx)
  obtain ⟨_,_,_,p⟩:=(show gk X.prog X.w H s.heap a (.tup xs) from I.hok a _ ea)
  obtain ⟨o,h1,h2,_⟩:=p
  exact PySem.W.kia_one PySem.W.kitx_tuple I.qJ ⟨o,h1,h2⟩ e (fun z=>nomatch z) h
 | @dK a kvs ea =>
  cases (show u=Value.ref a from rx)
  obtain ⟨_,_,vs,_,p⟩:=(show gk X.prog X.w H s.heap a (.dK kvs) from I.hok a _ ea)
  obtain ⟨o,es,ep,h1,h2,_⟩:=p
  exact PySem.W.kia_one PySem.W.kitx_dict I.qJ ⟨o,h1,h2.1⟩ e (fun z=>nomatch z) h
 | @dT a kvs ea =>
  cases (show u=Value.ref a from rx)
  obtain ⟨_,_,xs,_,o,es,ep,h1,h2,_⟩:=(show gk X.prog X.w H s.heap a (.dT kvs) from I.hok a _ ea)
  exact PySem.W.kia_one PySem.W.kitx_dict I.qJ ⟨o,h1,h2.1⟩ e (fun z=>nomatch z) h
 | @ins a C dx fs ea cl ha hn htk hm =>
  cases (show u=Value.ref a from rx)
  obtain ⟨mA,O,_⟩:=tP I.hok ea
  obtain ⟨od,J,_⟩:=O.look
  exact PySem.W.kia_one (PySem.W.kitx_own (cl.get _) cl.hd ha hn htk hm) I.qJ J e (fun z=>nomatch z) h
end
end L2
namespace L2
open PySem PySem.Spec PyProof.Rows
structure dZ (k:Nat) (A:Around):Prop where
 hd:A.handled=none
 dp:A.depth+3*k+5 < recursionLimit
 un:A.units+16*k+200 < cLine
theorem dZ.mono {j k:Nat} {A:Around} (r:dZ k A) (h:j≤k):dZ j A:=⟨r.hd,by have:=r.dp;omega,by have:=r.un;omega⟩
theorem dZ.deeper {k:Nat} {A:Around} (r:dZ (k+1) A) (env:Env):dZ k (A.deeper env) :=
 ⟨r.hd,by have:=r.dp;show A.depth+1+3*k+5 < _;omega,by have:=r.un;show A.units+3+16*k+200 < _;omega⟩
theorem Fb {A:Around} {C:Addr} {us:List Value} {kw:List (Str×Value)}:(A.under (.builtin "type.__call__" ⟨.ref C::us,kw⟩)).depth=A.depth+1:=by
 first | rfl | simp [Around.under,Code.weight,Code.isCreation,Code.isGuard,Code.isCaller,Code.frames,Code.isFrame,guardIds]
theorem E9 {A:Around} {C:Addr} {us:List Value} {kw:List (Str×Value)}:(A.under (.builtin "type.__call__" ⟨.ref C::us,kw⟩)).units=A.units+1:=by
 first | rfl | simp [Around.under,Code.cUnits,Code.frames,Code.isFrame]
theorem dZ.make {k:Nat} {A:Around} (r:dZ (k+1) A) (C:Addr) (us:List Value) (kw:List (Str×Value)):dZ k (A.under (.builtin "type.__call__" ⟨.ref C::us,kw⟩)) :=
 ⟨r.hd,by have:=r.dp;rw [Fb];omega,by have:=r.un;rw [E9];omega⟩
theorem dZ.depth {k:Nat} {A:Around} (r:dZ k A):A.depth < recursionLimit:=by have:=r.dp;omega
theorem dZ.units {k:Nat} {A:Around} (r:dZ k A):A.units+64 < cLine:=by have:=r.un;omega
def N8:TA:=fun _ H Q=>Q [] H
def PX (ta:TE) (tr:TA):TA:=fun σ H Q=>ta σ H fun x H1=>tr σ H1 fun xs H2=>Q (x::xs) H2
section
variable {X:Cx} {e:Expr} {es:List Expr} {te:TE} {t:TA} {pos:Pos}
theorem ah:PA X [] N8:=fun _ _ _ _ H Q I h=>Calls.spliced_nil ⟨[],H,I,.nil,h⟩
theorem dN (ha:PE X e te) (hr:PA X es t) (hs:starEach (e::es) X.env=(false,eval e X.env)::starEach es X.env:=by rfl):PA X (e::es) (PX te t):=by
 intro pos pins s σ H Q I h
 rw [hs]
 show wpAny _ _ (spliced ((false,eval e X.env)::backTo pos (starEach es X.env))) _ _ s
 refine Calls.spliced_cons (gZ (ha pins s σ H _ I h) fun u s1 ⟨x,H1,I1,r1,q1⟩=>?_)
 exact gZ (hr pos pins s1 σ H1 _ I1 q1) fun us s2 ⟨xs,H2,I2,r2,q2⟩=>⟨x::xs,H2,I2,.cons r1 r2,q2⟩
def a0a (t:TA):TE:=fun σ H Q=>t σ H fun xs H1=>xs.length≤sizeLine∧∀ p,H1 p=none→Q (.ref p) (upd H1 p (.tup xs))
def Us (t:TA):TE:=fun σ H Q=>t σ H fun xs H1=>xs.length≤sizeLine∧∀ p,H1 p=none→Q (.ref p) (upd H1 p (.lst xs))
theorem aQ {x1} (h:PA X es t):PE X (.Tuple es x1 pos) (a0a t):=by
 intro pins s σ H Q I hq
 refine wpAny_Tuple_spliced (gZ (h pos pins s σ H _ I hq) fun us s1 ⟨xs,H1,I1,r,z,q⟩=>⟨by rw [← r.length];exact z,?_⟩)
 have hf:H1 s1.heap.objs.size=none:=I1.hok.fresh (Nat.le_refl _)
 refine ⟨.ref s1.heap.objs.size,upd H1 s1.heap.objs.size (.tup xs),I1.laid (t':=s1.toks) (fun b u e=>Heap.get?_push_of_some _ e) (Nat.le_refl _) ?_,rfl,q _ hf⟩
 exact ⟨z,us,r,⟨_,Heap.get?_push_size _ rfl,rfl,_,rfl⟩⟩
theorem cZ (h:PA X es t):PE X (.List es pos) (Us t):=by
 intro pins s σ H Q I hq
 refine wpAny_List_spliced (gZ (h pos pins s σ H _ I hq) fun us s1 ⟨xs,H1,I1,r,z,q⟩=>⟨by rw [← r.length];exact z,?_⟩)
 have hf:H1 s1.heap.objs.size=none:=I1.hok.fresh (Nat.le_refl _)
 refine ⟨.ref s1.heap.objs.size,upd H1 s1.heap.objs.size (.lst xs),I1.laid (t':=s1.toks) (fun b u e=>Heap.get?_push_of_some _ e) (Nat.le_refl _) ?_,rfl,q _ hf⟩
 exact ⟨z,us,0,r,Heap.get?_push_size _ rfl⟩
end
abbrev Sp:=List V→Hp→VK→XK→Prop
abbrev IF:=List Env→Hp→Shared→XK→Value→Shared→Prop
structure FH (P:Program) (w:World) (K:PySem.W.Frag) (mg:Str→Option Value) (base:Heap) (A:Around) (outer:List Env) (s:Shared) (H:Hp):Prop where
 frames:A.frames=some outer
 mod:Mod K mg base
 bs:∀ b o,base.get? b=some o→s.heap.get? b=some o∧H b=none
 O5:base.objs.size≤s.heap.objs.size
 vZ:s.heap.FunFrames base outer
 Sx:∀ b∈frs outer,H b=none
 hok:sH P w H s.heap
 bare:AllBare s.gens
def CE (outer:List Env) (P:Program) (w:World) (H:Hp) (s:Shared) (Q:VK) (u:Value) (s':Shared):Prop :=
 ∃ v H',s'.os=s.os∧AllBare s'.gens∧Un (frs outer) [] H H' s.heap s'.heap∧sH P w H' s'.heap∧RelV v u∧Q v H'
def CR (CX:IF) (outer:List Env) (P:Program) (w:World) (H:Hp) (s:Shared) (Q:VK) (E:XK) (r:Result) (s':Shared):Prop :=
 match r with
 | .ok (.ret u)=>CE outer P w H s Q u s'
 | .ok _=>False
 | .error e=>CX outer H s E e s'
structure bT (P:Program) (w:World) (K:PySem.W.Frag) (mg:Str→Option Value) (base:Heap) (CX:IF) (k:Nat) (f:Addr) (fd:FuncData) (ps:List Str) (sp:Sp):Prop where
 len:∀ vs H Q E,sp vs H Q E→vs.length=ps.length
 run:∀ (A:Around) (outer:List Env) (s:Shared) (H:Hp) (args:Args) (us:List Value) (vs:List V) (Q:VK) (E:XK),dZ k A→FH P w K mg base A outer s H→BindsTo s fd args (ps.zip us)→Vals vs us→sp vs H Q E →
  codeAny (model P w) A (.call (.ref f) args) (CR CX outer P w H s Q E) s
theorem FH.make {P:Program} {w:World} {K:PySem.W.Frag} {mg:Str→Option Value} {base:Heap} {A:Around} {outer:List Env} {s:Shared} {H:Hp} (e:FH P w K mg base A outer s H) (C:Addr) (us:List Value) (kw:List (Str×Value)) :
  FH P w K mg base (A.under (.builtin "type.__call__" ⟨.ref C::us,kw⟩)) outer s H:=⟨by first | exact e.frames | (simpa [Around.under,Code.envs,Code.isFrame,pushEnvs] using e.frames),e.mod,e.bs,e.O5,e.vZ,e.Sx,e.hok,e.bare⟩
section
variable {X:Cx} {pins:List (Addr×Obj)} {σ:St} {H:Hp} {s s':Shared}
theorem Inv.VZ (I:Inv X pins σ H s):FH X.prog X.w X.K X.mg X.base X.A X.stack s H :=
 ⟨I.ok.frames,I.ok.mod,I.bs,Nat.le_trans I.ok.O5 I.sz,I.stack,I.FW,I.hok,I.bare⟩
theorem Inv.after {Q:VK} {u:Value} (I:Inv X pins σ H s) (h:CE X.stack X.prog X.w H s Q u s'):EP X pins σ Q u s':=by
 obtain ⟨v,H',os,bare,un,hok,r,q⟩:=h
 obtain ⟨hh,g,d,t,os'⟩:=s'
 obtain rfl:os'=s.os:=os
 exact ⟨v,H',I.call (h':=hh) (g':=g) (d':=d) (t':=t) (ch:=[]) un hok bare (fun b z=>absurd z (by simp)),r,q⟩
end
def FO (sp:Sp) (uo:List V) (E:XK) (t:TA):TE:=fun σ H Q=>t σ H fun vs H1=>sp (vs++uo) H1 Q E
def PU (C:Addr) (m:Str) (sp:Sp) (uo:List V) (E:XK) (ta:TE) (t:TA):TE:=fun σ H Q=>ta σ H fun x H1=>∃ a dx fs,x=.ref a∧H1 a=some (.ins C dx fs)∧fs.lookup m=none ∧
 t σ H1 fun vs H2=>sp (x::(vs++uo)) H2 Q E
def PV (C:Addr) (sp:Sp) (uo:List V) (E:XK) (t:TA):TE:=fun σ H Q=>t σ H fun vs H1=>∀ x dx,H1 x=none→H1 dx=none→dx≠x →
 sp (.ref x::(vs++uo)) (upd (upd H1 dx (.own x)) x (.ins C dx [])) (fun v H2=>v=.eT∧Q (.ref x) H2) E
def Binds (K:PySem.W.Frag) (fd:FuncData) (ps:List Str) (ds:List Value):Prop :=
 ∀ (s:Shared) (us:List Value),K.In s.heap→(us++ds).length=ps.length→BindsTo s fd ⟨us,[]⟩ (ps.zip (us++ds))
theorem Binds.all {K:PySem.W.Frag} {fd:FuncData} {ps:List Str} (h:∀ us:List Value,us.length=ps.length→bindArgs fd ⟨us,[]⟩=pure (ps.zip us)):Binds K fd ps []:=fun s us _ hl=>by
 rw [List.append_nil] at hl ⊢
 exact .of_eq (h us hl)
def Passes (CX:IF) (X:Cx) (E:XK):Prop:=∀ (pins:List (Addr×Obj)) (σ:St) (H:Hp) (s:Shared) (e:Value) (s':Shared),Inv X pins σ H s→CX X.stack H s E e s'→X.xe e s'
section
variable {X:Cx} {CX:IF} {k:Nat} {f C:Addr} {fd:FuncData} {ps:List Str} {sp:Sp} {uo:List V} {ds:List Value} {E:XK} {x m:Str} {p pos apos:Pos} {e o:Expr} {es:List Expr} {ta:TE} {t:TA}
theorem qY {pins:List (Addr×Obj)} {σ:St} {H:Hp} {s:Shared} {Q:VK} {us:List Value} {vs:List V} (F:bT X.prog X.w X.K X.mg X.base CX k f fd ps sp) (hr:dZ k X.A) (hb:Binds X.K fd ps ds) (hd:Vals uo ds) (hx:Passes CX X E)
  (I:Inv X pins σ H s) (r:Vals vs us) (h:sp (vs++uo) H Q E):wpAny (model X.prog X.w) X.A (call (.ref f) us) (EP X pins σ Q) X.xe s:=by
 have r2:Vals (vs++uo) (us++ds):=r.append hd
 have hl:(us++ds).length=ps.length:=by rw [← r2.length];exact F.len _ _ _ _ h
 refine wpAny_call (codeAny_mono (F.run X.A X.stack s H ⟨us,[]⟩ (us++ds) (vs++uo) Q E hr I.VZ (hb s us I.qJ hl) r2 h) fun r s' hq=>?_)
 cases r with
 | error e=>exact hx pins σ H s e s' I hq
 | ok fl =>
  cases fl with
  | ret u=>exact I.after hq
  | next=>exact False.elim hq
  | brk=>exact False.elim hq
  | cont=>exact False.elim hq
theorem Oi (F:bT X.prog X.w X.K X.mg X.base CX k f fd ps sp) (hr:dZ k X.A) (hg:Gl X x) (hm:X.mg x=some (.ref f)) (hk:PySem.W.keepIn X.K (.ref f)=true) (hb:Binds X.K fd ps ds) (hd:Vals uo ds) (hx:Passes CX X E)
  (ha:PA X (e::es) t) (hdb:(x == ("__debug__":Str))=false:=by decide) (he:starEach (e::es) X.env=(false,eval e X.env)::starEach es X.env:=by rfl) (hpl:(backTo pos (starEach es X.env)).any (·.1)=false:=by rfl) :
  PE X (.Call (.Name x p) (e::es) [] pos) (FO sp uo E t):=by
 intro pins s σ H Q I h
 refine wpAny_Call_Name_kw (tN I hg hm ?_ hdb)
 refine PySem.W.callWith_K (h₀:=X.base) I.ok.mod.NS hk (gZ (ha pos pins s σ H _ I h) fun us s1 ⟨vs,H1,I1,r,q⟩=>⟨I1.qJ,?_⟩) he hpl
 exact qY F hr hb hd hx I1 r q
theorem KL (F:bT X.prog X.w X.K X.mg X.base CX k f fd ps sp) (hr:dZ k X.A) (hg:Gl X x) (hm:X.mg x=some (.ref f)) (hk:PySem.W.keepIn X.K (.ref f)=true) (hb:Binds X.K fd ps ds) (hd:Vals uo ds) (hx:Passes CX X E)
  (hdb:(x == ("__debug__":Str))=false:=by decide):PE X (.Call (.Name x p) [] [] pos) (FO sp uo E N8):=by
 intro pins s σ H Q I h
 refine wpAny_Call_Name_kw (tN I hg hm ?_ hdb)
 exact PySem.W.callWith_K0 I.qJ hk (qY (us:=[]) F hr hb hd hx I .nil h)
theorem zH {pl:Sem Bool} (he:PE X o ta) (c:AL X.K C) (hm:Meth X.K C m f) (F:bT X.prog X.w X.K X.mg X.base CX k f fd ps sp) (hr:dZ k X.A) (hb:Binds X.K fd ps ds) (hd:Vals uo ds) (hx:Passes CX X E) (ha:PA X (e::es) t)
  (hst:starEach (e::es) X.env=(false,eval e X.env)::starEach es X.env:=by rfl) (hpl:(backTo pos (starEach es X.env)).any (·.1)=false:=by rfl)
  (ht:eval (.Call (.Attribute o m apos) (e::es) [] pos) X.env=(do
   let ov ← eval o X.env
   standAt apos.atName
   let (f,first) ← holding [ov] (getMethod ov m pl)
   callWith pos f first (backTo pos (starEach (e::es) X.env)) (backToKw pos (keywordEach [] X.env))):=by rfl) :
  PE X (.Call (.Attribute o m apos) (e::es) [] pos) (PU C m sp uo E ta t):=by
 intro pins s σ H Q I h
 refine PySem.W.methodCall_KW (pl:=pl) (gZ (he pins s σ H _ I h) fun u s1 ⟨x,H1,I1,rx,a,dx,fs,ex,ea,l,q⟩=>?_) ht
 subst ex
 obtain rfl:u=Value.ref a:=rx
 refine oM I1 ea c hm l ?_
 refine PySem.W.callWith_K (first:=[.ref a]) (h₀:=X.base) I.ok.mod.NS hm.kp (gZ (ha pos pins s1 σ H1 _ I1 q) fun us s2 ⟨vs,H2,I2,r,q2⟩=>⟨I2.qJ,?_⟩) hst hpl
 exact qY (us:=.ref a::us) (vs:=.ref a::vs) F hr hb hd hx I2 (.cons rfl r) q2
theorem fP {pl:Sem Bool} (he:PE X o ta) (c:AL X.K C) (hm:Meth X.K C m f) (F:bT X.prog X.w X.K X.mg X.base CX k f fd ps sp) (hr:dZ k X.A) (hb:Binds X.K fd ps ds) (hd:Vals uo ds) (hx:Passes CX X E)
  (ht:eval (.Call (.Attribute o m apos) [] [] pos) X.env=(do
   let ov ← eval o X.env
   standAt apos.atName
   let (f,first) ← holding [ov] (getMethod ov m pl)
   callWith pos f first (backTo pos (starEach [] X.env)) (backToKw pos (keywordEach [] X.env))):=by rfl) :
  PE X (.Call (.Attribute o m apos) [] [] pos) (PU C m sp uo E ta N8):=by
 intro pins s σ H Q I h
 refine PySem.W.methodCall_KW (pl:=pl) (gZ (he pins s σ H _ I h) fun u s1 ⟨x,H1,I1,rx,a,dx,fs,ex,ea,l,q⟩=>?_) ht
 subst ex
 obtain rfl:u=Value.ref a:=rx
 refine oM I1 ea c hm l ?_
 exact PySem.W.callWith_K0 (first:=[.ref a]) I1.qJ hm.kp (qY (us:=[.ref a]) (vs:=[.ref a]) F hr hb hd hx I1 (.cons rfl .nil) q)
structure Mk (K:PySem.W.Frag) (C f:Addr):Prop where
 makes:PySem.W.makesIn K C=true
 init:PySem.W.findIn K (.ref C) "__init__"=some (some (.ref f))
 fn:PySem.W.isFn K (.ref f)=true
 kp:PySem.W.keepIn K (.ref C)=true
theorem JS {pins:List (Addr×Obj)} {σ:St} {H:Hp} {s:Shared} {Q:VK} {us:List Value} {vs:List V} (M:Mk X.K C f) (F:bT X.prog X.w X.K X.mg X.base CX k f fd ps sp) (hr:dZ (k+1) X.A) (hb:Binds X.K fd ps ds) (hd:Vals uo ds)
  (hx:Passes CX X E) (I:Inv X pins σ H s) (r:Vals vs us)
  (h:∀ x dx,H x=none→H dx=none→dx≠x→sp (.ref x::(vs++uo)) (upd (upd H dx (.own x)) x (.ins C dx [])) (fun v H2=>v=.eT∧Q (.ref x) H2) E) :
  wpAny (model X.prog X.w) X.A (call (.ref C) us) (EP X pins σ Q) X.xe s:=by
 have hq:=h (s.heap.objs.size+1) s.heap.objs.size (I.hok.fresh (Nat.le_succ _)) (I.hok.fresh (Nat.le_refl _)) (Nat.ne_of_lt (Nat.lt_succ_self _))
 have I2:=Inv.made (C:=C) I
 have r2:Vals (V.ref (s.heap.objs.size+1)::(vs++uo)) (Value.ref (s.heap.objs.size+1)::(us++ds)):=.cons rfl (r.append hd)
 have hl:(Value.ref (s.heap.objs.size+1)::us++ds).length=ps.length:=by
  have e:=r2.length
  rw [F.len _ _ _ _ hq] at e
  exact e.symm
 refine wpAny_call (LK (f:=f) I.qJ M.makes M.init (beq_iff_eq.mp M.fn) (codeAny_mono (F.run _ X.stack _ _ ⟨Value.ref (s.heap.objs.size+1)::us,[]⟩ (Value.ref (s.heap.objs.size+1)::(us++ds)) _ _ E (hr.make C us [])
  (I2.VZ.make C us []) (hb _ (Value.ref (s.heap.objs.size+1)::us) I2.qJ hl) r2 hq) fun r s' hq'=>?_))
 cases r with
 | error e=>exact hx pins σ _ _ e s' I2 hq'
 | ok fl =>
  cases fl with
  | ret u =>
   obtain ⟨v,H',I3,rv,ev,q3⟩:=I2.after hq'
   subst ev
   exact ⟨rv,⟨V.ref (s.heap.objs.size+1),H',I3,rfl,q3⟩⟩
  | next=>exact False.elim hq'
  | brk=>exact False.elim hq'
  | cont=>exact False.elim hq'
theorem Gm (M:Mk X.K C f) (F:bT X.prog X.w X.K X.mg X.base CX k f fd ps sp) (hr:dZ (k+1) X.A) (hg:Gl X x) (hm:X.mg x=some (.ref C)) (hb:Binds X.K fd ps ds) (hd:Vals uo ds) (hx:Passes CX X E)
  (ha:PA X (e::es) t) (hdb:(x == ("__debug__":Str))=false:=by decide) (he:starEach (e::es) X.env=(false,eval e X.env)::starEach es X.env:=by rfl) (hpl:(backTo pos (starEach es X.env)).any (·.1)=false:=by rfl) :
  PE X (.Call (.Name x p) (e::es) [] pos) (PV C sp uo E t):=by
 intro pins s σ H Q I h
 refine wpAny_Call_Name_kw (tN I hg hm ?_ hdb)
 refine PySem.W.callWith_K (h₀:=X.base) I.ok.mod.NS M.kp (gZ (ha pos pins s σ H _ I h) fun us s1 ⟨vs,H1,I1,r,q⟩=>⟨I1.qJ,?_⟩) he hpl
 exact JS M F hr hb hd hx I1 r q
end
section
variable {X:Cx} {CX:IF} {k:Nat} {f C:Addr} {fd:FuncData} {ps ks:List Str} {sp:Sp} {E:XK} {x m:Str} {p pos apos kpos:Pos} {e o:Expr} {es:List Expr} {kws:List Keyword} {te ta:TE} {t tk:TA} {nm:Option Str}
variable {g:List Value→List Value→List Value} {gV:List V→List V→List V}
end
structure aO (N P:List Str) (sc:Scope):Prop where
 kind:sc.kind=.function
 co:sc.isCoroutine=false
 gen:sc.isGenerator=false
 nd:N.Nodup
 pre:N.take P.length=P
 par:∀ x∈P,sc.names.lookup x=some .local∨sc.names.lookup x=some .cell
 RL:∀ y∈sc.names,y.2≠.free
theorem zd {kindOf:Str→Option NameKind} {x:Str}:∀ {binds:List (Str×Value)} {m:Str→Option Value},(∀ v,(x,v) ∉ binds)→bindL kindOf binds m x=m x
 | [],_,_=>rfl
 | (n,v)::r,m,h=>by
  unfold bindL
  rw [zd fun w hw=>h w (List.mem_cons_of_mem _ hw)]
  split
  ·have:x≠n:=by rintro rfl;exact h v List.mem_cons_self
   simp [this]
  ·rfl
theorem zf {kindOf:Str→Option NameKind} {x:Str}:∀ {binds:List (Str×Value)} {m:Str→Option Value},(∀ v,(x,v) ∉ binds)→bindC kindOf binds m x=m x
 | [],_,_=>rfl
 | (n,v)::r,m,h=>by
  unfold bindC
  rw [zf fun w hw=>h w (List.mem_cons_of_mem _ hw)]
  split
  ·rfl
  ·have:x≠n:=by rintro rfl;exact h v List.mem_cons_self
   simp [this]
theorem ze {kindOf:Str→Option NameKind} {x:Str} {v:Value}:∀ {P:List Str} {vs:List Value} {i:Nat} {m:Str→Option Value},P.Nodup→P[i]?=some x→vs[i]?=some v→kindOf x=some .local →
  bindL kindOf (P.zip vs) m x=some v
 | [],_,_,_,_,h,_,_=>by simp at h
 | _::_,[],_,_,_,_,h,_=>by simp at h
 | p::P,w::vs,0,m,nd,h1,h2,hk=>by
  simp at h1 h2;subst h1;subst h2
  show bindL kindOf ((p,w)::P.zip vs) m p=_
  unfold bindL
  rw [zd fun v hv=>(List.nodup_cons.mp nd).1 (List.of_mem_zip hv).1,if_pos hk]
  simp
 | p::P,w::vs,i+1,m,nd,h1,h2,hk=>by
  show bindL kindOf ((p,w)::P.zip vs) m x=_
  unfold bindL
  exact ze (i:=i) (List.nodup_cons.mp nd).2 (by simpa using h1) (by simpa using h2) hk
theorem zg {kindOf:Str→Option NameKind} {x:Str} {v:Value}:∀ {P:List Str} {vs:List Value} {i:Nat} {m:Str→Option Value},P.Nodup→P[i]?=some x→vs[i]?=some v→kindOf x≠some .local →
  bindC kindOf (P.zip vs) m x=some v
 | [],_,_,_,_,h,_,_=>by simp at h
 | _::_,[],_,_,_,_,h,_=>by simp at h
 | p::P,w::vs,0,m,nd,h1,h2,hk=>by
  simp at h1 h2;subst h1;subst h2
  show bindC kindOf ((p,w)::P.zip vs) m p=_
  unfold bindC
  rw [zf fun v hv=>(List.nodup_cons.mp nd).1 (List.of_mem_zip hv).1,if_neg hk]
  simp
 | p::P,w::vs,i+1,m,nd,h1,h2,hk=>by
  show bindC kindOf ((p,w)::P.zip vs) m x=_
  unfold bindC
  exact zg (i:=i) (List.nodup_cons.mp nd).2 (by simpa using h1) (by simpa using h2) hk
def start (N:List Str) (vs:List V):St:=vs.map some++List.replicate (N.length - vs.length) none
def jQ (CX:IF) (P:Program) (w:World) (K:PySem.W.Frag) (mg:Str→Option Value) (base:Heap) (N:List Str) (qual:Str) (scope:Scope) (f:Addr) (cd:Value) (A:Around) (outer:List Env) (s:Shared) (H:Hp) (E:XK):Cx where
 prog:=P
 w:=w
 K:=K
 mg:=mg
 base:=base
 A:=A.deeper (envOfC qual scope s.heap.objs.size f cd)
 N:=N
 s₀:=s
 H₀:=H
 env:=envOfC qual scope s.heap.objs.size f cd
 outer:=outer
 stack:=envOfC qual scope s.heap.objs.size f cd::outer
 ex:=[]
 calm:=true
 fn:=fun _=>true
 pn:=[]
 xe:=fun e s'=>wpAny (model P w) (A.deeper (envOfC qual scope s.heap.objs.size f cd)) (leaving (envOfC qual scope s.heap.objs.size f cd) e) (fun _ s''=>CX outer H s E e s'') (fun e' s''=>CX outer H s E e' s'') s'
theorem BK {sc:Scope} {n:Nat} {x:Str} (h:sc.names.lookup x=some .cell):∃ c,(cellsFrom n sc.names []).lookup x=some c:=by
 have q:=PySem.W.cellsFrom_some sc.names n [] (.inl h)
 exact Option.isSome_iff_exists.mp q
theorem HY {CX:IF} {P:Program} {w:World} {K:PySem.W.Frag} {mg:Str→Option Value} {base:Heap} {N ps:List Str} {qual:Str} {scope:Scope} {f:Addr} {cd:Value} {A:Around} {outer:List Env} {s s1:Shared} {H:Hp} {E:XK} {us:List Value} {vs:List V}
  (S:aO N ps scope) (hd:A.handled=none) (e0:FH P w K mg base A outer s H) (hl:vs.length=ps.length) (r:Vals vs us)
  (x:InCallC s s.heap.objs.size (bindL (envOfC qual scope s.heap.objs.size f cd).kindOf (ps.zip us) fun _=>none) (cellsFrom (s.heap.objs.size+1) scope.names []) (bindC (envOfC qual scope s.heap.objs.size f cd).kindOf (ps.zip us) fun _=>none) s1) :
  Inv (jQ CX P w K mg base N qual scope f cd A outer s H E) [] (start N vs) H s1:=by
 have hpl:ps.length≤N.length:=by have:=congrArg List.length S.pre;rw [List.length_take] at this;omega
 obtain ⟨h1,tk,rfl,hk⟩:=x.done
 have UU:∀ b:Addr,b ∉ (jQ CX P w K mg base N qual scope f cd A outer s H E).ex:=fun b z=>absurd (show b∈([]:List Addr) from z) (by simp)
 refine ⟨⟨e0.mod,S.kind,rfl,rfl,Nat.le_refl _,fun y z c h1 h2=>?_,fun y hy=>?_,fun y c _ h=>?_,fun _=>hd,Around.frames_deeper e0.frames,.inr ⟨rfl,rfl⟩,fun b z=>absurd z (UU b),e0.bs,e0.O5,fun b _ _=>UU b,fun b z=>absurd z (UU b),e0.vZ,e0.Sx⟩,
  rfl,e0.bare,Un.kept hk,⟨_,x.toInCall.ns,fun i y v h1 h2 h3=>?_⟩,fun y c h=>⟨_,x.cell y c h⟩,e0.hok.fresh (Nat.le_refl _),fun y c h=>?_,fun p hp=>absurd (show p∈([]:List (Addr×Obj)) from hp) (by simp),e0.hok.kept hk,?_⟩
 ·exact name_of_addr x.apart (PySem.mem_of_lookup h1) (PySem.mem_of_lookup h2)
 ·have hy:scope.names.lookup y=some .cell∨scope.names.lookup y=some .free:=hy
  rcases hy with hy | hy
  ·exact BK hy
  ·exact absurd rfl (S.RL _ (PySem.mem_of_lookup hy))
 ·exact Nat.le_of_lt (x.above y c (PySem.mem_of_lookup h))
 ·have hi:i < vs.length:=by
   unfold start at h2
   by_cases hi:i < vs.length
   ·exact hi
   ·rw [List.getElem?_append_right (by simpa using hi)] at h2
    rw [List.getElem?_replicate] at h2
    split at h2 <;> cases h2
  have ha:vs[i]?=some v:=by
   unfold start at h2
   rw [List.getElem?_append_left (by simpa using hi),List.getElem?_map] at h2
   cases e:vs[i]? with
   | none=>rw [e] at h2;cases h2
   | some a=>rw [e] at h2;cases h2;rfl
  obtain ⟨u,hu,rv⟩:=r.get ha
  have hp:ps[i]?=some y:=by
   rw [← S.pre,List.getElem?_take_of_lt (by omega)];exact h1
  have ndP:ps.Nodup:=by rw [← S.pre];exact S.nd.sublist (List.take_sublist _ _)
  refine ⟨u,rv,?_⟩
  rcases S.par y (List.mem_of_getElem? hp) with k | k
  ·exact .inl ⟨k,ze ndP hp hu k⟩
  ·obtain ⟨c,e⟩:=BK (n:=s.heap.objs.size+1) k
   refine .inr ⟨.inl k,c,e,?_⟩
   have q:=x.cell y c e
   rw [zg ndP hp hu (by show scope.names.lookup y≠_;rw [k];decide)] at q
   exact q
 ·exact e0.hok.fresh (Nat.le_of_lt (x.above y c (PySem.mem_of_lookup h)))
 ·unfold start
  show _=N.length
  rw [List.length_append,List.length_map,List.length_replicate]
  omega
theorem Vt {CX:IF} {P:Program} {w:World} {K:PySem.W.Frag} {mg:Str→Option Value} {base:Heap} {k:Nat} {f:Addr} {name qual:Str} {params:Arguments} {body:List Stmt} {scope:Scope} {dV kV doc pm cdv ct oc:Value} {an od:Option Addr}
  {osl:Array (Option Value)} {N ps:List Str} {sp:Sp} (lk:K.lookup f=some ⟨oc,od,.func (PySem.W.fnOf name qual params body scope dV kV doc pm an cdv ct),osl⟩) (hcd:PySem.W.codeIn K cdv qual=true) (S:aO N ps scope)
  (len:∀ vs H Q E,sp vs H Q E→vs.length=ps.length)
  (hbody:∀ (A:Around) (outer:List Env) (s:Shared) (H:Hp) (vs:List V) (Q:VK) (E:XK),dZ k (A.deeper (envOfC qual scope s.heap.objs.size f cdv))→sp vs H Q E →
   ∃ t,IA (jQ CX P w K mg base N qual scope f cdv A outer s H E) body t∧t { nx:=fun _ H'=>Q .eT H',rt:=Q } (start N vs) H) :
  bT P w K mg base CX (k+1) f (PySem.W.fnOf name qual params body scope dV kV doc pm an cdv ct) ps sp:=by
 refine ⟨len,fun A outer s H args us vs Q E hr e0 hb r Qg=>?_⟩
 have hl:=len _ _ _ _ Qg
 have KX:K.In s.heap:=e0.mod.NS.keeps fun b o e=>(e0.bs b o e).1
 have lim:s.heap.NoLimit:=e0.mod.nolimit.keeps fun b o e=>(e0.bs b o e).1
 have hkind:∀ y∈ps.zip us,scope.names.lookup y.1=some .local∨(scope.names.lookup y.1=some .cell∧((cellsFrom (s.heap.objs.size+1) scope.names []).lookup y.1).isSome=true):=fun ⟨n,v⟩ hy=>by
  rcases S.par n (List.of_mem_zip hy).1 with q | q
  ·exact .inl q
  ·exact .inr ⟨q,PySem.W.cellsFrom_some _ _ _ (.inl q)⟩
 refine codeAny_call_function hr.depth (KX _ _ lk) rfl S.co S.gen rfl (PySem.W.codeRec_of KX hcd) (hb _ _ _ _ ?_)
 refine wpAny_newFunctionEnv_cells S.kind hkind fun env he s1 x=>?_
 subst he
 refine ⟨lim.keeps x.toInCall.keep,codeAny_func ?_⟩
 obtain ⟨t,ht,hq⟩:=hbody A outer s H vs Q E (hr.deeper _) Qg
 have I:Inv (jQ CX P w K mg base N qual scope f cdv A outer s H E) [] (start N vs) H s1:=HY S hr.hd e0 hl r x
 refine wpAny_mono (ht [] s1 (start N vs) H _ I hq) (fun fl s' hs=>?_) fun e s' hs=>hs
 have fin:∀ {σ':St} {H':Hp} {v:V} {u:Value},Inv (jQ CX P w K mg base N qual scope f cdv A outer s H E) [] σ' H' s'→RelV v u→Q v H'→CE outer P w H s Q u s' :=
  fun {σ' H' v u} J rv q=>⟨v,H',J.os,J.bare,J.base,J.hok,rv,q⟩
 cases fl with
 | ret u =>
  obtain ⟨v,σ',H',J,rv,q⟩:=hs
  exact fin J rv q
 | next =>
  obtain ⟨σ',H',J,q⟩:=hs
  exact fin (v:=V.eT) (u:=Value.none) J rfl q
 | brk =>
  obtain ⟨_,_,_,q⟩:=hs
  exact False.elim q
 | cont =>
  obtain ⟨_,_,_,q⟩:=hs
  exact False.elim q
end L2
namespace L2
open PySem PySem.Spec PyProof.Rows
section
variable {X:Cx} {x:Str} {p pos:Pos} {e:Expr} {es:List Expr} {t:TA} {id T:String} {r:List V→Hp→VK→Prop}
def X0 (r:List V→Hp→VK→Prop) (t:TA):TE:=fun σ H Q=>t σ H fun vs H1=>r vs H1 Q
theorem Bc (hc:oW X (.builtin id) r) (hg:Gl X x) (hm:X.mg x=none) (hv:bootBuiltins x=some (.builtin id)) (ha:PA X (e::es) t) (hn:x≠"__name__":=by decide) (hdb:(x == ("__debug__":Str))=false:=by decide)
  (he:starEach (e::es) X.env=(false,eval e X.env)::starEach es X.env:=by rfl) (hpl:(backTo pos (starEach es X.env)).any (·.1)=false:=by rfl):PE X (.Call (.Name x p) (e::es) [] pos) (X0 r t):=by
 intro pins s σ H Q I h
 refine wpAny_Call_Name_kw (Aa I hg hm hv ?_ hn hdb)
 exact PyProof.Rows.callWith_builtin1 (gZ (ha pos pins s σ H _ I h) fun us s1 ⟨vs,H1,I1,r1,q1⟩=>hc pins s1 σ H1 vs us Q I1 r1 q1) he hpl
theorem kc (hc:oW X (.type T) r) (hg:Gl X x) (hm:X.mg x=none) (hv:bootBuiltins x=some (.type T)) (ha:PA X (e::es) t) (hn:x≠"__name__":=by decide) (hdb:(x == ("__debug__":Str))=false:=by decide)
  (he:starEach (e::es) X.env=(false,eval e X.env)::starEach es X.env:=by rfl) (hpl:(backTo pos (starEach es X.env)).any (·.1)=false:=by rfl):PE X (.Call (.Name x p) (e::es) [] pos) (X0 r t):=by
 intro pins s σ H Q I h
 refine wpAny_Call_Name_kw (Aa I hg hm hv ?_ hn hdb)
 exact PyProof.Rows.callWith_type1 (gZ (ha pos pins s σ H _ I h) fun us s1 ⟨vs,H1,I1,r1,q1⟩=>hc pins s1 σ H1 vs us Q I1 r1 q1) he hpl
end
end L2
namespace HT
open PySem PyProof.Rows
section
open PySem.SeqAt
open PySem.AutoSeq1 (wpAny_loadPart')
open PySem.MeetsSeq PySem.MeetsSeq2 PySem.MeetsSeq3
end
section
variable {prog:Program} {w:World} {A:Around} {E:Value→Shared→Prop} {s:Shared}
theorem O4 {t b:Addr} {vs ws:List Value} {Q:Value→Shared→Prop} (ht:IsTup s.heap t vs.toArray) (hb:IsTup s.heap b ws.toArray) (hv:vs≠[])
  (h1:ws=[]→Q (.ref t) s) (h2:ws≠[]→Q (.ref s.heap.objs.size) { s with heap:=s.heap.push { cls:=.type "tuple",data:=.seq (vs++ws).toArray } })
  (hsz:vs.length+ws.length≤sizeLine):wpAny (model prog w) A (binaryOp .Add (.ref t) (.ref b)) Q E s:=by
 obtain ⟨⟨cls,dd,data,sl⟩,ho,hc,n,hd⟩:=id ht
 obtain ⟨⟨b1c,dd2,data2,sl2⟩,ho2,hc2,n2,hd2⟩:=id hb
 simp only at hc hd hc2 hd2
 subst hc hd hc2 hd2
 have e:vs.toArray++ws.toArray=(vs++ws).toArray:=by simp
 by_cases hw:ws=[]
 ·exact concat_meets ⟨_,ho,rfl⟩ ⟨_,ho2,rfl⟩ noFill_tuple_add seq_tuple_add PySem.F.slot_tuple_add PySem.F.entry_tuple_add (PySem.F.args_tuple_add_2 _ _)
   (tuple_addW1 t b vs.toArray ws.toArray n n2 dd dd2 sl sl2 (by simpa using hv) (by simp [hw])) ⟨ho,ho2,h1 hw⟩
 ·refine concat_meets ⟨_,ho,rfl⟩ ⟨_,ho2,rfl⟩ noFill_tuple_add seq_tuple_add PySem.F.slot_tuple_add PySem.F.entry_tuple_add (PySem.F.args_tuple_add_2 _ _)
   (tuple_addW2 t b vs.toArray ws.toArray n n2 dd dd2 sl sl2 (by simpa using hv) (by simpa using hw) (by rw [List.size_toArray,List.size_toArray];exact hsz)) ⟨ho,ho2,?_⟩
  rw [e]
  exact h2 hw
def jt (n d:Nat):Option Int→Nat
 | none=>d
 | some v=>if v < 0 then (v+(n:Int)).toNat else min v.toNat n
theorem oA (n d k:Nat):jt n d (some (k:Int))=min k n:=by
 show (if (k:Int) < 0 then ((k:Int)+(n:Int)).toNat else min (k:Int).toNat n)=min k n
 rw [if_neg (by omega),Int.toNat_natCast]
theorem Q4 (n d:Nat) (hd:d≤n) (o:Option Int):jt n d o≤n:=by
 cases o with
 | none=>exact hd
 | some v =>
  show (if v < 0 then (v+(n:Int)).toNat else min v.toNat n)≤n
  by_cases hv:v < 0
  ·rw [if_pos hv];omega
  ·rw [if_neg hv];exact Nat.min_le_right _ _
theorem GW (v:Int) (n d:Nat):(if v < 0 then max (v+(n:Int)) 0 else min v (n:Int))=((jt n d (some v):Nat):Int):=by
 show (if v < 0 then max (v+(n:Int)) 0 else min v (n:Int))=(((if v < 0 then (v+(n:Int)).toNat else min v.toNat n):Nat):Int)
 by_cases hv:v < 0
 ·simp only [if_pos hv];omega
 ·simp only [if_neg hv];omega
theorem Fy (lo hi:Option Int) (n:Nat):Builtin.Slice.sliceAdjust lo hi 1 (n:Int)=(((jt n 0 lo:Nat):Int),((jt n n hi:Nat):Int)):=by
 have h1:¬ ((1:Int) < 0):=by omega
 unfold Builtin.Slice.sliceAdjust
 simp only [h1,if_false]
 refine Prod.ext ?_ ?_
 ·cases lo with
  | none=>rfl
  | some v=>exact GW v n 0
 ·cases hi with
  | none=>rfl
  | some v=>exact GW v n n
theorem EV (i j:Nat):Builtin.Slice.slicePlaces (i:Int) (j:Int) 1=j - i:=by
 unfold Builtin.Slice.slicePlaces
 have h1:(1:Int) > 0:=by omega
 simp only [h1,if_true,Int.ediv_one]
 split <;> omega
theorem wR {v:Value} {o:Option Int} {Q:Option Int→Shared→Prop} (p:IsPart v o) (h:Q o s):wpAny (model prog w) A (Builtin.Slice.slicePartIndex v) Q E s:=by
 cases p with
 | none=>exact slicePart_none h
 | int i t=>exact slicePart_int h
theorem ux {sl:Addr} {vl vu:Value} {lo hi:Option Int} {n:Nat} {Q:Int×Int×Nat→Shared→Prop} (hs:s.heap.IsSliceOf sl vl vu .none) (pl:IsPart vl lo) (pu:IsPart vu hi)
  (h:Q (((jt n 0 lo:Nat):Int),1,jt n n hi - jt n 0 lo) s):wpAny (model prog w) A (Builtin.Slice.sliceApplied (.ref sl) (pure (n:Int))) Q E s:=by
 obtain ⟨os,hos,hcs,hds⟩:=id hs
 unfold Builtin.Slice.sliceApplied Builtin.Slice.sliceFields
 refine wpAny_bind (wpAny_bind (wpAny_field hos hds (x:=vl) rfl (wpAny_bind (wpAny_field hos hds (x:=vu) rfl (wpAny_bind (wpAny_field hos hds (x:=.none) rfl (wpAny_pure ?_)))))))
 refine wpAny_bind (slicePart_none ?_)
 show wpAny _ _ (if ((1:Int) == 0)=true then _ else _) _ _ s
 rw [if_neg (by decide)]
 refine wpAny_bind (wR pl (wpAny_bind (wR pu (wpAny_bind (wpAny_pure ?_)))))
 show wpAny _ _ (match Builtin.Slice.sliceAdjust lo hi 1 (n:Int) with | (lo,hi)=>pure (lo,(1:Int),Builtin.Slice.slicePlaces lo hi 1)) _ _ s
 rw [Fy lo hi n]
 show wpAny _ _ (pure (((jt n 0 lo:Nat):Int),(1:Int),Builtin.Slice.slicePlaces ((jt n 0 lo:Nat):Int) ((jt n n hi:Nat):Int) 1)) _ _ s
 rw [EV]
 exact wpAny_pure h
theorem Kl (xs:Array Value) (i k:Nat):((List.range k).filterMap fun (m:Nat)=>xs[((i:Int)+(m:Int)*1).toNat]?).toArray=((xs.toList.drop i).take k).toArray:=by
 have e:(fun (m:Nat)=>xs[((i:Int)+(m:Int)*1).toNat]?)=fun m=>xs[i+m]?:=by
  funext m
  have:((i:Int)+(m:Int)*1).toNat=i+m:=by omega
  rw [this]
 rw [e]
 have:=pick_run xs i k
 rw [List.filterMap_map] at this
 have e2:((fun x=>xs[x]?) ∘ fun x=>i+x)=fun m=>xs[i+m]?:=rfl
 rw [e2] at this
 rw [this]
theorem tS {t sl:Addr} {items:Array Value} {vl vu:Value} {lo hi:Option Int} {Q:Value→Shared→Prop} (ht:IsTup s.heap t items) (hs:s.heap.IsSliceOf sl vl vu .none) (pl:IsPart vl lo) (pu:IsPart vu hi)
  (hw:¬ (jt items.size 0 lo=0∧jt items.size items.size hi=items.size))
  (h:Q (.ref s.heap.objs.size) { s with heap:=s.heap.push { cls:=.type "tuple",data:=.seq ((items.toList.drop (jt items.size 0 lo)).take (jt items.size items.size hi - jt items.size 0 lo)).toArray } })
  (hsz:items.size≤sizeLine):wpAny (model prog w) A (getItem (.ref t) (.ref sl)) Q E s:=by
 have GG:sizeOk (.seq ((items.toList.drop (jt items.size 0 lo)).take (jt items.size items.size hi - jt items.size 0 lo)).toArray):=by
  show ((items.toList.drop (jt items.size 0 lo)).take (jt items.size items.size hi - jt items.size 0 lo)).toArray.size≤sizeLine
  rw [List.size_toArray,List.length_take,List.length_drop,Array.length_toList]
  omega
 have hj:jt items.size items.size hi≤items.size:=Q4 _ _ (Nat.le_refl _) hi
 obtain ⟨os,hos,hcs,hds⟩:=id hs
 have hTs:s.TypeIs (.ref sl) "slice":=⟨os,hos,hcs⟩
 unfold getItem
 try with_reducible refine wpAny_holding ?_
 first | refine wpAny_bind (wpAny_pure ?_) | skip
 refine wpAny_bind (wpAny_sequenceKey ht.typeIs (by decide) ?_)
 refine wpAny_bind (wpAny_callSpecial?_slot (name:=Str.ofString "__getitem__") ht.typeIs PyProof.Rows.slot_tuple_getitem
  (wpAny_call_entry PyProof.Rows.slot_tuple_getitem ht.typeIs entry_tuple_getitem ?_ (args_tuple_getitem _ _)))
 show wpAny _ _ (Builtin.Tuple.tupleItemsOf (.ref t) >>= _) _ _ s
 refine wpAny_bind (tupleItemsOf_ ht ?_)
 refine wpAny_bind (wpAny_typeOf hTs ?_)
 rw [if_pos (by decide)]
 refine wpAny_bind (ux hs pl pu ?_)
 have hno:¬ ((((jt items.size 0 lo:Nat):Int) == 0 && (1:Int) == 1 && (jt items.size items.size hi - jt items.size 0 lo) == items.size)=true):=by
  intro q
  rw [Bool.and_eq_true,Bool.and_eq_true] at q
  have q1:((jt items.size 0 lo:Nat):Int)=0:=eq_of_beq q.1.1
  have q2:jt items.size items.size hi - jt items.size 0 lo=items.size:=eq_of_beq q.2
  exact hw ⟨by omega,by omega⟩
 show wpAny _ _ (if (((jt items.size 0 lo:Nat):Int) == 0 && (1:Int) == 1 && (jt items.size items.size hi - jt items.size 0 lo) == items.size)=true then _ else _) _ _ s
 rw [if_neg hno,Kl]
 first
  | exact wpAny_bind (m:=Builtin.Tuple.tupleExact _) (wpAny_newObj_type (wpAny_pure ⟨_,rfl,wpAny_pure h⟩) GG)
  | exact wpAny_bind (m:=Builtin.Tuple.tupleExact _) (wpAny_newObj_type (wpAny_bind (wpAny_pure (wpAny_pure ⟨_,rfl,wpAny_pure h⟩))) GG)
  | exact wpAny_bind (wpAny_bind (m:=Builtin.Tuple.tupleExact _) (wpAny_newObj_type (wpAny_pure (wpAny_pure ⟨_,rfl,wpAny_pure h⟩)) GG))
  | exact wpAny_bind (wpAny_bind (m:=Builtin.Tuple.tupleExact _) (wpAny_newObj_type (wpAny_pure ⟨_,rfl,wpAny_pure h⟩) GG))
end
end HT
namespace L2
open PySem PySem.Spec PyProof.Rows
abbrev TO:=St→Hp→(Option Int→Hp→Prop)→Prop
def PO (X:Cx) (e:Option Expr) (t:TO):Prop :=
 ∀ (pins:List (Addr×Obj)) (s:Shared) (σ:St) (H:Hp) (Q:Option Int→Hp→Prop),Inv X pins σ H s→t σ H Q →
  wpAny (model X.prog X.w) X.A (evalPart e X.env) (fun u s'=>∃ o H',Inv X pins σ H' s'∧IsPart u o∧Q o H') X.xe s
def N7:TO:=fun _ H Q=>Q none H
def Up (t:TE):TO:=fun σ H Q=>t σ H fun x H1=>∃ i,x=.int i∧Q (some i) H1
section
variable {X:Cx} {e:Expr} {te:TE} {lo hi:Option Expr} {tl th:TO} {pos p2:Pos}
theorem kH:PO X none N7:=by
 intro pins s σ H Q I h
 rw [evalPart_none]
 exact wpAny_pure ⟨none,H,I,.none,h⟩
theorem eX (h:PE X e te):PO X (some e) (Up te):=by
 intro pins s σ H Q I hw
 rw [evalPart_some]
 refine gZ (h pins s σ H _ I hw) fun u s1 ⟨x,H1,I1,r1,q1⟩=>?_
 obtain ⟨i,rfl,q⟩:=q1
 obtain ⟨t,rfl⟩:=r1
 exact ⟨some i,H1,I1,.int i t,q⟩
def SlR (X:Cx) (r:V→Option Int→Option Int→Hp→VK→Prop):Prop :=
 ∀ (pins:List (Addr×Obj)) (s:Shared) (σ:St) (H:Hp) (x:V) (v vl vu:Value) (lo hi:Option Int) (sl:Addr) (Q:VK),Inv X pins σ H s→RelV x v→s.heap.IsSliceOf sl vl vu .none→IsPart vl lo→IsPart vu hi→r x lo hi H Q →
  ∃ T id,typeLookup (.type T) "__getitem__"=pure (some (.builtin id))∧s.TypeIs v T∧wpAny (model X.prog X.w) X.A (getItem v (.ref sl)) (EP X pins σ Q) X.xe s
def tSl (r:V→Option Int→Option Int→Hp→VK→Prop) (te:TE) (tl th:TO):TE:=fun σ H Q=>te σ H fun x H1=>tl σ H1 fun l H2=>th σ H2 fun u H3=>r x l u H3 Q
theorem fO {r:V→Option Int→Option Int→Hp→VK→Prop} (hr:SlR X r) (he:PE X e te) (hl:PO X lo tl) (hu:PO X hi th):PE X (.Subscript e (.Slice lo hi none p2) pos) (tSl r te tl th):=by
 intro pins s σ H Q I h
 refine Subscript_ (gZ (he pins s σ H _ I h) fun v s1 ⟨x,H1,I1,r1,q1⟩=>?_)
 refine wpAny_Slice (gZ (hl pins s1 σ H1 _ I1 q1) fun vl s2 ⟨l,H2,I2,pl,q2⟩=>gZ (hu pins s2 σ H2 _ I2 q2) fun vu s3 ⟨u,H3,I3,pu,q3⟩=>?_)
 rw [evalPart_none]
 refine wpAny_pure ?_
 have I4:Inv X pins σ H3 { s3 with heap:=s3.heap.push { cls:=.type "slice",data:=.fields #[vl,vu,.none] } }:=I3.kept (t':=s3.toks) fun b ob q=>Heap.get?_push_of_some _ q
 obtain ⟨T,id,hT,ht,hg⟩:=hr pins { s3 with heap:=s3.heap.push { cls:=.type "slice",data:=.fields #[vl,vu,.none] } } σ H3 x v vl vu l u s3.heap.objs.size Q I4 r1 (Heap.IsSliceOf.new ..) pl pu q3
 show wpAny (model X.prog X.w) X.A (subscriptTail e (.Slice lo hi none p2) v (.ref s3.heap.objs.size)) (EP X pins σ Q) X.xe { s3 with heap:=s3.heap.push { cls:=.type "slice",data:=.fields #[vl,vu,.none] } }
 exact tail_any (ops:=[.ref s3.heap.objs.size,v]) ht hT hg (by with_unfolding_all rfl)
def oR (xs:List V) (lo hi:Option Int):List V:=(xs.drop (HT.jt xs.length 0 lo)).take (HT.jt xs.length xs.length hi - HT.jt xs.length 0 lo)
theorem vN (xs:List V) (lo hi:Option Int):(oR xs lo hi).length≤xs.length:=by
 unfold oR
 rw [List.length_take,List.length_drop]
 omega
def a1s (K:PySem.W.Frag):V→Option Int→Option Int→Hp→VK→Prop:=fun x lo hi H Q=>∃ a xs,x=.ref a∧aV K H a xs ∧
 ¬ (HT.jt xs.length 0 lo=0∧HT.jt xs.length xs.length hi=xs.length)∧∀ p,H p=none→Q (.ref p) (upd H p (.tup (oR xs lo hi)))
theorem o8:SlR X (a1s X.K):=by
 intro pins s σ H x v vl vu lo hi sl Q I rx hs pl pu h
 obtain ⟨a,xs,rfl,hx,hw,q⟩:=h
 cases rx
 obtain ⟨its,r,ht,hz⟩:=I.tuple hx
 have hlen:its.toArray.size=xs.length:=by rw [List.size_toArray];exact r.length.symm
 refine ⟨"tuple",_,PyProof.Rows.slot_tuple_getitem.lookup,ht.typeIs,?_⟩
 refine HT.tS ht hs pl pu (by rw [hlen];exact hw) ?_ (by rw [hlen];exact hz)
 rw [hlen]
 refine ⟨.ref s.heap.objs.size,_,I.laid (t':=s.toks) (o:=.tup (oR xs lo hi)) (fun b ob q=>Heap.get?_push_of_some _ q) (Nat.le_refl _) ?_,rfl,q _ (I.hok.fresh (Nat.le_refl _))⟩
 exact ⟨Nat.le_trans (vN xs lo hi) hz,_,(r.drop (HT.jt xs.length 0 lo)).take (HT.jt xs.length xs.length hi - HT.jt xs.length 0 lo),IsTup.new _ _⟩
def UH (K:PySem.W.Frag):R2:=fun x y H Q=>∃ a b xs ys,x=.ref a∧y=.ref b∧aV K H a xs∧aV K H b ys∧xs≠[]∧xs.length+ys.length≤sizeLine ∧
 (ys=[]→Q (.ref a) H)∧(ys≠[]→∀ p,H p=none→Q (.ref p) (upd H p (.tup (xs++ys))))
theorem Vals.wA {xs:List V} {us:List Value} (r:Vals xs us):us=[]↔xs=[]:=by
 cases r with
 | nil=>simp
 | cons _ _=>simp
theorem Ol:sy X (binaryOp .Add) (UH X.K):=by
 intro pins s σ H x y v u Q I rx ry h
 obtain ⟨a,b,xs,ys,rfl,rfl,ha,hb,hx,hz,q1,q2⟩:=h
 cases rx
 cases ry
 obtain ⟨its,r1,p1,_⟩:=I.tuple ha
 obtain ⟨its2,r2,p2,_⟩:=I.tuple hb
 refine HT.O4 p1 p2 (fun z=>hx (r1.wA.mp z)) (fun z=>⟨.ref a,H,I,rfl,q1 (r2.wA.mp z)⟩) (fun z=>?_) (by rw [← r1.length,← r2.length];exact hz)
 refine ⟨.ref s.heap.objs.size,_,I.laid (t':=s.toks) (o:=.tup (xs++ys)) (fun b ob q=>Heap.get?_push_of_some _ q) (Nat.le_refl _) ?_,rfl,q2 (fun w=>z (r2.wA.mpr w)) _ (I.hok.fresh (Nat.le_refl _))⟩
 exact ⟨by rw [List.length_append];exact hz,_,r1.append r2,IsTup.new _ _⟩
end
end L2
namespace L2
open PySem PySem.Spec PyProof.Rows
def OJ (n:Nat) (i:Int):Option Nat:=if 0≤i then (if i < n then some i.toNat else none) else if -(n:Int)≤i then some (i+n).toNat else none
def Cm {α:Type} (xs:List α) (i:Int):Option α:=(OJ xs.length i).bind fun j=>xs[j]?
theorem Gy {n:Nat} {i:Int} {j:Nat} (h:OJ n i=some j):seqIndex? i n=some j∧j < n∧-(n:Int)≤i∧i < n:=by
 unfold OJ at h
 by_cases h0:0≤i
 ·rw [if_pos h0] at h
  by_cases h1:i < n
  ·rw [if_pos h1] at h
   have e:i.toNat=j:=Option.some.inj h
   exact ⟨by rw [seqIndex_of h0 h1,e],by omega,by omega,h1⟩
  ·rw [if_neg h1] at h;cases h
 ·rw [if_neg h0] at h
  by_cases h1:-(n:Int)≤i
  ·rw [if_pos h1] at h
   have e:(i+n).toNat=j:=Option.some.inj h
   exact ⟨by rw [seqIndex_neg (by omega) h1,e],by omega,h1,by omega⟩
  ·rw [if_neg h1] at h;cases h
theorem AF {α:Type} {xs:List α} {i:Int} {v:α} (h:Cm xs i=some v):∃ j,seqIndex? i xs.length=some j∧xs[j]?=some v∧j < xs.length∧-(xs.length:Int)≤i∧i < xs.length:=by
 unfold Cm at h
 cases e:OJ xs.length i with
 | none=>rw [e] at h;cases h
 | some j =>
  rw [e] at h
  obtain ⟨h1,h2,h3,h4⟩:=Gy e
  exact ⟨j,h1,h,h2,h3,h4⟩
theorem bN {α:Type} {xs:List α} {j:Nat} {v:α} (h:xs[j]?=some v):Cm xs (j:Int)=some v:=by
 have hj:j < xs.length:=(List.getElem?_eq_some_iff.mp h).1
 have e:OJ xs.length (j:Int)=some j:=by
  unfold OJ
  rw [if_pos (by omega),if_pos (by omega)];simp
 unfold Cm;rw [e];exact h
def Pb (b:Expr):Prop:=∀ o i,subscripted b false o i=operate [o,i] (getItem o i)
def XA (X:Cx) (r:R2):Prop :=
 ∀ (value slice:Expr) (pins:List (Addr×Obj)) (s:Shared) (σ:St) (H:Hp) (x y:V) (v u:Value) (Q:VK),Inv X pins σ H s→RelV x v→RelV y u→r x y H Q →
  subscripted slice false v u=operate [v,u] (getItem v u)→wpAny (model X.prog X.w) X.A (subscriptTail value slice v u) (EP X pins σ Q) X.xe s
def ZW (X:Cx) (id:String) (r:V→List V→Hp→VK→Prop):Prop :=
 ∀ (pins:List (Addr×Obj)) (s:Shared) (σ:St) (H:Hp) (x:V) (xs:List V) (v:Value) (us:List Value) (Q:VK),Inv X pins σ H s→RelV x v→Vals xs us→r x xs H Q →
  wpAny (model X.prog X.w) X.A (call (.builtin id) (v::us)) (EP X pins σ Q) X.xe s
section
variable {X:Cx} {a b:Expr} {ta tb:TE} {pos:Pos}
theorem aH {r:R2} (hr:XA X r) (ha:PE X a ta) (hb:PE X b tb) (hs:Pb b):PE X (.Subscript a b pos) (Uq r ta tb):=by
 intro pins s σ H Q I h
 exact Subscript_ (S9 ha hb I h fun v u s2 x y H2 I2 rx ry q=>hr a b pins s2 σ H2 x y v u Q I2 rx ry q (hs _ _))
def a1x (K:PySem.W.Frag):R2:=fun x y H Q=>∃ p xs i v,x=.ref p∧y=.int i∧ck K H p xs∧Cm xs i=some v∧Q v H
def UG (K:PySem.W.Frag):R2:=fun x y H Q=>∃ p xs i v,x=.ref p∧y=.int i∧aV K H p xs∧Cm xs i=some v∧Q v H
def a1v:R2:=fun x y H Q=>∃ z i c,x=.str z∧y=.int i∧z.length≤sizeLine∧Cm z.cps.toList i=some c∧Q (.str ⟨#[c]⟩) H
theorem cU:XA X (a1x X.K):=by
 intro value slice pins s σ H x y v u Q I rx ry h hs
 obtain ⟨p,xs,i,z,rfl,rfl,hq,he,q⟩:=h
 cases rx
 obtain ⟨t,rfl⟩:=ry
 obtain ⟨its,r,pl,hz⟩:=I.list hq
 obtain ⟨j,h1,h2,h3,h4,h5⟩:=AF he
 obtain ⟨w,ew,rw'⟩:=r.get h2
 have hl:=r.length
 have hn:=uU
 have fin:EP X pins σ Q w s:=⟨z,H,I,rw',q⟩
 by_cases h0:0≤i
 ·have hj:i.toNat=j:=by
   rw [seqIndex_of h0 h5] at h1
   exact Option.some.inj h1
  exact item_listR pl.isList h0 (by omega) (by rw [hj];simpa using ew) fin hs
 ·have hj:(i+(its.toArray.size:Int)).toNat=j:=by
   rw [seqIndex_neg (by omega) h4] at h1
   rw [List.size_toArray,← hl]
   exact Option.some.inj h1
  exact subscriptTail_builtinR (x:=w) pl.isList.typeIs slot_list_getitem.lookup
   (wpAny_getItem_list_neg (Q:=fun r s'=>r=w∧EP X pins σ Q r s') pl.isList (by omega) (by rw [List.size_toArray] <;> omega) (by omega) (by rw [hj];simpa using ew) ⟨rfl,fin⟩) hs
theorem aG:XA X (UG X.K):=by
 intro value slice pins s σ H x y v u Q I rx ry h hs
 obtain ⟨p,xs,i,z,rfl,rfl,hq,he,q⟩:=h
 cases rx
 obtain ⟨t,rfl⟩:=ry
 obtain ⟨its,r,pl,hz⟩:=I.tuple hq
 obtain ⟨j,h1,h2,h3,h4,h5⟩:=AF he
 obtain ⟨w,ew,rw'⟩:=r.get h2
 have hl:=r.length
 have hn:=uU
 have fin:EP X pins σ Q w s:=⟨z,H,I,rw',q⟩
 exact subscriptTail_builtinR (x:=w) pl.typeIs slot_tuple_getitem.lookup
  (getItem_tuple (j:=j) (Q:=fun r s'=>r=w∧EP X pins σ Q r s') pl (by omega) (by omega) (by rw [List.size_toArray,← hl];exact h1) (by simpa using ew) ⟨rfl,fin⟩) hs
theorem uX:XA X a1v:=by
 intro value slice pins s σ H x y v u Q I rx ry h hs
 obtain ⟨z,i,c,rfl,rfl,hz,he,q⟩:=h
 obtain ⟨t,rfl⟩:=rx
 obtain ⟨t',rfl⟩:=ry
 obtain ⟨j,h1,h2,h3,h4,h5⟩:=AF he
 have hl:z.cps.toList.length=z.length:=by simp [Str.length]
 rw [hl] at h1 h4 h5
 have hn:=uU
 exact tail_any (typeIs_str s z t) slot_str_getitem.lookup (getItem_str (c:=c) (by
  have e1:decide (i < -(2 ^ 63:Int))=false:=decide_eq_false (by omega)
  have e2:decide (i ≥ 2 ^ 63)=false:=decide_eq_false (by omega)
  rw [e1,e2,Bool.or_false]) (by rw [h1];simpa using h2) ⟨.str ⟨#[c]⟩,H,I.tok _,⟨_,rfl⟩,q⟩) hs
theorem E8 (its:List Value) (n j:Nat) (u:Value):Obj.mapSeq (·.setIfInBounds j u) { cls:=.type "list",data:=.seq its.toArray n }={ cls:=.type "list",data:=.seq (its.set j u).toArray n }:=by
 simp [Obj.mapSeq]
theorem Inv.lst {pins:List (Addr×Obj)} {σ:St} {H:Hp} {s:Shared} {p:Addr} {xs:List V} (I:Inv X pins σ H s) (h:H p=some (.lst xs)) :
  ∃ (its:List Value) (n:Nat),Vals xs its∧s.heap.get? p=some { cls:=.type "list",data:=.seq its.toArray n }∧xs.length≤sizeLine:=by
 obtain ⟨z,its,n,r,e⟩:=I.hok p _ h
 exact ⟨its,n,r,e,z⟩
theorem Inv.RT {pins:List (Addr×Obj)} {σ:St} {H:Hp} {s:Shared} {p:Addr} {xs ys:List V} {its its':List Value} {n n':Nat} {f:Obj→Obj} (I:Inv X pins σ H s) (h:H p=some (.lst xs))
  (ho:s.heap.get? p=some { cls:=.type "list",data:=.seq its.toArray n }) (hf:f { cls:=.type "list",data:=.seq its.toArray n }={ cls:=.type "list",data:=.seq its'.toArray n' }) (r:Vals ys its') (hz:ys.length≤sizeLine) (t:Nat) :
  Inv X pins σ (upd H p (.lst ys)) { s with heap:=s.heap.update p f,toks:=t }:=by
 have e:(s.heap.update p f).get? p=some { cls:=.type "list",data:=.seq its'.toArray n' }:=by
  rw [Heap.get?_update_self f ho (by rw [hf] <;> rfl),hf]
 refine I.write (x:=p) (e:=p) (by rw [h];trivial) (.inl rfl) (fun b u hb q=>(Heap.get?_update_other _ _ (Ne.symm hb)).trans q) ⟨_,e⟩ ?_
 exact ⟨hz,its',n',r,e⟩
def UE:V→V→V→Hp→(Hp→Prop)→Prop:=fun o i v H Q=>∃ p xs k j,o=.ref p∧i=.int k∧H p=some (.lst xs)∧OJ xs.length k=some j∧Q (upd H p (.lst (xs.set j v)))
theorem set_list:Th X UE:=by
 intro pins s σ H o i v ov iv u Q I ro ri rv h
 obtain ⟨p,xs,k,j,rfl,rfl,hp,hj,q⟩:=h
 cases ro
 obtain ⟨t,rfl⟩:=ri
 obtain ⟨its,n,r,ho,hz⟩:=I.lst hp
 obtain ⟨h1,h2,h3,h4⟩:=Gy hj
 have hl:=r.length
 have hn:=uU
 have I':Inv X pins σ (upd H p (.lst (xs.set j v))) { s with heap:=s.heap.update p (Obj.mapSeq (·.setIfInBounds j u)) } :=
  I.RT hp ho (E8 its n j u) (r.set rv j) (by rw [List.length_set];exact hz) s.toks
 by_cases h0:0≤k
 ·have hk:k.toNat=j:=by
   rw [seqIndex_of h0 h4] at h1
   exact Option.some.inj h1
  exact PySem.W.ki_setAt ho h0 (by omega) (by rw [List.size_toArray,← hl];exact h4) (by rw [hk];exact ⟨_,I',q⟩)
 ·have hk:(k+(its.toArray.size:Int)).toNat=j:=by
   rw [seqIndex_neg (by omega) h3] at h1
   rw [List.size_toArray,← hl]
   exact Option.some.inj h1
  exact PySem.W.ki_setBack ho (by omega) (by rw [List.size_toArray,← hl];exact h3) (by omega) (by rw [hk];exact ⟨_,I',q⟩)
theorem zy (lo hi:Option Int) (n:Nat):(sliceBounds lo hi none n).1=((HT.jt n 0 lo:Nat):Int)∧(sliceBounds lo hi none n).2.1=((HT.jt n n hi:Nat):Int)∧(sliceBounds lo hi none n).2.2=1:=by
 refine ⟨?_,?_,rfl⟩
 ·cases lo with
  | none=>simp [sliceBounds,HT.jt]
  | some i =>
   simp only [sliceBounds,HT.jt,Option.getD_none,show (1:Int) > 0 by decide,if_true]
   by_cases h:i < 0
   ·simp only [h,if_true] <;> omega
   ·simp only [h,if_false] <;> omega
 ·cases hi with
  | none=>simp [sliceBounds,HT.jt]
  | some i =>
   simp only [sliceBounds,HT.jt,Option.getD_none,show (1:Int) > 0 by decide,if_true]
   by_cases h:i < 0
   ·simp only [h,if_true] <;> omega
   ·simp only [h,if_false] <;> omega
theorem ye (its:List Value) (lo hi:Option Int):slicePick its.toArray lo hi none=((its.drop (HT.jt its.length 0 lo)).take (HT.jt its.length its.length hi - HT.jt its.length 0 lo)).toArray:=by
 obtain ⟨h1,h2,h3⟩:=zy lo hi its.toArray.size
 unfold slicePick
 rw [h1,h2,h3]
 simp only [sliceRange_one,pick_run,List.size_toArray] <;> rfl
def a1t (K:PySem.W.Frag):V→Option Int→Option Int→Hp→VK→Prop:=fun x lo hi H Q=>∃ a xs,x=.ref a∧ck K H a xs∧∀ p,H p=none→Q (.ref p) (upd H p (.lst (oR xs lo hi)))
theorem oh:SlR X (a1t X.K):=by
 intro pins s σ H x v vl vu lo hi sl Q I rx hs pl pu h
 obtain ⟨a,xs,rfl,hx,q⟩:=h
 cases rx
 obtain ⟨its,r,ht,hz⟩:=I.list hx
 have hlen:=r.length
 refine ⟨"list",_,slot_list_getitem.lookup,ht.isList.typeIs,?_⟩
 refine wpAny_getItem_list_slice ht.isList hs pl pu .none (by simp) ?_ (by rw [List.size_toArray] <;> omega)
 rw [ye,← hlen]
 refine ⟨.ref s.heap.objs.size,_,I.laid (t':=s.toks) (o:=.lst (oR xs lo hi)) (fun b ob q=>Heap.get?_push_of_some _ q) (Nat.le_refl _) ?_,rfl,q _ (I.hok.fresh (Nat.le_refl _))⟩
 exact ⟨Nat.le_trans (vN xs lo hi) hz,_,0,(r.drop (HT.jt xs.length 0 lo)).take (HT.jt xs.length xs.length hi - HT.jt xs.length 0 lo),Heap.get?_push_size _ rfl⟩
def mG:V→Bool
 | .eT=>true
 | .bl _=>true
 | .int _=>true
 | .str _=>true
 | _=>false
def BC:V→V→Bool
 | .eT,.eT=>true
 | .bl a,.bl b=>a == b
 | .bl a,.int b=>(if a then 1 else 0) == b
 | .int a,.bl b=>a == (if b then 1 else 0)
 | .int a,.int b=>a == b
 | .str a,.str b=>a == b
 | _,_=>false
theorem MY {A:Around} {s:Shared} {y x:V} {u v:Value} (ry:RelV y u) (rx:RelV x v) (fy:mG y=true) (fx:mG x=true):SeqAt.EqAt A s u v (BC y x):=by
 cases y with
 | eT =>
  cases ry
  cases x with
  | eT=>cases rx;exact SeqAt.EqAt.same _
  | bl b=>cases rx;exact SeqAt.EqAt.none_bool b
  | int b=>obtain ⟨t,rfl⟩:=rx;exact SeqAt.EqAt.none_int b t
  | str b=>obtain ⟨t,rfl⟩:=rx;exact SeqAt.EqAt.none_str b t
  | _=>exact absurd (show false=true from fx) Bool.false_ne_true
 | bl a =>
  cases ry
  cases x with
  | eT=>cases rx;exact SeqAt.EqAt.bool_none a
  | bl b=>cases rx;exact SeqAt.EqAt.bool_bool a b
  | int b=>obtain ⟨t,rfl⟩:=rx;exact SeqAt.EqAt.bool_int a b t
  | str b=>obtain ⟨t,rfl⟩:=rx;exact SeqAt.EqAt.bool_str a b t
  | _=>exact absurd (show false=true from fx) Bool.false_ne_true
 | int a =>
  obtain ⟨t',rfl⟩:=ry
  cases x with
  | eT=>cases rx;exact SeqAt.EqAt.int_none a t'
  | bl b=>cases rx;exact SeqAt.EqAt.int_bool a t' b
  | int b=>obtain ⟨t,rfl⟩:=rx;exact SeqAt.EqAt.int_int a t' b t
  | str b=>obtain ⟨t,rfl⟩:=rx;exact SeqAt.EqAt.int_str a t' b t
  | _=>exact absurd (show false=true from fx) Bool.false_ne_true
 | str a =>
  obtain ⟨t',rfl⟩:=ry
  cases x with
  | eT=>cases rx;exact SeqAt.EqAt.str_none a t'
  | bl b=>cases rx;exact SeqAt.EqAt.str_bool a t' b
  | int b=>obtain ⟨t,rfl⟩:=rx;exact SeqAt.EqAt.str_int a t' b t
  | str b=>obtain ⟨t,rfl⟩:=rx;exact SeqAt.EqAt.str_str a t' b t
  | _=>exact absurd (show false=true from fx) Bool.false_ne_true
 | _=>exact absurd (show false=true from fy) Bool.false_ne_true
def Fo (x:V) (u:Value):Bool:=match u with
 | .none=>BC .eT x
 | .bool b=>BC (.bl b) x
 | .int i _=>BC (.int i) x
 | .str z _=>BC (.str z) x
 | _=>false
theorem MX {x y:V} {u:Value} (r:RelV y u) (f:mG y=true):Fo x u=BC y x:=by
 cases y with
 | eT=>cases r;rfl
 | bl b=>cases r;rfl
 | int i=>obtain ⟨t,rfl⟩:=r;rfl
 | str z=>obtain ⟨t,rfl⟩:=r;rfl
 | _=>exact absurd (show false=true from f) Bool.false_ne_true
theorem tZ {x:V}:∀ {xs:List V} {us:List Value},Vals xs us→xs.all mG=true→us.any (Fo x)=xs.any fun y=>BC y x
 | _,_,.nil,_=>rfl
 | y::xs,u::us,.cons r t,f=>by
  rw [List.all_cons,Bool.and_eq_true] at f
  rw [List.any_cons,List.any_cons,MX r f.1,tZ t f.2]
theorem pY {A:Around} {s:Shared} {x:V} {v:Value} (rx:RelV x v) (fx:mG x=true):∀ {xs:List V} {us:List Value},Vals xs us→xs.all mG=true→∀ u∈us,SeqAt.EqAt A s u v (Fo x u)
 | _,_,.nil,_=>fun u hu=>by cases hu
 | y::xs,u::us,.cons r t,f=>fun u' hu=>by
  rw [List.all_cons,Bool.and_eq_true] at f
  rcases List.mem_cons.mp hu with rfl | hu
  ·rw [MX r f.1];exact MY r rx f.1 fx
  ·exact pY rx fx t f.2 u' hu
def tQ (x:V) (xs:List V):Bool:=xs.any fun y=>BC y x
def X7 (K:PySem.W.Frag) (neg:Bool):R2:=fun x y H Q=>∃ p xs,y=.ref p∧(ck K H p xs∨aV K H p xs)∧mG x=true∧xs.all mG=true∧Q (.bl (if neg then !tQ x xs else tQ x xs)) H
theorem lT:sy X (compareOp .In) (X7 X.K false):=by
 intro pins s σ H x y v u Q I rx ry h
 obtain ⟨p,xs,rfl,hq,fx,fs,q⟩:=h
 cases ry
 rcases hq with hq | hq
 ·obtain ⟨its,r,pl,hz⟩:=I.list hq
  refine SeqAt.in_listAt (Fo x) pl.isList (fun w hw=>pY rx fx r fs w (by simpa using hw)) ⟨.bl _,H,I,rfl,?_⟩
  rw [show its.toArray.any (Fo x)=its.any (Fo x) by simp,tZ r fs]
  exact q
 ·obtain ⟨its,r,pl,hz⟩:=I.tuple hq
  refine SeqAt.in_tupleAt (Fo x) pl (fun w hw=>pY rx fx r fs w (by simpa using hw)) ⟨.bl _,H,I,rfl,?_⟩
  rw [show its.toArray.any (Fo x)=its.any (Fo x) by simp,tZ r fs]
  exact q
theorem zJ:sy X (compareOp .NotIn) (X7 X.K true):=by
 intro pins s σ H x y v u Q I rx ry h
 obtain ⟨p,xs,rfl,hq,fx,fs,q⟩:=h
 cases ry
 rcases hq with hq | hq
 ·obtain ⟨its,r,pl,hz⟩:=I.list hq
  refine SeqAt.notIn_listAt (Fo x) pl.isList (fun w hw=>pY rx fx r fs w (by simpa using hw)) ⟨.bl _,H,I,rfl,?_⟩
  rw [show its.toArray.any (Fo x)=its.any (Fo x) by simp,tZ r fs]
  exact q
 ·obtain ⟨its,r,pl,hz⟩:=I.tuple hq
  refine SeqAt.notIn_tupleAt (Fo x) pl (fun w hw=>pY rx fx r fs w (by simpa using hw)) ⟨.bl _,H,I,rfl,?_⟩
  rw [show its.toArray.any (Fo x)=its.any (Fo x) by simp,tZ r fs]
  exact q
theorem bZ:oW X (.builtin "len") (fun xs H Q=>∃ p ys,xs=[.ref p]∧(ck X.K H p ys∨aV X.K H p ys)∧Q (.int ys.length) H):=by
 intro pins s σ H xs us Q I r h
 obtain ⟨p,ys,rfl,hq,q⟩:=h
 obtain ⟨u,rfl,rx⟩:=vals1 r
 cases rx
 have hn:=uU
 rcases hq with hq | hq
 ·obtain ⟨its,r',pl,hz⟩:=I.list hq
  have hlen:=r'.length
  exact Calls.call_len_list pl.isList (by simp only [List.size_toArray] <;> omega) ⟨.int ys.length,H,I.tok _,⟨s.toks+1,by rw [List.size_toArray,hlen]⟩,q⟩
 ·obtain ⟨its,r',pl,hz⟩:=I.tuple hq
  have hlen:=r'.length
  exact len_tuple pl (by simp only [List.size_toArray] <;> omega) ⟨.int ys.length,H,I.tok _,⟨s.toks+1,by rw [List.size_toArray,hlen]⟩,q⟩
theorem ja:oW X (.type "list") (fun xs H Q=>∃ p ys,xs=[.ref p]∧(ck X.K H p ys∨aV X.K H p ys)∧∀ l,H l=none→Q (.ref l) (upd H l (.lst ys))):=by
 intro pins s σ H xs us Q I r h
 obtain ⟨p,ys,rfl,hq,q⟩:=h
 obtain ⟨u,rfl,rx⟩:=vals1 r
 cases rx
 have fin:∀ (its:List Value),Vals ys its→ys.length≤sizeLine→∀ (h':Heap) (c':Nat),(∀ b o',s.heap.get? b=some o'→h'.get? b=some o') →
   h'.get? s.heap.objs.size=some { cls:=.type "list",dict:=none,data:=.seq its.toArray c',slots:=#[] }→EP X pins σ Q (.ref s.heap.objs.size) { s with heap:=h' }:=fun its r' hz h' c' kp e =>
  ⟨.ref s.heap.objs.size,_,I.laid (t':=s.toks) kp (Nat.le_refl _) (show gk X.prog X.w _ h' _ (.lst ys) from ⟨hz,its,c',r',e⟩),rfl,q _ (I.hok.fresh (Nat.le_refl _))⟩
 rcases hq with hq | hq
 ·obtain ⟨its,r',pl,hz⟩:=I.list hq
  have hlen:=r'.length
  obtain ⟨o,ho,hc,n,hd⟩:=pl.isList
  exact call_list_seq p (.inl rfl) ho hc hd (fun h' c' kp e=>fin its r' hz h' c' kp e) (by simp only [List.size_toArray] <;> omega)
 ·obtain ⟨its,r',pl,hz⟩:=I.tuple hq
  have hlen:=r'.length
  obtain ⟨o,ho,hc,n,hd⟩:=pl
  exact call_list_seq p (.inr rfl) ho hc hd (fun h' c' kp e=>fin its r' hz h' c' kp e) (by simp only [List.size_toArray] <;> omega)
theorem aI:oW X (.type "tuple") (fun xs H Q=>∃ p ys,xs=[.ref p]∧((ck X.K H p ys∧∀ l,H l=none→Q (.ref l) (upd H l (.tup ys)))∨(aV X.K H p ys∧Q (.ref p) H))):=by
 intro pins s σ H xs us Q I r h
 obtain ⟨p,ys,rfl,h⟩:=h
 obtain ⟨u,rfl,rx⟩:=vals1 r
 cases rx
 rcases h with ⟨hq,q⟩ | ⟨hq,q⟩
 ·obtain ⟨its,r',pl,hz⟩:=I.list hq
  have hlen:=r'.length
  refine call_tuple_list pl.isList (fun h' kp=>?_) (by simp only [List.size_toArray] <;> omega)
  have I1:Inv X pins σ H { s with heap:=h' }:=I.kept (t':=s.toks) kp
  have I2:Inv X pins σ (upd H h'.objs.size (.tup ys)) { s with heap:=h'.push { cls:=.type "tuple",data:=.seq its.toArray } } :=
   I1.laid (t':=s.toks) (fun b o e=>Heap.get?_push_of_some _ e) (Nat.le_refl _) (show gk X.prog X.w _ _ _ (.tup ys) from ⟨hz,its,r',IsTup.new _ _⟩)
  exact ⟨.ref h'.objs.size,_,I2,rfl,q _ (I1.hok.fresh (Nat.le_refl _))⟩
 ·obtain ⟨its,r',pl,hz⟩:=I.tuple hq
  exact call_tuple_same pl ⟨.ref p,H,I,rfl,q⟩
def Z5 (K:PySem.W.Frag) (T:String) (x:V) (H:Hp):Prop:=match x with
 | .str _=>T="str"
 | .int _=>T="int"
 | .ref p=>(T="list"∧∃ xs,ck K H p xs)∨(T="tuple"∧∃ o,K.lookup p=some o∧o.cls=.type "tuple"∧o.dict=none) ∨
   (T="dict"∧((∃ kvs,H p=some (.dK kvs))∨∃ kvs,H p=some (.dT kvs)))∨(T="set"∧∃ S n,H p=some (.set S n))
 | _=>False
theorem Js {pins:List (Addr×Obj)} {σ:St} {H:Hp} {s:Shared} {T:String} {x:V} {v:Value} (I:Inv X pins σ H s) (r:RelV x v) (ty:Z5 X.K T x H) :
  s.TypeIs v T∧∀ a,v=.ref a→∃ ob,s.heap.get? a=some ob∧ob.dict=none:=by
 cases x with
 | str z =>
  obtain ⟨t,rfl⟩:=r
  cases (show T="str" from ty)
  exact ⟨typeIs_str s z t,fun _ e=>nomatch e⟩
 | int i =>
  obtain ⟨t,rfl⟩:=r
  cases (show T="int" from ty)
  exact ⟨typeIs_int s i t,fun _ e=>nomatch e⟩
 | ref p =>
  cases r
  rcases ty with ⟨rfl,xs,hq⟩ | ⟨rfl,o,hk,hc,hd⟩ | ⟨rfl,hk⟩ | ⟨rfl,S,n,hk⟩
  ·obtain ⟨its,_,pl,_⟩:=I.list hq
   refine ⟨pl.isList.typeIs,fun a e=>?_⟩
   cases e
   obtain ⟨o,n,e,c,hd,_⟩:=pl
   exact ⟨o,e,hd⟩
  ·refine ⟨⟨o,I.qJ p o hk,hc⟩,fun a e=>?_⟩
   cases e
   exact ⟨o,I.qJ _ o hk,hd⟩
  ·have z:∃ o,s.heap.get? p=some o∧o.ExactDict:=by
    rcases hk with ⟨kvs,hk⟩ | ⟨kvs,hk⟩
    ·obtain ⟨_,_,_,_,o,_,_,e,ex,_⟩:=I.hok p _ hk
     exact ⟨o,e,ex⟩
    ·obtain ⟨_,_,_,_,o,_,_,e,ex,_⟩:=I.hok p _ hk
     exact ⟨o,e,ex⟩
   obtain ⟨o,e,ex⟩:=z
   refine ⟨⟨o,e,ex.1⟩,fun a e2=>?_⟩
   cases e2
   exact ⟨o,e,ex.2.1⟩
  ·obtain ⟨o,_,_,_,e,ex,_⟩:=I.hok p _ hk
   refine ⟨⟨o,e,ex.1⟩,fun a e2=>?_⟩
   cases e2
   exact ⟨o,e,ex.2.1⟩
 | _=>exact False.elim ty
def a0i (K:PySem.W.Frag) (T:String) (r:V→List V→Hp→VK→Prop) (to:TE):TE:=fun σ H Q=>to σ H fun x H1=>Z5 K T x H1∧r x [] H1 Q
def tBM (K:PySem.W.Frag) (T:String) (r:V→List V→Hp→VK→Prop) (to:TE) (t:TA):TE:=fun σ H Q=>to σ H fun x H1=>Z5 K T x H1∧t σ H1 fun xs H2=>r x xs H2 Q
variable {o e:Expr} {es:List Expr} {to:TE} {t:TA} {name:Str} {apos cpos:Pos} {T id:String} {r:V→List V→Hp→VK→Prop}
theorem Rh (pa:PlainAttrs T) (slot:Slot T name id) (hty:typeOf (.builtin id)=pure (.type "method_descriptor")) (hm:ZW X id r) (ho:PE X o to)
  (hbase:attributeBase o name X.env (eval o X.env)=eval o X.env:=by rfl) (hline:(apos.endLine == cpos.line)=true:=by rfl):PE X (.Call (.Attribute o name apos) [] [] cpos) (a0i X.K T r to):=by
 intro pins s σ H Q I h
 refine wpAny_Call_method0_late hbase hline (gZ (ho pins s σ H _ I h) fun v s1 ⟨x,H1,I1,r1,ty,q1⟩=>?_)
 obtain ⟨h1,h2⟩:=Js I1 r1 ty
 exact ⟨T,id,pa,slot,hty,h1,h2,Calls.callWith_builtin rfl (PySem.evalArgs_none (hm pins s1 σ H1 x [] v [] Q I1 r1 .nil q1))⟩
theorem UK (pa:PlainAttrs T) (slot:Slot T name id) (hty:typeOf (.builtin id)=pure (.type "method_descriptor")) (hm:ZW X id r) (ho:PE X o to) (ha:PA X (e::es) t)
  (hbase:attributeBase o name X.env (eval o X.env)=eval o X.env:=by rfl)
  (hfew:((backTo cpos (starEach (e::es) X.env)).all (fun x=>!x.1) && (backToKw cpos (keywordEach [] X.env)).all (fun x=>x.1.isSome)
   && decide ((e::es).length+([]:List Keyword).length+(if ([]:List Keyword).isEmpty then 0 else 1) < 30))=true:=by rfl)
  (hline:(apos.endLine == cpos.line)=true:=by rfl) (hs:starEach (e::es) X.env=(false,eval e X.env)::starEach es X.env:=by rfl) (hplain:(backTo cpos (starEach es X.env)).any (·.1)=false:=by rfl) :
  PE X (.Call (.Attribute o name apos) (e::es) [] cpos) (tBM X.K T r to t):=by
 intro pins s σ H Q I h
 refine wpAny_Call_method_late hbase hfew hline rfl (gZ (ho pins s σ H _ I h) fun v s1 ⟨x,H1,I1,r1,ty,q1⟩=>?_)
 obtain ⟨h1,h2⟩:=Js I1 r1 ty
 refine ⟨T,id,pa,slot,hty,h1,h2,?_⟩
 have hA:=ha cpos pins s1 σ H1 _ I1 q1
 rw [hs] at hA ⊢
 refine Calls.callWith_builtin (by show (false || (backTo cpos (starEach es X.env)).any (·.1))=false;rw [hplain] <;> rfl) (Calls.evalArgs_plain ?_)
 exact gZ hA fun us s2 ⟨vs,H2,I2,r2,q2⟩=>hm pins s2 σ H2 x vs v us Q I2 r1 r2 q2
end
end L2
namespace L2
open PySem PySem.Spec PyProof.Rows
def MtM (X:Cx) (id:String) (r:V→List V→Hp→VK→Prop):Prop :=
 ∀ (pins:List (Addr×Obj)) (s:Shared) (σ:St) (H:Hp) (x:V) (xs:List V) (v:Value) (us:List Value) (Q:VK),Inv X pins σ H s→RelV x v→Vals xs us→r x xs H Q →
  wpAny (model X.prog X.w) X.A (call (.builtin id) (v::us)) (EP X pins σ Q) X.xe s
theorem Vals.one:∀ {x:V} {us:List Value},Vals [x] us→∃ u,us=[u]∧RelV x u
 | _,_,.cons r .nil=>⟨_,rfl,r⟩
theorem Vals.zero:∀ {us:List Value},Vals [] us→us=[]
 | _,.nil=>rfl
theorem Vals.reverse {xs:List V} {us:List Value} (h:Vals xs us):Vals xs.reverse us.reverse:=by
 induction h with
 | nil=>exact .nil
 | cons r t ih=>rw [List.reverse_cons,List.reverse_cons];exact Vals.append ih (.cons r .nil)
section
variable {X:Cx} {pins:List (Addr×Obj)} {σ:St} {H:Hp} {s:Shared} {l b:Addr} {xs ys zs:List V}
theorem Inv.U1 {its its':List Value} {n:Nat} {f:Array Value→Array Value} {t':Nat} (I:Inv X pins σ H s) (hH:H l=some (.lst xs))
  (e:s.heap.get? l=some { cls:=.type "list",data:=.seq its.toArray n }) (hf:f its.toArray=its'.toArray) (hv:Vals ys its') (hz:ys.length≤sizeLine) :
  Inv X pins σ (upd H l (.lst ys)) { s with heap:=s.heap.update l (Obj.mapSeq f),toks:=t' }:=by
 have q:=PySem.IsL.update e f
 rw [hf] at q
 refine I.write (x:=l) (e:=l) (by rw [hH];exact trivial) (.inl rfl) (fun b' u hb hu=>(Heap.get?_update_other s.heap (Obj.mapSeq f) (Ne.symm hb)).trans hu) ⟨_,q⟩ ?_
 exact ⟨hz,its',_,hv,q⟩
theorem Inv.a5r {its:List Value} {t':Nat} (I:Inv X pins σ H s) (hv:Vals ys its) (hz:ys.length≤sizeLine) :
  Inv X pins σ (upd H s.heap.objs.size (.lst ys)) { s with heap:=s.heap.push { cls:=.type "list",data:=.seq its.toArray },toks:=t' } :=
 I.laid (fun _ _ q=>Heap.get?_push_of_some _ q) (Nat.le_refl _) ⟨hz,its,0,hv,Heap.get?_push_size _ rfl⟩
theorem Inv.fresh (I:Inv X pins σ H s):H s.heap.objs.size=none:=I.hok.fresh (Nat.le_refl _)
theorem Inv.OC (I:Inv X pins σ H s) (hH:H l=some (.lst xs)):xs.length≤sizeLine∧∃ (its:List Value) (n:Nat),Vals xs its∧xs.length=its.length∧s.heap.get? l=some { cls:=.type "list",data:=.seq its.toArray n }:=by
 obtain ⟨z,its,n,r,e⟩:=I.hok l _ hH
 exact ⟨z,its,n,r,r.length,e⟩
end
section
variable {X:Cx}
def Of:V→List V→Hp→VK→Prop:=fun x vs H Q=>∃ l xs y,x=.ref l∧vs=[y]∧H l=some (.lst xs)∧xs.length < sizeLine∧Q .eT (upd H l (.lst (xs++[y])))
theorem lU:MtM X "list.append" Of:=by
 intro pins s σ H x vs v us Q I rx rv h
 obtain ⟨l,xs,y,rfl,rfl,hH,hz,q⟩:=h
 cases rx
 obtain ⟨u,rfl,ru⟩:=rv.one
 obtain ⟨z,its,n,r,hl,e⟩:=I.OC hH
 refine call_meets F.slot_list_append ⟨_,e,rfl⟩ F.entry_list_append (F.args_list_append_2 _ _) (PySem.list_append l its.toArray n u (by rw [List.size_toArray];omega)) ⟨e,?_⟩
 refine ⟨.eT,_,I.U1 (its':=its++[u]) hH e (by simp) (r.append (.cons ru .nil)) ?_,rfl,q⟩
 rw [List.length_append,List.length_singleton]
 omega
def JU:V→List V→Hp→VK→Prop:=fun x vs H Q=>∃ l xs,x=.ref l∧vs=[]∧H l=some (.lst xs)∧Q .eT (upd H l (.lst xs.reverse))
theorem E7:MtM X "list.reverse" JU:=by
 intro pins s σ H x vs v us Q I rx rv h
 obtain ⟨l,xs,rfl,rfl,hH,q⟩:=h
 cases rx
 have hus:=rv.zero
 subst hus
 obtain ⟨z,its,n,r,hl,e⟩:=I.OC hH
 refine call_meets F.slot_list_reverse ⟨_,e,rfl⟩ F.entry_list_reverse (F.args_list_reverse_1 _) (AutoSeq1.list_reverse_list_0 l its.toArray n (by rw [List.size_toArray];omega)) ⟨e,?_⟩
 refine ⟨.eT,_,I.U1 (its':=its.reverse) hH e (by simp) r.reverse ?_,rfl,q⟩
 rw [List.length_reverse]
 omega
def a1z:R2:=fun x y H Q=>∃ l b xs zs,x=.ref l∧y=.ref b∧H l=some (.lst xs)∧H b=some (.lst zs)∧xs.length+zs.length≤sizeLine∧∀ p,H p=none→Q (.ref p) (upd H p (.lst (xs++zs)))
theorem xy:sy X (binaryOp .Add) a1z:=by
 intro pins s σ H x y v u Q I rx ry h
 obtain ⟨l,b,xs,zs,rfl,rfl,hH,hB,hz,q⟩:=h
 cases rx
 cases ry
 obtain ⟨z,its,n,r,hl,e⟩:=I.OC hH
 obtain ⟨z2,its2,n2,r2,hl2,e2⟩:=I.OC hB
 refine PySem.P.add_list e e2 ?_ (by rw [List.size_toArray,List.size_toArray];omega)
 have ea:its.toArray++its2.toArray=(its++its2).toArray:=by simp
 rw [ea]
 exact ⟨.ref _,_,I.a5r (t':=s.toks) (r.append r2) (by rw [List.length_append];omega),rfl,q _ I.fresh⟩
end
section
variable {prog:Program} {w:World} {A:Around} {E:Value→Shared→Prop} {s:Shared}
end
section
variable {X:Cx}
end
end L2
namespace Att
open PySem PySem.W PySem.Calls PyProof.Rows
theorem vY {P:Params} {h:Heap}:∀ (ns:List Int) (vs:List Value),WellAll P h vs (ns.map WData.int)→IntsAre vs ns:=by
 intro ns
 induction ns with
 | nil =>
  intro vs w
  rw [List.map_nil] at w
  cases w
  exact .nil
 | cons n ns ih =>
  intro vs w
  rw [List.map_cons] at w
  cases w with
  | cons a b =>
   cases a
   exact .cons _ _ (ih _ b)
theorem Hr {l:OpenLaw} {n:Nat} (hn:l.most=some n) {P:Params} {h:Heap} {args:List WData} {vals:List Value}
  (hpre:l.row.toRowW.claim.pre args=true) (hwl:WellAll P h vals args) :
  ∃ a vs ns,vals=[Value.ref a]∧args=[WData.list (ns.map WData.int)]∧h.get? a=some { cls:=.type "list",data:=.seq vs.toArray }∧IntsAre vs ns∧ns.length≤n:=by
 have hsh:WShape.hasAll [] args [.list .int]=true:=(pre_splitW hpre).1
 have hc:l.pre.holds [] { args:=args }=true:=(pre_splitW hpre).2
 obtain ⟨d,r,rfl,h1,h2⟩:=hasAllW_cons hsh
 obtain rfl:=hasAllW_nil h2
 obtain ⟨xs,rfl,h3⟩:=hasW_list h1
 obtain ⟨ns,rfl⟩:=items_int h3
 have hlen:ns.length≤n:=by
  unfold OpenLaw.pre at hc
  have h4:(WTm.not (.lt (.lit (.int (n:Int))) (.len (.arg 0)))).holds [] { args:=[.list (ns.map .int)] }=true:=by
   have h4:=(holds_andW hc).1
   rw [hn] at h4
   exact h4
  have h5:=condW_of h4 (w_not (w_lt w_lit (w_len_list (w_arg rfl))))
  rw [List.length_map] at h5
  refine Nat.le_of_not_lt fun q=>?_
  have q':(n:Int) < ((ns.length:Nat):Int):=by omega
  first
   | (rw [decide_eq_true q'] at h5;exact absurd h5 (by decide))
   | (simp at h5;omega)
 cases hwl with
 | cons w1 w2 =>
  cases w2
  cases w1 with
  | list ho hall=>exact ⟨_,_,ns,rfl,rfl,ho,vY ns _ hall,hlen⟩
theorem Hs (l:OpenLaw) (args:List WData):l.row.toRowW.claim.post args (.bool true) args=true :=
 postW_of (r:=l.row.toRowW) (X:=(true == true))
  (show WShape.has [] (.bool true) .bool=true by first | rfl | decide | simp [WShape.has,WShape.arms,WShape.armsAll])
  (show (WTm.eq .res (.lit (.bool true))).value [] { args:=args,res:=some (.bool true),after:=args }=some (.bool (true == true)) from w_eq_bool (w_res rfl) w_lit) rfl
theorem BS {l:OpenLaw} {n:Nat} {q:Program} {loose:List Str} {XP:(Str→Option Value)→Heap→Prop} {YP:World→Heap→Prop} {d:DefRec}
  (hn:l.most=some n) (hdf:d.params.defaults=[])
  (call:∀ (w:World) (s₀ s₁:Shared) (mg mb:Str→Option Value) (fa:Addr) (o:Obj) (pm cd doc:Value) (a:Addr) (vs:List Value) (ns:List Int),
   Ground q loose [] XP w s₀ mg mb s₁.heap→YP w s₁.heap →
   s₁.heap.get? fa=some o→o.data=.func (docDef d.name d.params d.body d.scope pm cd doc)→s₁.heap.CodeRec cd d.name→mg d.name=some (.ref fa) →
   s₁.heap.get? a=some { cls:=.type "list",data:=.seq vs.toArray }→IntsAre vs ns→ns.length≤n→s₁.gens=#[] →
   codeAny (model l.prog w) callerA (.call (.ref fa) ⟨[.ref a],[]⟩) (fun r s'=>r=.ok (.ret (.bool true))∧OldK s₁.heap s'.heap∧s'.os=s₁.os∧AllBare s'.gens) s₁) :
  WalkO q loose XP YP l.row.toRowW d [] (fun f vs=>PySem.call f vs):=by
 intro w s₀ s₁ mg mb G Y fa o pm cd doc dV kV ho hd hcd hD hmg hg args vals as hpre hlay hrd hwl hlo
 obtain rfl:dV=.none:=Dflts.none hD hdf
 obtain rfl:kV=.none:=Dflts.noKw hD
 obtain ⟨a,vs,ns,rfl,rfl,hobj,hints,hlen⟩:=Hr hn hpre hwl
 refine enter_call (codeAny_mono (call w s₀ s₁ mg mb fa o pm cd doc a vs ns G Y ho (fd_plain hd) hcd hmg hobj hints hlen hg) fun r s' hq=>?_)
 obtain ⟨rfl,h2,h3,h4⟩:=hq
 exact ⟨.inl ⟨.bool true,.bool true,[],rfl,fun _=>rfl,.bool true,Hs l _,fun _=>⟨List.Pairwise.nil,fun _ hm=>(nomatch hm)⟩⟩,h2,h3,h4⟩
section
variable {prog:Program} {w:World} {A:Around} {E:Value→Shared→Prop} {s:Shared} {K:Frag}
end
end Att
namespace L2
open PySem PySem.Spec PyProof.Rows
theorem yJ:∀ {vs:List Value} {ns:List Int},IntsAre vs ns→Vals (ns.map V.int) vs
 | _,_,.nil=>.nil
 | _,_,.cons n t h=>.cons ⟨t,rfl⟩ (yJ h)
def Ti (H:Hp):Prop:=∀ b,H b=none∨∃ o xs,H b=some (.Fj o (.lst xs))
theorem LQ {P:Program} {w:World} {K:PySem.W.Frag} {mg mb:Str→Option Value} {CX:IF} {k:Nat} {fa a:Addr} {fd:FuncData} {x:Str} {sp:Sp} {s₁:Shared} {vs:List Value} {ns:List Int}
  (KX:K.In s₁.heap) (hns:s₁.heap.Ns mainGlobals mg) (hb:s₁.heap.Ns builtinsNs mb) (hbb:∀ x:Str,x≠"__name__"→mb x=bootBuiltins x) (hlim:s₁.heap.NoLimit) (hg:s₁.gens=#[])
  (ha:s₁.heap.get? a=some { cls:=.type "list",data:=.seq vs.toArray }) (hi:IntsAre vs ns) (hl:ns.length≤sizeLine) (hr:dZ k callerA)
  (F:∀ base:Heap,K.In base→base.Ns mainGlobals mg→bT P w K mg base CX k fa fd [x] sp) (hbind:∀ (s:Shared) (u:Value),BindsTo s fd ⟨[u],[]⟩ [(x,u)])
  (Qg:∀ H:Hp,Ti H→ck K H a (ns.map V.int)→sp [.ref a] H (fun v _=>v=.bl true) fun _ _ _=>False)
  (hCX:∀ H e s',CX [] H s₁ (fun _ _ _=>False) e s'→False) :
  codeAny (model P w) callerA (.call (.ref fa) ⟨[.ref a],[]⟩) (fun r s'=>r=.ok (.ret (.bool true))∧OldK s₁.heap s'.heap∧s'.os=s₁.os∧AllBare s'.gens) s₁:=by
 have rv:=yJ hi
 have a5t:=hi.length
 have core:∀ H:Hp,Ti H→ck K H a (ns.map V.int)→sH P w H s₁.heap→(∀ b,H b≠none→b=a)→(H a≠none→K.lookup a=none) →
   codeAny (model P w) callerA (.call (.ref fa) ⟨[.ref a],[]⟩) (fun r s'=>r=.ok (.ret (.bool true))∧OldK s₁.heap s'.heap∧s'.os=s₁.os∧AllBare s'.gens) s₁:=by
  intro H hO hS hok hA hK
  have GY:∀ {b:Addr} {o:Obj},s₁.heap.get? b=some o→H b=none→(Ah s₁.heap H).get? b=some o:=fun e n=>Mw e n
  have UU:∀ {b:Addr} {o:Obj} {es:Array DictEntry} {ep:Nat},s₁.heap.get? b=some o→o.data=.dict es ep→H b=none:=fun {b o es ep} e d=>by
   cases q:H b with
   | none=>rfl
   | some u =>
    have e':b=a:=hA b (by rw [q];simp)
    subst e'
    rw [ha] at e;cases e
    have d':Data.seq vs.toArray _=Data.dict es ep:=d
    cases d'
  have Yd:∀ {b:Addr} {m:Str→Option Value},s₁.heap.Ns b m→(Ah s₁.heap H).Ns b m:=fun {b m} ⟨o,es,ep,e,d,r⟩=>⟨o,es,ep,GY e (UU e d),d,r⟩
  have hKb:K.In (Ah s₁.heap H):=fun b o e=>GY (KX b o e) (by
   cases q:H b with
   | none=>rfl
   | some u =>
    have e':b=a:=hA b (by rw [q];simp)
    subst e'
    rw [hK (by rw [q];simp)] at e;cases e)
  have hM:Mod K mg (Ah s₁.heap H):=⟨hKb,Yd hns,⟨mb,Yd hb,hbb⟩,let ⟨mc,h1,h2⟩:=hlim;⟨mc,Yd h1,h2⟩⟩
  have e0:FH P w K mg (Ah s₁.heap H) callerA [] s₁ H:=⟨rfl,hM,fun b o e=>Ow e,Nat.le_of_eq (Ie _ _),trivial,fun b hb=>absurd (show b∈([]:List Addr) from hb) (by simp),hok,.of_eq hg⟩
  refine codeAny_mono ((F _ hKb (Yd hns)).run callerA [] s₁ H ⟨[.ref a],[]⟩ [.ref a] [.ref a] _ _ hr e0 (hbind s₁ (.ref a)) (.cons rfl .nil) (Qg H hO hS)) fun r s' h=>?_
  cases r with
  | error e=>exact (hCX H e s' h).elim
  | ok fl =>
   cases fl with
   | next=>exact False.elim h
   | brk=>exact False.elim h
   | cont=>exact False.elim h
   | ret u =>
    obtain ⟨v,H',os,bare,un,a8f,r',q⟩:=h
    have q':v=.bl true:=q
    subst q'
    obtain rfl:u=Value.bool true:=r'
    refine ⟨rfl,OldK.of_keep fun b o e=>?_,os,bare⟩
    cases q:H b with
    | none=>exact un.keep b o e q (by intro z;exact absurd (show b∈([]:List Addr) from z) (by simp)) (by simp)
    | some u =>
     rcases hO b with z | ⟨ob,xs,z⟩
     ·rw [q] at z;cases z
     ·have z2:=un.yo b ob _ z
      obtain ⟨e1,_⟩:=hok b _ z
      obtain ⟨e2,_⟩:=a8f b _ z2
      rw [e] at e1;cases e1
      exact e2
 cases hk:K.lookup a with
 | some o =>
  have e:=KX a o hk
  rw [ha] at e
  cases e
  refine core (fun _=>none) (fun _=>.inl rfl) (.inr ⟨_,vs.toArray,_,hk,rfl,rfl,rfl,by rw [List.size_toArray,a5t];exact hl,by simpa using rv⟩) (fun b u z=>by have z':(none:Option HO)=some u:=z;cases z') (fun b z=>absurd rfl z) fun z=>absurd rfl z
 | none =>
  refine core (fun b=>if b=a then some (.Fj { cls:=.type "list",data:=.seq vs.toArray } (.lst (ns.map V.int))) else none) (fun b=>?_) (.inl (.inr ⟨{ cls:=.type "list",data:=.seq vs.toArray },if_pos rfl⟩)) (fun b u z=>?_) (fun b z=>?_) fun _=>hk
  ·by_cases hb:b=a
   ·exact .inr ⟨_,_,if_pos hb⟩
   ·exact .inl (if_neg hb)
  ·by_cases hb:b=a
   ·have z':=(if_pos hb).symm.trans z
    cases z'
    subst hb
    exact ⟨ha,by rw [List.length_map];exact hl,vs,_,rv,ha⟩
   ·have z':=(if_neg hb).symm.trans z
    cases z'
  ·by_cases hb:b=a
   ·exact hb
   ·exact absurd (if_neg hb) z
end L2
namespace L2
open PySem PySem.Spec PyProof.Rows
theorem N2 {l:PySem.W.OpenLaw} {n k:Nat} {q:Program} {loose:List Str} {XP:(Str→Option Value)→Heap→Prop} {YP:World→Heap→Prop} {d:DefRec} {K:Params→PySem.W.Frag} {CX:World→IF} {sp:World→Sp} {x:Str}
  (hn:l.most=some n) (hn2:n≤sizeLine) (hdf:d.params.defaults=[]) (hr:dZ k callerA)
  (hY:∀ (w:World) (h:Heap),YP w h→(K w.params).In h)
  (F:∀ (w:World) (mg:Str→Option Value) (fa:Addr) (h:Heap),(K w.params).In h→h.Ns mainGlobals mg→mg d.name=some (.ref fa) →
   ∃ fd:FuncData,(∀ (s:Shared) (u:Value),BindsTo s fd ⟨[u],[]⟩ [(x,u)]) ∧
    ∀ base:Heap,(K w.params).In base→base.Ns mainGlobals mg→bT l.prog w (K w.params) mg base (CX w) k fa fd [x] (sp w))
  (Qg:∀ (w:World) (H:Hp) (a:Addr) (ns:List Int),ns.length≤n→Ti H→ck (K w.params) H a (ns.map V.int)→sp w [.ref a] H (fun v _=>v=.bl true) fun _ _ _=>False)
  (hCX:∀ (w:World) (H:Hp) (s:Shared) (e:Value) (s':Shared),CX w [] H s (fun _ _ _=>False) e s'→False) :
  PySem.W.WalkO q loose XP YP l.row.toRowW d [] (fun f vs=>PySem.call f vs):=by
 refine Att.BS hn hdf fun w s₀ s₁ mg mb fa o pm cd doc a vs ns G Y ho hd hcd hmg hobj hints hlen hg=>?_
 have KX:=hY w _ Y
 obtain ⟨fd,hb,hF⟩:=F w mg fa _ KX G.T.g hmg
 exact LQ KX G.T.g G.T.b G.T.builtins G.T.nolimit hg hobj hints (Nat.le_trans hlen hn2) hr hF hb (fun H hO hS=>Qg w H a ns hlen hO hS) fun H e s'=>hCX w H s₁ e s'
end L2
namespace L2
open PySem PySem.Spec PyProof.Rows
def inClass (s:Stmt) (j:Nat):Stmt:=match s with
 | .ClassDef _ _ _ body _ _ _ _ _ _ _=>body.getD j (.Pass ⟨0,0,0,0⟩)
 | _=>.Pass ⟨0,0,0,0⟩
def aL (s:Stmt):Arguments:=match s with
 | .FunctionDef _ a _ _ _ _ _ _ _ _=>a
 | _=>{ posonlyargs:=[],args:=[],vararg:=none,kwonlyargs:=[],kw_defaults:=[],kwarg:=none,defaults:=[] }
def au (s:Stmt):List Stmt:=match s with
 | .FunctionDef _ _ b _ _ _ _ _ _ _=>b
 | _=>[]
def ak (s:Stmt):Scope:=match s with
 | .FunctionDef _ _ _ _ _ _ sc _ _ _=>sc
 | _=>{ kind:=.function,names:=[],isGenerator:=false,isCoroutine:=false }
abbrev dX:IF:=fun _ _ _ _ _ _=>False
abbrev E0:XK:=fun _ _ _=>False
theorem az {X:Cx}:Passes dX X E0:=fun _ _ _ _ _ _ _ h=>h.elim
structure fG (K:PySem.W.Frag) (x qual:Str) (st:Stmt) (f:Addr) (fd:FuncData):Prop where
 ex:∃ (oc:Value) (od:Option Addr) (kV doc pm:Value) (an:Option Addr) (cdv ct:Value) (osl:Array (Option Value)),
  fd=PySem.W.fnOf x qual (aL st) (au st) (ak st) .none kV doc pm an cdv ct∧K.lookup f=some ⟨oc,od,.func fd,osl⟩∧PySem.W.codeIn K cdv qual=true
 kp:PySem.W.keepIn K (.ref f)=true
section
variable {P:Program} {w:World} {K:PySem.W.Frag} {mg:Str→Option Value} {base:Heap}
theorem fG.ok {x qual:Str} {st:Stmt} {f:Addr} {fd:FuncData} {N ps:List Str} {k:Nat} {sp:Sp} (F:fG K x qual st f fd) (S:aO N ps (ak st)) (len:∀ vs H Q E,sp vs H Q E→vs.length=ps.length)
  (hbody:∀ (cdv:Value) (A:Around) (outer:List Env) (s:Shared) (H:Hp) (vs:List V) (Q:VK) (E:XK),dZ k (A.deeper (envOfC qual (ak st) s.heap.objs.size f cdv))→sp vs H Q E →
   ∃ t,IA (jQ dX P w K mg base N qual (ak st) f cdv A outer s H E).uH (au st) t∧t { nx:=fun _ H'=>Q .eT H',rt:=Q } (start N vs) H):bT P w K mg base dX (k+1) f fd ps sp:=by
 obtain ⟨oc,od,kV,doc,pm,an,cdv,ct,osl,rfl,lk,hcd⟩:=F.ex
 refine Vt lk hcd S len fun A outer s H vs Q E hr Qg=>?_
 obtain ⟨t,h,q⟩:=hbody cdv A outer s H vs Q E hr Qg
 exact ⟨t,h.uH,q⟩
theorem fG.binds {x qual:Str} {st:Stmt} {f:Addr} {fd:FuncData} {ps:List Str} (F:fG K x qual st f fd)
  (h:∀ (kV doc pm:Value) (an:Option Addr) (cdv ct:Value) (us:List Value),us.length=ps.length→bindArgs (PySem.W.fnOf x qual (aL st) (au st) (ak st) .none kV doc pm an cdv ct) ⟨us,[]⟩=pure (ps.zip us)):Binds K fd ps []:=by
 obtain ⟨oc,od,kV,doc,pm,an,cdv,ct,osl,rfl,lk,hcd⟩:=F.ex
 exact .all (h kV doc pm an cdv ct)
theorem br {x qual:Str} {st:Stmt} {f:Addr} {oc:Value} {od an:Option Addr} {osl:Array (Option Value)} {kV doc pm cdv ct:Value} (l:K.lookup f=some ⟨oc,od,.func (PySem.W.fnOf x qual (aL st) (au st) (ak st) .none kV doc pm an cdv ct),osl⟩)
  (c:PySem.W.codeIn K cdv qual=true) (k:PySem.W.keepIn K (.ref f)=true):fG K x qual st f (PySem.W.fnOf x qual (aL st) (au st) (ak st) .none kV doc pm an cdv ct):=⟨⟨oc,od,kV,doc,pm,an,cdv,ct,osl,rfl,l,c⟩,k⟩
end
theorem bq {A:Around} {k:Nat} (hr:dZ k A):A.units+1 < cLine:=Nat.lt_of_le_of_lt (Nat.add_le_add_left (by decide:1≤64) _) hr.units
section
variable {X:Cx}
theorem pv (i:Nat) {x:Str} {pos:Pos} (hN:X.N[i]?=some x:=by rfl) (hv:ZT X.env.scope x:=by first | exact Or.inl rfl | exact Or.inr (Or.inl rfl) | exact Or.inr (Or.inr rfl)) (hd:(x == ("__debug__":Str))=false:=by decide)
  (hcd:(x == ("__classdict__":Str))=false:=by decide):PE X (.Name x pos) (QT i):=Rf hN hv hd hcd
end
theorem ia {A B:Prop} (h:B):if false=true then A else B:=by
 rw [if_neg Bool.false_ne_true]
 exact h
theorem uY {A B:Prop} (h:A):if true=true then A else B:=by
 rw [if_pos rfl]
 exact h
theorem vX {c A B:Prop} [Decidable c] (h1:c→A) (h2:¬ c→B):if c then A else B:=by
 by_cases h:c
 ·rw [if_pos h]
  exact h1 h
 ·rw [if_neg h]
  exact h2 h
theorem nu {c A B:Prop} [Decidable c] (hc:c) (h:B):if (!decide c)=true then A else B:=by
 rw [decide_eq_true hc]
 exact ia h
def aF (H H':Hp):Prop:=∀ b o,H b=some o→H' b=some o
theorem aF.refl (H:Hp):aF H H:=fun _ _ h=>h
theorem aF.trans {H H1 H2:Hp} (a:aF H H1) (b:aF H1 H2):aF H H2:=fun c o h=>b c o (a c o h)
theorem aF.free {H H':Hp} (e:aF H H') {l:Addr} (h:H' l=Option.none):H l=Option.none:=by
 cases q:H l with
 | none=>rfl
 | some o =>
  rw [e l o q] at h
  cases h
theorem aF.seq {K:PySem.W.Frag} {H H':Hp} {a:Addr} {xs:List V} (e:aF H H') (h:ck K H a xs):ck K H' a xs:=by
 rcases h with (h | ⟨o,h⟩) | h
 ·exact .inl (.inl (e _ _ h))
 ·exact .inl (.inr ⟨o,e _ _ h⟩)
 ·exact .inr h
end L2
namespace L2
open PySem PySem.Spec PyProof.Rows
section
variable {κ:Type} [DecidableEq κ]
def qO (kvs:List (κ×V)) (k:κ):Option V:=(kvs.find? fun kv=>decide (kv.1=k)).map (·.2)
def putK (kvs:List (κ×V)) (k:κ) (v:V):List (κ×V) :=
 if (kvs.any fun kv=>decide (kv.1=k))=true then kvs.map (fun kv=>if kv.1=k then (kv.1,v) else kv) else kvs++[(k,v)]
theorem sI {p:κ×V} {r:List (κ×V)} {k:κ} (e:p.1=k):qO (p::r) k=some p.2:=by simp [qO,List.find?_cons,e]
theorem sJ {p:κ×V} {r:List (κ×V)} {k:κ} (e:¬ p.1=k):qO (p::r) k=qO r k:=by simp [qO,List.find?_cons,e]
theorem AR (k:κ):∀ kvs:List (κ×V),(kvs.any fun kv=>decide (kv.1=k))=(qO kvs k).isSome
 | []=>rfl
 | p::r=>by
  rw [List.any_cons]
  by_cases e:p.1=k
  ·simp only [sI e,decide_eq_true e,Bool.true_or,Option.isSome_some]
  ·rw [sJ e,decide_eq_false e,Bool.false_or];exact AR k r
theorem vI (kvs:List (κ×V)) (k:κ) (v:V):(putK kvs k v).length≤kvs.length+1:=by
 unfold putK
 split
 ·rw [List.length_map];omega
 ·rw [List.length_append,List.length_cons,List.length_nil];omega
theorem oY.HX {o:Option V} {u:Option Value} (r:oY o u):o.isSome=u.isSome:=by
 cases o with
 | none=>cases u with
  | none=>rfl
  | some _=>exact (show False from r).elim
 | some _=>cases u with
  | none=>exact (show False from r).elim
  | some _=>rfl
theorem oY.getD {o:Option V} {u:Option Value} {d:V} {d':Value} (r:oY o u) (rd:RelV d d'):RelV (o.getD d) (u.getD d'):=by
 cases o with
 | none=>cases u with
  | none=>exact rd
  | some _=>exact (show False from r).elim
 | some _=>cases u with
  | none=>exact (show False from r).elim
  | some _=>exact r
theorem KV.val {kvs:List (κ×V)} {vs:List (κ×Value)} (r:KV kvs vs) (k:κ):oY (qO kvs k) (valueAt vs k):=by
 unfold KV at r
 induction r with
 | nil=>exact True.intro
 | @cons p q ps qs h t ih =>
  obtain ⟨h1,h2⟩:=h
  by_cases e:p.1=k
  ·have e':q.1=k:=h1.symm.trans e
   have b:valueAt (q::qs) k=some q.2:=by simp [valueAt,List.find?_cons,e']
   rw [sI e,b];exact h2
  ·have e':¬ q.1=k:=fun z=>e (h1.trans z)
   have b:valueAt (q::qs) k=valueAt qs k:=by simp [valueAt,List.find?_cons,e']
   rw [sJ e,b];exact ih
theorem KV.any {kvs:List (κ×V)} {vs:List (κ×Value)} (r:KV kvs vs) (k:κ):(kvs.any fun kv=>decide (kv.1=k))=vs.any fun kv=>decide (kv.1=k):=by
 unfold KV at r
 induction r with
 | nil=>rfl
 | cons h t ih=>rw [List.any_cons,List.any_cons,ih,h.1]
theorem KV.repl {kvs:List (κ×V)} {vs:List (κ×Value)} (r:KV kvs vs) (k:κ) {y:V} {u:Value} (ry:RelV y u) :
  KV (kvs.map fun kv=>if kv.1=k then (kv.1,y) else kv) (vs.map fun kv=>if kv.1=k then (kv.1,u) else kv):=by
 unfold KV at r ⊢
 induction r with
 | nil=>exact .nil
 | @cons p q ps qs h t ih =>
  rw [List.map_cons,List.map_cons]
  refine .cons ?_ ih
  obtain ⟨h1,h2⟩:=h
  by_cases e:p.1=k
  ·rw [if_pos e,if_pos (h1.symm.trans e)];exact ⟨h1,ry⟩
  ·rw [if_neg e,if_neg (fun z=>e (h1.trans z))];exact ⟨h1,h2⟩
theorem KV.put {kvs:List (κ×V)} {vs:List (κ×Value)} (r:KV kvs vs) (k:κ) {y:V} {u:Value} (ry:RelV y u):KV (putK kvs k y) (stored vs k u):=by
 unfold putK stored
 rw [r.any k]
 by_cases e:(vs.any fun kv=>decide (kv.1=k))=true
 ·rw [if_pos e,if_pos e];exact r.repl k ry
 ·rw [if_neg e,if_neg e];exact Paired.snoc r ⟨rfl,ry⟩
theorem KV.keys {kvs:List (κ×V)} {vs:List (κ×Value)} (r:KV kvs vs):kvs.map (·.1)=vs.map (·.1):=by
 unfold KV at r
 induction r with
 | nil=>rfl
 | cons h t ih=>rw [List.map_cons,List.map_cons,ih,h.1]
theorem KV.length {kvs:List (κ×V)} {vs:List (κ×Value)} (r:KV kvs vs):kvs.length=vs.length:=Paired.length r
end
theorem Gw {P:Program} {w:World} {k:Key} {u:Value} (r:RelV (kV k) u):(gP P w).is k u=true:=by
 cases k with
 | inl i=>obtain ⟨t,e⟩:=(show ∃ t,u=Value.int i t from r);subst e;exact Bh P w i t
 | inr x=>obtain ⟨t,e⟩:=(show ∃ t,u=Value.str x t from r);subst e;exact Bg P w x t
theorem yV {P:Program} {w:World}:∀ {ks:List Key} {us:List Value},Vals (ks.map kV) us→ItemsAre (gP P w) ks us
 | [],_,r=>by rw [List.map_nil] at r;cases r;exact .nil
 | k::ks,_,r=>by
  rw [List.map_cons] at r
  cases r with
  | cons h t=>exact .cons (Gw h) (yV t)
abbrev KT (H:Hp):List (List Key×V)→List (List Key×Addr×Value)→Prop:=Paired fun p q=>p.1=q.1∧H q.2.1=some (.tup (p.1.map kV))∧RelV p.2 q.2.2
theorem KT.val {H:Hp} {kvs:List (List Key×V)} {xs:List (List Key×Addr×Value)} (r:KT H kvs xs) (k:List Key):oY (qO kvs k) ((atKey xs k).map (·.2)):=by
 induction r with
 | nil=>exact True.intro
 | @cons p q ps qs h t ih =>
  obtain ⟨h1,_,h2⟩:=h
  by_cases e:p.1=k
  ·have e':q.1=k:=h1.symm.trans e
   have b:atKey (q::qs) k=some q.2:=by simp [atKey,List.find?_cons,e']
   rw [sI e,b];exact h2
  ·have e':¬ q.1=k:=fun z=>e (h1.trans z)
   have b:atKey (q::qs) k=atKey qs k:=by simp [atKey,List.find?_cons,e']
   rw [sJ e,b];exact ih
theorem KT.repl {H:Hp} {kvs:List (List Key×V)} {xs:List (List Key×Addr×Value)} (r:KT H kvs xs) (k:List Key) {y:V} {u:Value} (ry:RelV y u) :
  KT H (kvs.map fun kv=>if kv.1=k then (kv.1,y) else kv) (xs.map (putAt k u)):=by
 induction r with
 | nil=>exact .nil
 | @cons p q ps qs h t ih =>
  rw [List.map_cons,List.map_cons]
  refine .cons ?_ ih
  obtain ⟨h1,h2,h3⟩:=h
  unfold putAt
  by_cases e:p.1=k
  ·rw [if_pos e,if_pos (h1.symm.trans e)];exact ⟨h1,h2,ry⟩
  ·rw [if_neg e,if_neg (fun z=>e (h1.trans z))];exact ⟨h1,h2,h3⟩
theorem KT.put {H:Hp} {kvs:List (List Key×V)} {xs:List (List Key×Addr×Value)} (r:KT H kvs xs) (k:List Key) {b:Addr} {y:V} {u:Value} (hb:H b=some (.tup (k.map kV))) (ry:RelV y u) :
  KT H (putK kvs k y) (storedH xs k b u):=by
 have e:(kvs.any fun kv=>decide (kv.1=k))=(atKey xs k).isSome:=by
  rw [AR,(r.val k).HX,Option.isSome_map]
 unfold putK storedH
 rw [e]
 by_cases q:(atKey xs k).isSome=true
 ·rw [if_pos q,if_pos q];exact r.repl k ry
 ·rw [if_neg q,if_neg q];exact Paired.snoc r ⟨rfl,hb,ry⟩
theorem KT.keeps {H H':Hp} {kvs:List (List Key×V)} {xs:List (List Key×Addr×Value)} (r:KT H kvs xs) (ht:∀ b ys,H b=some (.tup ys)→H' b=some (.tup ys)):KT H' kvs xs :=
 Paired.dg r fun _ _ z=>⟨z.1,ht _ _ z.2.1,z.2.2⟩
section
variable {P:Program} {w:World} {H:Hp} {h:Heap} {a:Addr}
theorem PZ {u:HO} (ok:sH P w H h) (e:Rd H a u):gk P w H h a u:=e.ok ok
theorem y9 {kvs:List (Key×V)} (ok:sH P w H h) (e:Rd H a (.dK kvs)):kvs.length≤sizeLine∧(a == sysModules)=false∧∃ vs,KV kvs vs∧h.DictOf (gP P w) a vs :=
 show gk P w H h a (.dK kvs) from PZ ok e
theorem V6 {kvs:List (Key×V)} (ok:sH P w H h) (e:H a=some (.dK kvs)):kvs.length≤sizeLine∧(a == sysModules)=false∧∃ vs,KV kvs vs∧h.DictOf (gP P w) a vs:=y9 ok (.inl e)
theorem Ac {ks:List Key} (ok:sH P w H h) (e:H a=some (.tup (ks.map kV))):(tupleKind (gP P w)).is h ks a:=by
 obtain ⟨_,its,r,o,h1,h2,n,h3⟩:=(show gk P w H h a (.tup (ks.map kV)) from ok a _ e)
 exact ⟨o,its.toArray,n,h1,h2,h3,by simpa using yV r⟩
theorem BE {kvs:List (List Key×V)} (ok:sH P w H h) (e:Rd H a (.dT kvs)):kvs.length≤sizeLine∧(a == sysModules)=false ∧
  ∃ xs,KT H kvs xs∧h.DictOfH (tupleKind (gP P w)) a xs:=by
 obtain ⟨z,y,xs,r,o,es,ep,h1,h2,h3,h4,h5⟩:=(show gk P w H h a (.dT kvs) from PZ ok e)
 refine ⟨z,y,xs,r,o,es,ep,h1,h2,h3,h4,fun x hx=>?_,h5⟩
 have all:∀ {l:List (List Key×V)} {m:List (List Key×Addr×Value)},KT H l m→∀ x∈m,(tupleKind (gP P w)).is h x.1 x.2.1:=by
  intro l m q
  induction q with
  | nil=>intro x hx;exact nomatch hx
  | @cons p q ps qs hq t ih =>
   intro x hx
   rcases List.mem_cons.mp hx with e | hx
   ·subst e
    exact Ac ok (by rw [← hq.1];exact hq.2.1)
   ·exact ih x hx
 exact all r x hx
theorem V4 {kvs:List (List Key×V)} (ok:sH P w H h) (e:H a=some (.dT kvs)):kvs.length≤sizeLine∧(a == sysModules)=false ∧
  ∃ xs,KT H kvs xs∧h.DictOfH (tupleKind (gP P w)) a xs:=BE ok (.inl e)
end
def yH (H:Hp) (a:Addr) (y:V) (r:Option V):Prop :=
 (∃ kvs k,Rd H a (.dK kvs)∧y=kV k∧r=qO kvs k)∨∃ kvs k b,Rd H a (.dT kvs)∧y=.ref b∧H b=some (.tup (k.map kV))∧r=qO kvs k
def IE (H:Hp) (a:Addr) (y v:V) (H':Hp):Prop :=
 (∃ kvs k,H a=some (.dK kvs)∧y=kV k∧kvs.length < sizeLine∧H'=upd H a (.dK (putK kvs k v))) ∨
 ∃ kvs k b,H a=some (.dT kvs)∧y=.ref b∧H b=some (.tup (k.map kV))∧kvs.length < sizeLine∧H'=upd H a (.dT (putK kvs k v))
theorem yH.k {H:Hp} {a:Addr} {kvs:List (Key×V)} {k:Key} (e:H a=some (.dK kvs)):yH H a (kV k) (qO kvs k):=.inl ⟨kvs,k,.inl e,rfl,rfl⟩
theorem IE.k {H:Hp} {a:Addr} {kvs:List (Key×V)} {k:Key} {v:V} (e:H a=some (.dK kvs)) (hl:kvs.length < sizeLine):IE H a (kV k) v (upd H a (.dK (putK kvs k v))):=.inl ⟨kvs,k,e,rfl,hl,rfl⟩
section
variable {X:Cx} {pins:List (Addr×Obj)} {σ:St} {H:Hp} {s:Shared} {a:Addr} {y v:V} {u r:Value} {o:Option V} {A:Around} {E:Value→Shared→Prop}
theorem Inv.big (I:Inv X pins σ H s):sysModules < s.heap.objs.size:=by
 have h:mainGlobals < s.heap.objs.size:=(I.mod.glob.keeps I.bk).lt
 exact Nat.lt_trans (by decide) h
theorem Ik {Q:Value→Shared→Prop} (hu:A.units+1 < cLine) (I:Inv X pins σ H s) (g:yH H a y (some v)) (ry:RelV y u) (h:∀ w' s',Inv X pins σ H s'→RelV v w'→Q w' s') :
  wpAny (model X.prog X.w) A (getItem (.ref a) u) Q E s:=by
 rcases g with ⟨kvs,k,e,ey,l⟩ | ⟨kvs,k,b,e,ey,eb,l⟩
 ·subst ey
  obtain ⟨z,hd,vs,rel,dd⟩:=y9 I.hok e
  obtain ⟨w',hw,rw'⟩:=oY.some_of (v:=v) (o:=valueAt vs k) (by rw [l];exact rel.val k)
  exact wpAny_getItem_of (Gw ry) dd.mapOf hw (h w' _ (I.tok _) rw')
 ·subst ey
  cases (show u=Value.ref b from ry)
  obtain ⟨z,hd,xs,rel,dd⟩:=BE I.hok e
  obtain ⟨w',hw,rw'⟩:=oY.some_of (v:=v) (o:=(atKey xs k).map (·.2)) (by rw [l];exact rel.val k)
  obtain ⟨p,hp,hp2⟩:=Option.map_eq_some_iff.mp hw
  refine wpAny_getItem_heap (tupleKind_room_in1 hu) (Ac I.hok eb) dd hp ?_
  rw [hp2]
  exact h w' _ (I.tok _) rw'
theorem GS {h':Heap} {t':Nat} {ob:HO} (I:Inv X pins σ H s) (mu:Xv (H a)) (hs:Heap.SameBut a s.heap h') (he:∃ q,h'.get? a=some q) (new:gk X.prog X.w (upd H a ob) h' a ob) :
  Inv X pins σ (upd H a ob) { s with heap:=h',toks:=t' } :=
 I.write (x:=a) (e:=a) mu (.inl rfl) (fun b q hb z=>(hs.2 b hb).trans z) he new
theorem SR {P:Program} {w:World} {H':Hp} {h':Heap} {kvs:List (Key×V)} {vs:List (Key×Value)} (z:kvs.length≤sizeLine) (hd:(a == sysModules)=false) (rel:KV kvs vs) (dd:h'.DictOf (gP P w) a vs) :
  gk P w H' h' a (.dK kvs):=⟨z,hd,vs,rel,dd⟩
theorem Ij {H':Hp} {Q:Unit→Shared→Prop} (hu:A.units+1 < cLine) (I:Inv X pins σ H s) (g:IE H a y v H') (ry:RelV y u) (rv:RelV v r) (h:∀ s',Inv X pins σ H' s'→Q () s') :
  wpAny (model X.prog X.w) A (setItem (.ref a) u r) Q E s:=by
 rcases g with ⟨kvs,k,e,ey,l,eH⟩ | ⟨kvs,k,b,e,ey,eb,l,eH⟩
 ·subst ey eH
  obtain ⟨z,hd,vs,rel,dd⟩:=V6 I.hok e
  have hz:vs.length≤sizeLine:=by rw [← rel.length];exact z
  have hl:(putK kvs k v).length≤sizeLine:=by have:=vI kvs k v;omega
  refine wpAny_setItem_pairs (hsz:=hz) (Gw ry) dd fun h' SS hs=>h _ ?_
  have he:∃ q,h'.get? a=some q:=let ⟨q,_,_,hq,_⟩:=SS;⟨q,hq⟩
  exact GS I (by rw [e];exact True.intro) hs he (SR hl hd (rel.put k rv) SS)
 ·subst ey eH
  cases (show u=Value.ref b from ry)
  obtain ⟨z,hd,xs,rel,dd⟩:=V4 I.hok e
  have hz:xs.length≤sizeLine:=by rw [← Paired.length rel];exact z
  have hl:(putK kvs k v).length≤sizeLine:=by have:=vI kvs k v;omega
  refine wpAny_setItem_heap (hsz:=hz) (tupleKind_room_in1 hu) (Ac I.hok eb) dd fun h' SS hs=>h _ ?_
  obtain ⟨q,es,ep,hq,h2,h3,h4,_,h5⟩:=SS
  refine GS I (by rw [e];exact True.intro) hs ⟨q,hq⟩ ⟨hl,hd,_,(rel.put k eb rv).keeps fun c ys ec=>?_,q,es,ep,hq,h2,h3,h4,h5⟩
  rw [aX (yU ec e (fun z=>nomatch z))]
  exact ec
end
section
variable {X:Cx} {pins:List (Addr×Obj)} {σ:St} {H:Hp} {s:Shared} {a:Addr} {kvs:List (Key×V)} {k:Key} {u:Value} {A:Around} {E:Value→Shared→Prop}
end
def Xu (i:Expr):Prop:=∀ ov iv,subscripted i false ov iv=operate [ov,iv] (getItem ov iv)
theorem Oa {prog:Program} {w:World} {A:Around} {E:Value→Shared→Prop} {s:Shared} {env:Env} {value slice:Expr} {pos:Pos} {T id:String} {Q:Value→Shared→Prop}
  (hl:typeLookup (.type T) "__getitem__"=pure (some (.builtin id))) (hs:Xu slice)
  (h:wpAny (model prog w) A (eval value env) (fun o s₁=>wpAny (model prog w) A (eval slice env) (fun i s₂=>s₂.TypeIs o T∧wpAny (model prog w) A (getItem o i) Q E s₂) E s₁) E s) :
  wpAny (model prog w) A (eval (.Subscript value slice pos) env) Q E s:=by
 refine Subscript_ (wpAny_mono h (fun o s₁ h₁=>wpAny_mono h₁ (fun i s₂ h₂=>?_) fun _ _ x=>x) fun _ _ x=>x)
 obtain ⟨hT,h₂⟩:=h₂
 unfold subscriptTail
 refine wpAny_bind ?_
 rw [getitemInPython_of_ne hT.not_modules]
 refine wpAny_bind (wpAny_specialOf hT hl ?_)
 have fin:wpAny (model prog w) A (subscripted slice false o i) (fun r s₃=>wpAny (model prog w) A (letTemporaryGo value o r >>= fun _=>pure r) Q E s₃) E s₂:=by
  rw [hs o i]
  exact wpAny_operating (wpAny_mono h₂ (fun r s₃ h₃=>wpAny_bind (wpAny_letTemporaryGo (wpAny_pure h₃))) fun _ _ x=>x)
 first
  | exact wpAny_pure (wpAny_bind fin)
  | exact wpAny_bind (wpAny_pure (wpAny_bind fin))
  | exact wpAny_bind fin
theorem BF {X:Cx} {pins:List (Addr×Obj)} {σ:St} {H:Hp} {s:Shared} {a:Addr} {y:V} {o:Option V} (I:Inv X pins σ H s) (g:yH H a y o):s.TypeIs (.ref a) "dict":=by
 rcases g with ⟨kvs,k,e,_,_⟩ | ⟨kvs,k,b,e,_,_,_⟩
 ·obtain ⟨_,_,vs,_,dd⟩:=y9 I.hok e
  exact dd.typeIs
 ·obtain ⟨_,_,xs,_,dd⟩:=BE I.hok e
  exact dd.typeIs
def Uv (td ty:TE):TE:=fun σ H Q=>td σ H fun x H1=>ty σ H1 fun y H2=>∃ a v,x=.ref a∧yH H2 a y (some v)∧Q v H2
def UD (td ty tv:TE):TS:=fun D σ H=>tv σ H fun v H1=>td σ H1 fun x H2=>ty σ H2 fun y H3=>∃ a H4,x=.ref a∧IE H3 a y v H4∧D.nx σ H4
section
variable {X:Cx} {o i e value:Expr} {pos pos' tpos:Pos} {td ty tv:TE}
theorem zI (hu:X.A.units+1 < cLine) (ho:PE X o td) (hi:PE X i ty) (hs:Xu i):PE X (.Subscript o i pos) (Uv td ty):=by
 intro pins s σ H Q I h
 refine Oa PySem.F.slot_dict_getitem.lookup hs (gZ (ho pins s σ H _ I h) fun u s1 ⟨x,H1,I1,rx,q1⟩=>gZ (hi pins s1 σ H1 _ I1 q1) fun iv s2 ⟨y,H2,I2,ry,a,v,ex,g,q2⟩=>?_)
 subst ex
 obtain rfl:u=Value.ref a:=rx
 exact ⟨BF I2 g,Ik hu I2 g ry fun w' s3 I3 rw'=>⟨v,H2,I3,rw',q2⟩⟩
theorem Gk (hu:X.A.units+1 < cLine) (ho:PE X o td) (hi:PE X i ty) (hv:PE X value tv) (hs:swapsWith value (some (.Subscript o i pos')) pos.line X.env=pure false) :
  PS X (.Assign [.Subscript o i pos'] value pos) (UD td ty tv):=by
 intro pins s σ H D I h
 refine wpAny_Assign_Subscript (gZ (hv pins s σ H _ I h) fun r s1 ⟨v,H1,I1,rv,q1⟩=>gZ (ho pins s1 σ H1 _ I1 q1) fun u s2 ⟨x,H2,I2,rx,q2⟩=>gZ (hi pins s2 σ H2 _ I2 q2) fun iv s3 ⟨y,H3,I3,ry,a,H4,ex,g,q3⟩=>?_) hs
 subst ex
 obtain rfl:u=Value.ref a:=rx
 exact Ij hu I3 g ry rv fun s4 I4=>⟨σ,H4,I4,q3⟩
end
theorem M0 {P:Program} {w:World} {H:Hp} (h:Heap) (hb:sysModules < h.objs.size):gk P w H (h.push { cls:=.type "dict",data:=.dict #[] }) h.objs.size (.dK []) :=
 ⟨Nat.zero_le _,beq_eq_false_iff_ne.mpr (Ne.symm (Nat.ne_of_lt hb)),[],.nil,Heap.DictOf.new h⟩
def QU:TE:=fun _ H Q=>∀ p,H p=none→Q (.ref p) (upd H p (.dK []))
section
variable {X:Cx} {pos:Pos}
theorem Bb:PE X (.Dict [] [] pos) QU:=fun pins s σ H Q I h =>
 wpAny_Dict_empty ⟨.ref s.heap.objs.size,_,I.laid (a:=s.heap.objs.size) (o:=.dK []) (t':=s.toks) (fun _ _ q=>Heap.get?_push_of_some _ q) (Nat.le_refl _) (M0 s.heap I.big),rfl,h _ (I.hok.fresh (Nat.le_refl _))⟩
end
structure M2 (X:Cx) (o:Expr) (m:Str) (apos:Pos) (e f:Expr) (cpos:Pos):Prop where
 base:attributeBase o m X.env (eval o X.env)=eval o X.env
 few:((backTo cpos (starEach [e,f] X.env)).all (fun x=>!x.1) && (backToKw cpos (keywordEach [] X.env)).all (fun x=>x.1.isSome)
  && decide (([e,f]:List Expr).length+([]:List Keyword).length+(if ([]:List Keyword).isEmpty then 0 else 1) < 30))=true
 line:(apos.endLine == cpos.line)=true
 trees:backTo cpos (starEach [e,f] X.env)=[(false,eval e X.env),(false,eval f X.env)]
def IsD (H:Hp) (a:Addr):Prop:=(∃ kvs,Rd H a (.dK kvs))∨∃ kvs,Rd H a (.dT kvs)
theorem R1 {X:Cx} {pins:List (Addr×Obj)} {σ:St} {H:Hp} {s:Shared} {a:Addr} (I:Inv X pins σ H s) (d:IsD H a) :
  s.TypeIs (.ref a) "dict"∧(∀ b,Value.ref a=.ref b→∃ ob,s.heap.get? b=some ob∧ob.dict=none)∧(a == sysModules)=false:=by
 rcases d with ⟨kvs,e⟩ | ⟨kvs,e⟩
 ·obtain ⟨_,hd,vs,_,dd⟩:=y9 I.hok e
  refine ⟨dd.typeIs,fun b q=>?_,hd⟩
  cases q
  obtain ⟨ob,_,_,h1,h2,_⟩:=dd
  exact ⟨ob,h1,h2.2.1⟩
 ·obtain ⟨_,hd,xs,_,dd⟩:=BE I.hok e
  refine ⟨dd.typeIs,fun b q=>?_,hd⟩
  cases q
  obtain ⟨ob,_,_,h1,h2,_⟩:=dd
  exact ⟨ob,h1,h2.2.1⟩
section
variable {X:Cx} {pins:List (Addr×Obj)} {σ:St} {H:Hp} {s:Shared} {a:Addr} {y d:V} {u r:Value} {o:Option V} {A:Around} {E:Value→Shared→Prop}
theorem SX {Q:Value→Shared→Prop} (hu:A.units+1 < cLine) (I:Inv X pins σ H s) (g:yH H a y o) (ry:RelV y u) (rd:RelV d r) (h:∀ w' s',Inv X pins σ H s'→RelV (o.getD d) w'→Q w' s') :
  wpAny (model X.prog X.w) A (call (.builtin "dict.get") [.ref a,u,r]) Q E s:=by
 rcases g with ⟨kvs,k,e,ey,l⟩ | ⟨kvs,k,b,e,ey,eb,l⟩
 ·subst ey
  obtain ⟨z,hd,vs,rel,dd⟩:=y9 I.hok e
  refine call_meetsIn PySem.F.slot_dict_get dd.typeIs PySem.F.entry_dict_get (PySem.F.args_dict_get_3 _ _ _) (meets_dict_get_default (gP X.prog X.w) a (Gw ry) hd r) ⟨_,dd.mapOf,h _ _ (I.tok _) ?_⟩
  rw [l]
  exact (rel.val k).getD rd
 ·subst ey
  cases (show u=Value.ref b from ry)
  obtain ⟨z,hd,xs,rel,dd⟩:=BE I.hok e
  refine call_meetsIn PySem.F.slot_dict_get dd.typeIs PySem.F.entry_dict_get (PySem.F.args_dict_get_3 _ _ _) (meetsH_dict_get_default (tupleKind (gP X.prog X.w)) a b hd r) ⟨tupleKind_room_in1 hu,k,xs,Ac I.hok eb,dd,h _ _ (I.tok _) ?_⟩
  rw [l]
  exact (rel.val k).getD rd
end
def QV (td ty tx:TE):TE:=fun σ H Q=>td σ H fun x H1=>∃ a,x=.ref a∧IsD H1 a∧ty σ H1 fun y H2=>tx σ H2 fun z H3=>∃ o,yH H3 a y o∧Q (o.getD z) H3
section
variable {X:Cx} {o e f:Expr} {apos cpos:Pos} {td ty tx:TE}
theorem KJ (hu:X.A.units+1 < cLine) (ho:PE X o td) (he:PE X e ty) (hf:PE X f tx) (m:M2 X o "get" apos e f cpos):PE X (.Call (.Attribute o "get" apos) [e,f] [] cpos) (QV td ty tx):=by
 intro pins s σ H Q I h
 refine wpAny_Call_method m.base m.few m.line PySem.F.plainAttrs_dict PySem.F.slot_dict_get PySem.F.type_dict_get (gZ (ho pins s σ H _ I h) fun u s1 ⟨x,H1,I1,rx,a,ex,d,q1⟩=>?_)
 subst ex
 obtain rfl:u=Value.ref a:=rx
 obtain ⟨t1,t2,_⟩:=R1 I1 d
 refine ⟨t1,t2,?_⟩
 rw [m.trees]
 refine Calls.callWith_builtin rfl (Calls.evalArgs_plain (Calls.spliced_cons (gZ (he pins s1 σ H1 _ I1 q1) fun iv s2 ⟨y,H2,I2,ry,q2⟩ =>
  Calls.spliced_cons (gZ (hf pins s2 σ H2 _ I2 q2) fun fv s3 ⟨z,H3,I3,rz,ov,g,q3⟩=>Calls.spliced_nil ?_))))
 exact SX hu I3 g ry rz fun w' s4 I4 rw'=>⟨_,H3,I4,rw',q3⟩
end
section
variable {X:Cx} {pins:List (Addr×Obj)} {σ:St} {H:Hp} {s:Shared} {a:Addr} {kvs:List (Key×V)} {A:Around} {E:Value→Shared→Prop}
end
section
variable {X:Cx} {pins:List (Addr×Obj)} {σ:St} {H:Hp} {s:Shared} {a:Addr} {y:V} {u:Value} {A:Around} {E:Value→Shared→Prop}
end
end L2
namespace L2
open PySem PySem.Spec PyProof.Rows
section
variable {X:Cx}
end
section
variable {κ:Type} [DecidableEq κ]
end
end L2
namespace Hw
open PySem PySem.Spec
def lt (a b:Str):Bool:=ltCps a.cps.toList b.cps.toList
theorem Qp:∀ a:List Nat,ltCps a a=false
 | []=>rfl
 | x::r=>by simp [ltCps,Qp r]
theorem GX:∀ a b c:List Nat,ltCps a b=true→ltCps b c=true→ltCps a c=true
 | [],[],_,h,_=>by simp [ltCps] at h
 | [],_::_,[],_,h=>by simp [ltCps] at h
 | [],_::_,_::_,_,_=>rfl
 | _::_,[],_,h,_=>by simp [ltCps] at h
 | _::_,_::_,[],_,h=>by simp [ltCps] at h
 | x::a,y::b,z::c,h,g=>by
  simp only [ltCps,Bool.or_eq_true,Bool.and_eq_true,decide_eq_true_eq,beq_iff_eq] at h g ⊢
  rcases h with h | ⟨h,h'⟩ <;> rcases g with g | ⟨g,g'⟩
  ·left;omega
  ·left;omega
  ·left;omega
  ·right;exact ⟨by omega,GX a b c h' g'⟩
theorem Qo:∀ a b:List Nat,ltCps a b=true∨a=b∨ltCps b a=true
 | [],[]=>.inr (.inl rfl)
 | [],_::_=>.inl rfl
 | _::_,[]=>.inr (.inr rfl)
 | x::a,y::b=>by
  simp only [ltCps,Bool.or_eq_true,Bool.and_eq_true,decide_eq_true_eq,beq_iff_eq,List.cons.injEq]
  rcases Nat.lt_trichotomy x y with h | h | h
  ·exact .inl (.inl h)
  ·rcases Qo a b with g | g | g
   ·exact .inl (.inr ⟨h,g⟩)
   ·exact .inr (.inl ⟨h,g⟩)
   ·exact .inr (.inr (.inr ⟨h.symm,g⟩))
  ·exact .inr (.inr (.inl h))
theorem Fc (a:Str):lt a a=false:=Qp _
theorem lt_trans {a b c:Str}:lt a b=true→lt b c=true→lt a c=true:=GX _ _ _
theorem xH (a b:Str):lt a b=true∨a=b∨lt b a=true:=by
 rcases Qo a.cps.toList b.cps.toList with h | h | h
 ·exact .inl h
 ·refine .inr (.inl ?_)
  obtain ⟨⟨x⟩⟩:=a;obtain ⟨⟨y⟩⟩:=b
  have h:x=y:=h
  rw [h]
 ·exact .inr (.inr h)
theorem LN {a b:Str} (h:lt a b=true):a≠b:=fun e=>by rw [e,Fc] at h;cases h
theorem not_lt_trans {a b c:Str} (h:lt b a=false) (g:lt c b=false):lt c a=false:=by
 rcases xH c a with e | e | e
 ·rcases xH b a with k | k | k
  ·rw [h] at k;cases k
  ·rw [k] at g;rw [g] at e;cases e
  ·rw [lt_trans e k] at g;cases g
 ·rw [e];exact Fc a
 ·cases q:lt c a with
  | false=>rfl
  | true=>have:=lt_trans e q;rw [Fc] at this;cases this
abbrev Ps:=List (Str×Int)
def nI:Ps→(Str→Int)→Int
 | [],_=>0
 | p::r,f=>p.2*f p.1+nI r f
theorem rX:∀ (a b:Ps) (f:Str→Int),nI (a++b) f=nI a f+nI b f
 | [],b,f=>by simp [nI]
 | p::a,b,f=>by simp only [List.cons_append,nI,rX a b f];omega
theorem LP {a b:Ps} (h:a.Perm b) (f:Str→Int):nI a f=nI b f:=by
 induction h with
 | nil=>rfl
 | cons x _ ih=>simp only [nI,ih]
 | swap x y l=>simp only [nI];omega
 | trans _ _ i j=>exact i.trans j
theorem rW:∀ (a:Ps) (f:Str→Int),nI (a.filter fun p=>decide (p.2≠0)) f=nI a f
 | [],f=>rfl
 | p::a,f=>by
  by_cases h:p.2=0
  ·rw [List.filter_cons_of_neg (by simp [h]),rW a f,nI,h];simp
  ·rw [List.filter_cons_of_pos (by simp [h]),nI,nI,rW a f]
structure Canon (a:Ps):Prop where
 up:a.Pairwise fun p q=>lt p.1 q.1=true
 nz:∀ p∈a,p.2≠0
def ind (t:Str):Str→Int:=fun s=>if s=t then 1 else 0
theorem xJ {t:Str}:∀ {a:Ps},(∀ p∈a,p.1≠t)→nI a (ind t)=0
 | [],_=>rfl
 | p::a,h=>by
  have h1:p.1≠t:=h p (List.mem_cons_self ..)
  rw [nI,xJ (a:=a) fun q hq=>h q (List.mem_cons_of_mem _ hq)]
  simp [ind,h1]
theorem Canon.tail {p:Str×Int} {a:Ps} (c:Canon (p::a)):Canon a:=⟨(List.pairwise_cons.mp c.up).2,fun q hq=>c.nz q (List.mem_cons_of_mem _ hq)⟩
theorem Canon.head {p:Str×Int} {a:Ps} (c:Canon (p::a)):nI (p::a) (ind p.1)=p.2:=by
 rw [nI,xJ fun q hq=>(LN ((List.pairwise_cons.mp c.up).1 q hq)).symm]
 simp [ind]
theorem Canon.low {t:Str} {p:Str×Int} {a:Ps} (c:Canon (p::a)) (h:lt t p.1=true):nI (p::a) (ind t)=0:=by
 refine xJ fun q hq=>?_
 rcases List.mem_cons.mp hq with rfl | hq
 ·exact (LN h).symm
 ·exact (LN (lt_trans h ((List.pairwise_cons.mp c.up).1 q hq))).symm
theorem Canon.same:∀ {a b:Ps},Canon a→Canon b→(∀ f,nI a f=nI b f)→a=b
 | [],[],_,_,_=>rfl
 | [],p::b,_,cb,h=>by
  have e:=h (ind p.1)
  rw [cb.head] at e
  exact absurd e.symm (cb.nz p (List.mem_cons_self ..))
 | p::a,[],ca,_,h=>by
  have e:=h (ind p.1)
  rw [ca.head] at e
  exact absurd e (ca.nz p (List.mem_cons_self ..))
 | p::a,q::b,ca,cb,h=>by
  rcases xH p.1 q.1 with g | g | g
  ·have e:=h (ind p.1)
   rw [ca.head,cb.low g] at e
   exact absurd e (ca.nz p (List.mem_cons_self ..))
  ·have e:=h (ind p.1)
   rw [ca.head,g,cb.head] at e
   have pq:p=q:=Prod.ext g e
   subst pq
   rw [Canon.same ca.tail cb.tail fun f=>by have:=h f;simp only [nI] at this;omega]
  ·have e:=h (ind q.1)
   rw [cb.head,ca.low g] at e
   exact absurd e.symm (cb.nz q (List.mem_cons_self ..))
def Gat (a b:Ps):Prop:=Canon b∧∀ f,nI b f=nI a f
def get (d:Ps) (t:Str):Int:=((d.find? fun p=>decide (p.1=t)).map (·.2)).getD 0
def put (d:Ps) (t:Str) (n:Int):Ps:=if (d.any fun p=>decide (p.1=t))=true then d.map (fun p=>if p.1=t then (p.1,n) else p) else d++[(t,n)]
def keys (d:Ps):List Str:=d.map (·.1)
theorem mF (p:Str×Int) (r:Ps) (t:Str):get (p::r) t=if p.1=t then p.2 else get r t:=by
 unfold get
 by_cases e:p.1=t
 ·simp [List.find?_cons,e]
 ·simp [List.find?_cons,e]
theorem wD (d:Ps) (t:Str):(d.any fun p=>decide (p.1=t))=true↔t∈keys d:=by
 unfold keys
 rw [List.any_eq_true,List.mem_map]
 constructor
 ·rintro ⟨p,h,e⟩;exact ⟨p,h,of_decide_eq_true e⟩
 ·rintro ⟨p,h,e⟩;exact ⟨p,h,decide_eq_true e⟩
theorem Fi:∀ {d:Ps} {t:Str},t ∉ keys d→get d t=0
 | [],_,_=>rfl
 | p::r,t,h=>by
  have h':p.1≠t∧t ∉ keys r:=by
   constructor
   ·intro e;exact h (by unfold keys;rw [List.map_cons,e];exact List.mem_cons_self ..)
   ·intro e;exact h (List.mem_cons_of_mem _ e)
  rw [mF,if_neg h'.1,Fi h'.2]
theorem Bp (d:Ps) (t:Str) (n:Int):keys (put d t n)=if t∈keys d then keys d else keys d++[t]:=by
 unfold put
 by_cases h:t∈keys d
 ·rw [if_pos ((wD d t).mpr h),if_pos h]
  unfold keys
  rw [List.map_map]
  refine List.map_congr_left fun p _=>?_
  show (if p.1=t then (p.1,n) else p).1=p.1
  split <;> rfl
 ·rw [if_neg (fun e=>h ((wD d t).mp e)),if_neg h]
  unfold keys
  rw [List.map_append];rfl
theorem yT {d:Ps} {t:Str} {n:Int} (h:(keys d).Nodup):(keys (put d t n)).Nodup:=by
 rw [Bp]
 by_cases e:t∈keys d
 ·rw [if_pos e];exact h
 ·rw [if_neg e,List.nodup_append]
  refine ⟨h,by simp,fun x hx y hy=>?_⟩
  rw [List.mem_singleton] at hy
  rw [hy];rintro rfl;exact e hx
theorem Gv (d:Ps) (t:Str) (n:Int):(put d t n).length≤d.length+1:=by
 have h:(keys (put d t n)).length≤(keys d).length+1:=by
  rw [Bp];split
  ·omega
  ·simp
 simpa [keys] using h
theorem Bl (t:Str) (n:Int) (f:Str→Int):∀ {d:Ps},(keys d).Nodup→t∈keys d→nI (d.map fun p=>if p.1=t then (p.1,n) else p) f=nI d f+(n - get d t)*f t
 | [],_,h=>by simp [keys] at h
 | p::r,nd,h=>by
  have NP:p.1 ∉ keys r∧(keys r).Nodup:=List.nodup_cons.mp nd
  rw [List.map_cons,nI,nI,mF]
  by_cases e:p.1=t
  ·have hr:r.map (fun p=>if p.1=t then (p.1,n) else p)=r:=by
    refine (List.map_congr_left fun q hq=>?_).trans (List.map_id r)
    rw [if_neg];rfl
    intro z
    exact NP.1 (by rw [e,← z];exact List.mem_map.mpr ⟨q,hq,rfl⟩)
   rw [hr,if_pos e,if_pos e,Int.sub_mul]
   show n*f p.1+_=_
   rw [e];omega
  ·have ht:t∈keys r:=(List.mem_cons.mp h).resolve_left fun z=>e z.symm
   rw [if_neg e,if_neg e,Bl t n f NP.2 ht];omega
theorem OD {d:Ps} (t:Str) (n:Int) (f:Str→Int) (nd:(keys d).Nodup):nI (put d t n) f=nI d f+(n - get d t)*f t:=by
 unfold put
 by_cases h:t∈keys d
 ·rw [if_pos ((wD d t).mpr h),Bl t n f nd h]
 ·rw [if_neg (fun e=>h ((wD d t).mp e)),rX,Fi h];simp [nI]
def step (d:Ps) (p:Str×Int):Ps:=put d p.1 (get d p.1+p.2)
structure Tab (pre d:Ps):Prop where
 nd:(keys d).Nodup
 len:d.length≤pre.length
 nI:∀ f,nI d f=nI pre f
theorem Tab.nil:Tab [] []:=⟨.nil,Nat.le_refl _,fun _=>rfl⟩
theorem Tab.step {pre d:Ps} (h:Tab pre d) (p:Str×Int):Tab (pre++[p]) (step d p):=by
 refine ⟨yT h.nd,?_,fun f=>?_⟩
 ·have:=Gv d p.1 (get d p.1+p.2);have:=h.len;simp;unfold Hw.step;omega
 ·unfold Hw.step
  rw [OD _ _ _ h.nd,rX,h.nI]
  simp only [Hw.nI]
  have:get d p.1+p.2 - get d p.1=p.2:=by omega
  rw [this];omega
theorem Bm:∀ {d:Ps} (f:Str→Int),(keys d).Nodup→nI ((keys d).map fun t=>(t,get d t)) f=nI d f
 | [],_,_=>rfl
 | p::r,f,nd=>by
  have NP:p.1 ∉ keys r∧(keys r).Nodup:=List.nodup_cons.mp nd
  show nI ((p.1,get (p::r) p.1)::(keys r).map fun t=>(t,get (p::r) t)) f=_
  have e:((keys r).map fun t=>(t,get (p::r) t))=(keys r).map fun t=>(t,get r t):=by
   refine List.map_congr_left fun t ht=>?_
   rw [mF,if_neg (fun z=>NP.1 (by rw [z];exact ht))]
  rw [e,nI,Bm f NP.2,mF,if_pos rfl,nI]
def outs (d:Ps) (ys:List Str):Ps:=(ys.map fun t=>(t,get d t)).filter fun p=>decide (p.2≠0)
theorem Tab.gat {pre d:Ps} {ys:List Str} (h:Tab pre d) (hp:ys.Perm (keys d)) (hs:ys.Pairwise fun a b=>lt b a=false):Gat pre (outs d ys):=by
 have nd:ys.Nodup:=hp.nodup_iff.mpr h.nd
 have up:ys.Pairwise fun a b=>lt a b=true:=by
  have:=hs.and nd
  refine this.imp fun {a b} q=>?_
  rcases xH a b with e | e | e
  ·exact e
  ·exact absurd e q.2
  ·rw [q.1] at e;cases e
 refine ⟨⟨?_,fun p hp=>?_⟩,fun f=>?_⟩
 ·unfold outs
  refine List.Pairwise.filter _ ?_
  rw [List.pairwise_map];exact up
 ·exact of_decide_eq_true (List.mem_filter.mp hp).2
 ·unfold outs
  rw [rW,LP (hp.map _),Bm f h.nd,h.nI]
end Hw
set_option maxHeartbeats 4000000
namespace L2
open PySem PySem.Spec PyProof.Rows
abbrev nH:Value→Shared→Prop:=fun _ _=>False
abbrev zb (X:Cx) (sc:Scope) (N:List Str) (cl:List (Str×Addr)) (C:Addr) (s:Shared) (H:Hp) (fp:List Addr):Cx :=
 { X with N:=N,s₀:=s,H₀:=H,env:=compEnvC sc cl C X.env,outer:=X.stack,ex:=fp,fn:=fun _=>false,pn:=[],xe:=nH }
def Ext (σ σ':St):Prop:=σ'.length=σ.length∧∀ (i:Nat) v,σ[i]?=some (some v)→σ'[i]?=some (some v)
theorem Ext.one {x:V} {r:St}:Ext (none::r) (some x::r):=⟨rfl,fun i v h=>by cases i with | zero=>cases h | succ i=>exact h⟩
theorem Ext.two {x y:V} {r:St}:Ext (none::none::r) (some x::some y::r):=⟨rfl,fun i v h=>by
 cases i with
 | zero=>cases h
 | succ i=>cases i with | zero=>cases h | succ i=>exact h⟩
def FN (cs:List Expr) (env:Env):Sem Bool:=forIn cs true fun c r=>if r=true then do let ok ← isTrue c env (eval c env);pure (ForInStep.yield ok) else pure (ForInStep.yield r)
def Xq (X:Cx) (cs:List Expr) (t:TT):Prop :=
 ∀ (pins:List (Addr×Obj)) (s:Shared) (σ:St) (H:Hp) (Q:Bool→Hp→Prop),Inv X pins σ H s→t σ H Q→wpAny (model X.prog X.w) X.A (FN cs X.env) (TP X pins σ Q) X.xe s
def FP:TT:=fun _ H Q=>Q true H
theorem cI {X:Cx}:Xq X [] FP:=fun pins s σ H Q I h=>wpAny_tests_nil ⟨H,I,h⟩
theorem sZ {X:Cx} {c:Expr} {t:TT} (hc:PT X c t):Xq X [c] t:=fun pins s σ H Q I h=>wpAny_tests_one (hc pins s σ H Q I h)
section
variable {prog:Program} {w:World} {A:Around} {R:Result→Shared→Prop} {s:Shared}
theorem Il {elt target iter:Expr} {cs:List Expr} {scope:Scope} {pos:Pos} {it acc:Value} {env:Env} (J:Nat→Shared→Prop)
  (turn:∀ n s,J n s→wpAny (model prog w) A (pyNext it) (fun r s1=>match r with
   | none=>R (.ok .next) s1
   | some v=>wpAny (model prog w) A (letOwnedTupleGo target it v) (fun _ s2=>wpAny (model prog w) A (assign target env v) (fun _ s3 =>
     wpAny (model prog w) A (FN cs env) (fun ok s4=>if ok=true then wpAny (model prog w) A (eval elt env) (fun x s5 =>
       wpAny (model prog w) A (call (.builtin "list.append") [acc,x]) (fun _ s6=>∃ m,m < n∧J m s6) nH s5) nH s4
      else ∃ m,m < n∧J m s4) nH s3) nH s2) nH s1) nH s) (n:Nat) (h:J n s) :
  codeAny (model prog w) A (.compLoop (.ListComp elt [⟨target,iter,cs,0⟩] scope pos) 0 it acc env) R s:=by
 refine codeAny_loop rfl J (fun k s' hk=>?_) n h
 show wpAny (model prog w) A ((compTurn (.ListComp elt [⟨target,iter,cs,0⟩] scope pos) 0 it acc env).onRaise (fun x=>do noteFrame x env;theTreesLotGoes x)) _ _ s'
 refine wpAny_noted ?_
 have no:∀ (e:Value) (s2:Shared),nH e s2→notedBy (model prog w) A env (fun e s'=>R (.error e) s') e s2:=fun _ _ f=>f.elim
 rw [compTurn_list]
 refine wpAny_bind (wpAny_standAt (wpAny_bind (wpAny_mono (turn k s' hk) (fun r s1 g1=>?_) no)))
 cases r with
 | none=>exact wpAny_pure g1
 | some v =>
  refine wpAny_bind (wpAny_mono g1 (fun _ s2 g2=>?_) no)
  refine wpAny_bind (wpAny_mono g2 (fun _ s3 g3=>?_) no)
  refine wpAny_bind (wpAny_mono g3 (fun ok s4 g4=>?_) no)
  cases ok with
  | false=>exact wpAny_pure ⟨rfl,g4⟩
  | true=>exact wpAny_bind (wpAny_bind (wpAny_mono g4 (fun x s5 g5=>wpAny_bind (wpAny_mono g5 (fun _ s6 g6=>wpAny_pure (wpAny_pure ⟨rfl,g6⟩)) no)) no))
end
def vO (J:It) (g:TG) (tt:TT) (te:TE) (σ0:St) (W:Nat→Nat→List V→Hp→Prop) (R:List V→Hp→Prop):Prop :=
 ∀ i m ys H,W i m ys H→(J.stop i H∧R ys H)∨(J.go i H∧∃ F:List V→Hp→Prop,(∀ ys' H',F ys' H'→∃ m',m' < m∧W (i+1) m' ys' H')∧∀ x H',J.QI i H x H'→g x σ0 H' fun σ2 H2=>Ext σ0 σ2∧tt σ2 H2 fun b H3 =>
  if b=true then te σ2 H3 fun v H4=>ys.length < sizeLine∧F (ys++[v]) H4 else F ys H3)
structure xX (X:Cx) (sc:Scope) (cl:List (Str×Addr)) (own:Nat) (N:List Str) (fr:List Nat):Prop where
 kind:sc.kind=.function
 names:∀ x∈sc.names,x.2=.local→sc.names.lookup x.1=some .local
 zM:∀ x∈sc.names,x.2≠.cell
 clos:closureFor sc X.env=pure cl
 cells:∀ x c,cl.lookup x=some c→X.env.cells.lookup x=some c
 has:∀ x,((relabel sc X.env).names.lookup x=some .cell∨(relabel sc X.env).names.lookup x=some .free)→∃ c,cl.lookup x=some c
 len:N.length=own+fr.length
 Y7:∀ (i:Nat) j,fr[i]?=some j→∃ x,N[own+i]?=some x∧X.N[j]?=some x∧(X.env.kindOf x=some .cell∨X.env.kindOf x=some .free)∧((relabel sc X.env).names.lookup x=some .cell∨(relabel sc X.env).names.lookup x=some .free)
def PF (env:Env):List (Str×Addr)→Prop
 | []=>True
 | p::r=>env.cells.lookup p.1=some p.2∧PF env r
theorem PF.mem {env:Env}:∀ {cl:List (Str×Addr)},PF env cl→∀ p∈cl,env.cells.lookup p.1=some p.2
 | [],_,_,h=>nomatch h
 | _::_,h,p,hp=>by
  rcases List.mem_cons.mp hp with rfl | hp
  ·exact h.1
  ·exact h.2.mem p hp
def Ae (k:Option NameKind):Bool:=match k with
 | some .cell=>true
 | some .free=>true
 | _=>false
theorem Gz {k:Option NameKind} (h:Ae k=true):k=some .cell∨k=some .free:=by
 cases k with
 | none=>cases h
 | some k=>cases k <;> first | exact .inl rfl | exact .inr rfl | cases h
def GJ (X:Cx) (sc:Scope):List Str→List Nat→Bool
 | [],[]=>true
 | x::ns,j::fr=>decide (X.N[j]?=some x) && Ae (X.env.kindOf x) && Ae ((relabel sc X.env).names.lookup x) && GJ X sc ns fr
 | _,_=>false
theorem Bv {X:Cx} {sc:Scope}:∀ {ns:List Str} {fr:List Nat},GJ X sc ns fr=true→ns.length=fr.length∧∀ (i:Nat) j,fr[i]?=some j→∃ x,ns[i]?=some x∧X.N[j]?=some x∧Ae (X.env.kindOf x)=true∧Ae ((relabel sc X.env).names.lookup x)=true
 | [],[],_=>⟨rfl,fun i j h=>by simp at h⟩
 | [],_::_,h=>by cases h
 | _::_,[],h=>by cases h
 | x::ns,j::fr,h=>by
  have h:(decide (X.N[j]?=some x) && Ae (X.env.kindOf x) && Ae ((relabel sc X.env).names.lookup x) && GJ X sc ns fr)=true:=h
  rw [Bool.and_eq_true,Bool.and_eq_true,Bool.and_eq_true] at h
  obtain ⟨⟨⟨h1,h2⟩,h3⟩,h4⟩:=h
  obtain ⟨l,g⟩:=Bv h4
  refine ⟨by simp [l],fun i k e=>?_⟩
  cases i with
  | zero=>cases e;exact ⟨x,rfl,of_decide_eq_true h1,h2,h3⟩
  | succ i=>exact g i k e
theorem bu {X:Cx} {sc:Scope} {cl:List (Str×Addr)} (UL frN:List Str) (fr:List Nat) (kind:sc.kind=.function) (names:(sc.names.all fun x=>x.2 != .local || sc.names.lookup x.1 == some .local)=true)
  (zM:(sc.names.all fun x=>x.2 != .cell)=true) (clos:closureFor sc X.env=pure cl) (cells:PF X.env cl) (has:((relabel sc X.env).names.all fun y=>!Ae (some y.2) || (cl.lookup y.1).isSome)=true)
  (len:frN.length=fr.length) (Y7:GJ X sc frN fr=true):xX X sc cl UL.length (UL++frN) fr where
 kind:=kind
 names:=fun x hx hl=>by
  have:=List.all_eq_true.mp names x hx
  rw [hl] at this
  simpa using this
 zM:=fun x hx=>by simpa using List.all_eq_true.mp zM x hx
 clos:=clos
 cells:=fun x c h=>cells.mem (x,c) (PySem.mem_of_lookup h)
 has:=fun x h=>by
  obtain ⟨k,hk,e⟩:∃ k,(relabel sc X.env).names.lookup x=some k∧Ae (some k)=true:=by
   rcases h with h | h
   ·exact ⟨_,h,rfl⟩
   ·exact ⟨_,h,rfl⟩
  have:=List.all_eq_true.mp has (x,k) (PySem.mem_of_lookup hk)
  rw [e] at this
  exact Option.isSome_iff_exists.mp (by simpa using this)
 len:=by rw [List.length_append,len]
 Y7:=fun i j e=>by
  obtain ⟨_,g⟩:=Bv Y7
  obtain ⟨x,e1,e2,e3,e4⟩:=g i j e
  refine ⟨x,?_,e2,Gz e3,Gz e4⟩
  rw [List.getElem?_append_right (Nat.le_add_right _ _),Nat.add_sub_cancel_left]
  exact e1
def NO (own:Nat) (fr:List Nat) (σ:St):St:=List.replicate own none++fr.map fun j=>(σ[j]?).join
section
variable {X:Cx} {sc:Scope} {cl:List (Str×Addr)} {own:Nat} {N:List Str} {fr:List Nat}
theorem QZ {σ:St} {i:Nat} {v:V} (h:(NO own fr σ)[i]?=some (some v)):∃ k j,i=own+k∧fr[k]?=some j∧σ[j]?=some (some v):=by
 unfold NO at h
 by_cases hi:i < own
 ·rw [List.getElem?_append_left (by simpa using hi),List.getElem?_replicate,if_pos hi] at h
  cases h
 ·rw [List.getElem?_append_right (by simpa using hi),List.length_replicate,List.getElem?_map] at h
  cases e:fr[i - own]? with
  | none=>rw [e] at h;cases h
  | some j =>
   rw [e] at h
   have h:(σ[j]?).join=some v:=Option.some.inj h
   refine ⟨i - own,j,by omega,e,?_⟩
   cases q:σ[j]? with
   | none=>rw [q] at h;cases h
   | some o=>rw [q] at h;exact congrArg some h
theorem Im {pins:List (Addr×Obj)} {σ:St} {H:Hp} {s:Shared} {fp:List Addr} {h1:Heap} {m1:Str→Option Value} {t:Nat} {C D:Addr} {od:Obj} (S:xX X sc cl own N fr) (I:Inv X pins σ H s) (hfp:∀ b∈fp,v9 X pins H b)
  (hob:∀ b∈fp,∃ o,s.heap.get? b=some o) (kp:∀ b o,s.heap.get? b=some o→h1.get? b=some o) (hC:s.heap.objs.size≤C) (hns:h1.Ns C m1) (hD:s.heap.objs.size≤D) (hDC:D≠C) (ho:h1.get? D=some od) (hod:∀ v,od.data≠.cell v) :
  Inv (zb X sc N cl C s H fp) [(D,od)] (NO own fr σ) H { s with heap:=h1,toks:=t }:=by
 have N9:∀ b∈fp,b < s.heap.objs.size:=fun b hb=>let ⟨o,e⟩:=hob b hb;Heap.lt_size e
 refine ⟨⟨I.ok.mod,S.kind,I.ok.glob,I.ok.blt,hC,fun x y c a b=>I.ok.inj x y c (S.cells x c a) (S.cells y c b),S.has,(fun x c z=>nomatch z),I.ok.hd,I.ok.frames,.inl rfl,fun b hb=>?_,I.bs,Nat.le_trans I.ok.O5 I.sz,fun b o e hb=>?_,fun b hb hf=>?_,I.stack,I.FW⟩,
  rfl,I.bare,Un.kept kp,⟨m1,hns,fun i x v e1 e2 e3=>?_⟩,fun x c e=>?_,I.hok.fresh hC,fun x c e=>I.qc x c (S.cells x c e),fun p hp=>?_,I.hok.kept kp,?_⟩
 ·exact ⟨Nat.ne_of_lt (Nat.lt_of_lt_of_le (N9 b hb) hC),fun x c e=>(hfp b hb).2.2.2.2.1 x c (S.cells x c e)⟩
 ·rcases (hfp b hb).2.2.2.1 with z | z
  ·exact I.ok.Lo b o e z
  ·exact absurd (Nat.lt_of_lt_of_le (Heap.lt_size e) (Nat.le_trans I.ok.O5 z)) (Nat.lt_irrefl _)
 ·rcases List.mem_cons.mp (I.zm b hf) with z | z
  ·exact (hfp b hb).2.1 z
  ·exact (hfp b hb).2.2.1 z
 ·obtain ⟨k,j,rfl,ej,eσ⟩:=QZ e2
  obtain ⟨y,n1,n2,k1,k2⟩:=S.Y7 k j ej
  have e1:N[own+k]?=some x:=e1
  rw [n1] at e1
  cases e1
  obtain ⟨m,hn,hl⟩:=I.loc
  obtain ⟨u,ru,l⟩:=hl j x v n2 eσ (by rcases k1 with z | z;exact .inr (.inl z);exact .inr (.inr z))
  refine ⟨u,ru,.inr ⟨k2,?_⟩⟩
  obtain ⟨c,hc⟩:=S.has x k2
  refine ⟨c,hc,?_⟩
  rcases l with ⟨q,_⟩ | ⟨_,c',e',z⟩
  ·rcases k1 with k1 | k1 <;> (rw [k1] at q;cases q)
  ·have:=S.cells x c hc
   rw [e'] at this;cases this
   obtain ⟨o,Cj,h2'⟩:=z
   exact ⟨o,kp _ _ Cj,h2'⟩
 ·obtain ⟨v,o,Cj,h2'⟩:=I.cell x c (S.cells x c e)
  exact ⟨v,o,kp _ _ Cj,h2'⟩
 ·have hp:p=(D,od):=by simpa using hp
  subst hp
  refine ⟨ho,I.hok.fresh hD,hDC,fun hf=>?_,hod⟩
  have:D∈X.env.locals::X.fs:=I.zm D hf
  rcases List.mem_cons.mp this with z | z
  ·exact absurd (Nat.lt_of_lt_of_le I.lt hD) (by rw [z];exact Nat.lt_irrefl _)
  ·exact I.UT hD z
 ·unfold NO
  rw [List.length_append,List.length_replicate,List.length_map]
  exact S.len.symm
theorem Io {pins pl:List (Addr×Obj)} {σ τ:St} {H H':Hp} {s s':Shared} {fp:List Addr} {C D:Addr} {ys:List V} {its:List Value} {n:Nat} (I:Inv X pins σ H s) (hfp:∀ b∈fp,v9 X pins H b) (hC:s.heap.objs.size≤C) (hD:s.heap.objs.size≤D)
  (B:Inv (zb X sc N cl C s H fp) pl τ H' s') (hn:H' D=none) (ho:s'.heap.get? D=some { cls:=.type "list",data:=.seq its.toArray n }) (r:Vals ys its) (hz:ys.length≤sizeLine) :
  Inv X pins σ (upd H' D (.lst ys)) s':=by
 have ne:∀ b o,s.heap.get? b=some o→b≠D:=fun b o e=>Nat.ne_of_lt (Nat.lt_of_lt_of_le (Heap.lt_size e) hD)
 have nt:∀ b u,H' b=some u→b≠D:=fun b u e=>aB e hn
 refine I.Xh (ch:=fp) B.os ⟨B.base.keep,B.base.slot,fun b o e q hx=>?_,B.base.there,fun b xs e=>?_,fun b o u e=>?_,fun b ps e=>?_⟩ (fun b u e=>?_) B.bare fun b hb=>?_
 ·rw [aX (ne b o e)];exact B.base.free b o e q hx
 ·have:=B.base.tups b xs e;rw [aX (nt _ _ this)];exact this
 ·have:=B.base.yo b o u e;rw [aX (nt _ _ this)];exact this
 ·obtain ⟨mo,this⟩:=B.base.zl b ps e;exact ⟨mo,by rw [aX (nt _ _ this)];exact this⟩
 ·by_cases hb:b=D
  ·subst hb
   rw [af] at e
   cases e
   exact ⟨hz,its,n,r,ho⟩
  ·rw [aX hb] at e
   exact (B.hok b u e).stay (fun _ _ _ q=>q) (fun c q=>by rw [aX (nt _ _ q)];exact q) fun c xs q=>by rw [aX (nt _ _ q)];exact q
 ·obtain ⟨_,f1,_,f3,f4,f5⟩:=hfp b hb
  exact ⟨f3,f1,f4,f5⟩
end
end L2
namespace L2
open PySem PySem.Spec PyProof.Rows
section
variable {X:Cx} {sc:Scope} {cl:List (Str×Addr)} {own:Nat} {N:List Str} {fr:List Nat}
theorem Inv.Kg {pins xw:List (Addr×Obj)} {σ:St} {H:Hp} {s:Shared} (I:Inv X pins σ H s) (h:∀ p∈xw,p∈pins):Inv X xw σ H s:=I.wu fun p hp=>I.pin p (List.mem_append_right _ (h p hp))
theorem zc {elt tg iter:Expr} {cs:List Expr} {pos:Pos} {g:TG} {tt:TT} {te:TE} {pins:List (Addr×Obj)} {σ:St} {H:Hp} {s:Shared} {it:Addr} {fp:List Addr} {tn:Nat→Heap→Prop} {J:It} {RR:Value→Addr→Result→Shared→Prop}
  (S:xX X sc cl own N fr) (hc:X.calm=true) (I:Inv X pins σ H s) (T:Turn X.prog X.w X.K tg J fp it tn) (st:tn 0 s.heap) (hfp:∀ b∈fp,v9 X pins H b)
  (hg:∀ C s H,PG (zb X sc N cl C s H fp) tg g) (ht:∀ C s H,Xq (zb X sc N cl C s H fp) cs tt) (he:∀ C s H,PE (zb X sc N cl C s H fp) elt te)
  {W:Nat→Nat→List V→Hp→Prop} {R:List V→Hp→Prop} (w0:∃ m,W 0 m [] H) (walk:vO J g tt te (NO own fr σ) W R)
  (fin:∀ D C H' ys s' m,s'.heap.Ns C m→H' D=none→v9 X pins (upd H' D (.lst ys)) C→Inv X pins σ (upd H' D (.lst ys)) s'→R ys H'→RR (.ref D) C (.ok .next) s') :
  wpAny (model X.prog X.w) X.A (newList []) (fun acc s3=>wpAny (model X.prog X.w) X.A (newFunctionEnv sc X.env.globals cl [] X.env.qual none .none (some X.env)) (fun cenv s4 =>
   codeAny (model X.prog X.w) X.A (.compStart (.ListComp elt [⟨tg,iter,cs,0⟩] sc pos) 0 (.ref it) acc { cenv with scope:=relabel sc X.env }) (RR acc cenv.locals) s4) X.xe s3) X.xe s:=by
 refine wpAny_newObj_type (wpAny_newFunctionEnv S.zM (by intro y hy;simp at hy) (fun h1 hns YY=>?_) S.kind)
 dsimp only at hns YY ⊢
 generalize hH:s.heap.push { cls:=.type "list",dict:=none,data:=.seq ([]:List Value).toArray }=hp at hns YY ⊢
 have sC:hp.objs.size=s.heap.objs.size+1:=by rw [← hH,Heap.size_push]
 have hDC:s.heap.objs.size≠hp.objs.size:=by omega
 have kp:∀ b o,s.heap.get? b=some o→h1.get? b=some o:=fun b o e=>by
  have l:=Heap.lt_size e
  exact YY.extBut b o (Nat.ne_of_lt (by rw [sC];exact Nat.lt_succ_of_lt l)) (Heap.get?_push_of_some _ (hH ▸ Heap.get?_push_of_some _ e))
 have hD1:h1.get? s.heap.objs.size=some { cls:=.type "list",data:=.seq ([]:List Value).toArray }:=YY.extBut _ _ hDC (Heap.get?_push_of_some _ (hH ▸ Heap.get?_push_size _ rfl))
 have N9:∀ b∈fp,b < s.heap.objs.size:=fun b hb=>let ⟨o,e,_⟩:=T.obj 0 _ st b hb;Heap.lt_size e
 generalize hCC:hp.objs.size=C at *
 generalize hDD:s.heap.objs.size=D at *
 have I1:∀ t,Inv (zb X sc N cl C s H fp) [(D,{ cls:=.type "list",data:=.seq ([]:List Value).toArray })] (NO own fr σ) H { s with heap:=h1,toks:=t }:=fun t =>
  Im S I hfp (fun b hb=>let ⟨o,e,_⟩:=T.obj 0 _ st b hb;⟨o,e⟩) kp (by omega) hns (by omega) hDC hD1 (by intro v z;cases z)
 have st1:tn 0 h1:=T.keep 0 _ _ st fun b hb o e=>kp b o e
 have fpo:∀ {H':Hp} {s':Shared} {τ:St} {pl:List (Addr×Obj)} {od:Obj},Inv (zb X sc N cl C s H fp) pl τ H' s'→(∀ p∈pl,p.1=D)→(∀ b∈fp,H' b=none)→∀ b∈fp,v9 (zb X sc N cl C s H fp) pl H' b:=fun {H' s' τ pl od} B hpl hn b hb=>by
  have q:=N9 b hb
  refine ⟨hn b hb,(B.ok.ZJ b hb).1,B.ok.MV b hb,.inl hb,(B.ok.ZJ b hb).2,fun p hp=>?_⟩
  have hp:p∈pl:=by simpa using hp
  rw [hpl p hp];exact (Nat.ne_of_lt q).symm
 have loop:∀ t,codeAny (model X.prog X.w) X.A (.compLoop (.ListComp elt [⟨tg,iter,cs,0⟩] sc pos) 0 (.ref it) (.ref D) (compEnvC sc cl C X.env)) (RR (.ref D) C) { s with heap:=h1,toks:=t }:=by
  intro t
  obtain ⟨m0,w0⟩:=w0
  refine Il (fun n s'=>∃ i ys its k H',Inv (zb X sc N cl C s H fp) [(D,{ cls:=.type "list",data:=.seq (List.toArray its) k })] (NO own fr σ) H' s'∧tn i s'.heap∧(∀ b∈fp,H' b=none)∧Vals ys its∧ys.length≤sizeLine∧W i n ys H') ?_ m0
   ⟨0,[],[],_,H,I1 t,st1,fun b hb=>(hfp b hb).1,.nil,Nat.zero_le _,w0⟩
  rintro n s2 ⟨i,ys,its,k,H2,B2,st2,fr2,rv,hz,w2⟩
  have pD:=B2.pin (D,{ cls:=.type "list",data:=.seq (List.toArray its) k }) (List.mem_append_right _ (List.mem_singleton.mpr rfl))
  rcases walk i n ys H2 w2 with ⟨stop,rr⟩ | ⟨go,nx,hnx,tk⟩
  ·refine wpAny_mono (T.done (zb X sc N cl C s H fp) rfl rfl rfl hc i _ s2 _ H2 nH B2 (fpo (od:=default) B2 (by simp) fr2) st2 stop) (fun r s3 ⟨hr,B3⟩=>?_) fun _ _ z=>z
   subst hr
   obtain ⟨m3,n3,_⟩:=B3.loc
   have pD3:=B3.pin (D,{ cls:=.type "list",data:=.seq (List.toArray its) k }) (List.mem_append_right _ (List.mem_singleton.mpr rfl))
   refine fin D C H2 ys s3 m3 n3 pD3.2.1 ?_ (Io I hfp (by omega) (by omega) B3 pD3.2.1 pD3.1 rv hz) rr
   exact I.MT (by omega) (by rw [aX (Ne.symm hDC)];exact B3.free)
  ·refine wpAny_mono (T.item (zb X sc N cl C s H fp) rfl rfl rfl hc i _ s2 _ H2 nH B2 (fpo (od:=default) B2 (by simp) fr2) st2 go) (fun r s3 ⟨u,hr,g3⟩=>?_) fun _ _ z=>z
   subst hr
   refine wpAny_mono g3 (fun _ s4 ⟨x,H4,B4,rx,y4,st4,fr4⟩=>?_) fun _ _ z=>z
   have B5:=B4.pinned (fpo (od:=default) B4 (by simp) fr4) (T.obj _ _ st4)
   refine wpAny_mono (hg C s H _ s4 _ H4 x u _ B5 rx (tk x H4 y4)) (fun _ s5 ⟨σ5,H5,B6,ex,q5⟩=>?_) fun _ _ z=>z
   refine wpAny_mono (ht C s H _ s5 σ5 H5 _ B6 q5) (fun b s6 ⟨H6,B7,q6⟩=>?_) fun _ _ z=>z
   have back:∀ {H':Hp} {s':Shared},Inv (zb X sc N cl C s H fp) ([(D,{ cls:=.type "list",data:=.seq (List.toArray its) k })]++xu fp s4.heap) σ5 H' s'→tn (i+1) s'.heap∧∀ b∈fp,H' b=none:=fun {H' s'} B=>by
    refine ⟨T.keep _ _ _ st4 fun b hb o e=>(B.pin (b,o) (List.mem_append_right _ (List.mem_append_right _ (oK hb e)))).1,fun b hb=>?_⟩
    obtain ⟨o,e,_⟩:=T.obj _ _ st4 b hb
    exact (B.pin (b,o) (List.mem_append_right _ (List.mem_append_right _ (oK hb e)))).2.1
   cases b with
   | false =>
    obtain ⟨m',hm,w'⟩:=hnx _ _ q6
    obtain ⟨t7,f7⟩:=back B7
    exact ⟨m',hm,i+1,ys,its,k,H6,(B7.sL).weak ex.1.symm ex.2,t7,f7,rv,hz,w'⟩
   | true =>
    refine wpAny_mono (he C s H _ s6 σ5 H6 _ B7 q6) (fun x7 s7 ⟨v7,H7,B8,r7,hz7,q7⟩=>?_) fun _ _ z=>z
    obtain ⟨m',hm,w'⟩:=hnx _ _ q7
    obtain ⟨t8,f8⟩:=back B8
    have Ri:=B8.pin (D,{ cls:=.type "list",data:=.seq (List.toArray its) k }) (List.mem_append_right _ (List.mem_append_left _ (List.mem_singleton.mpr rfl)))
    have lz:its.length=ys.length:=rv.length.symm
    refine call_meets F.slot_list_append ⟨_,Ri.1,rfl⟩ F.entry_list_append (F.args_list_append_2 _ _) (PySem.list_append D its.toArray k x7 (by rw [List.size_toArray];omega)) ⟨Ri.1,?_⟩
    have q:=PySem.IsL.update Ri.1 (·.push x7)
    have eo:its.toArray.push x7=(its++[x7]).toArray:=by simp
    have B9:Inv (zb X sc N cl C s H fp) [] (NO own fr σ) H7 { s7 with heap:=s7.heap.update D (Obj.mapSeq (·.push x7)) } :=
     Inv.turned (t':=s7.toks) (((B8.Kg (xw:=[]) (by intro p hp;simp at hp)).weak ex.1.symm ex.2)) (fun b o hb e=>(Heap.get?_update_other _ _ (Ne.symm hb)).trans e) Ri.2.1 hDC (.inr (by show s.heap.objs.size≤D;omega)) (fun y c e z=>by
      have:=B8.cell y c e
      obtain ⟨v,o,Cj,h2'⟩:=this
      have Cj:s7.heap.get? c=some o:=Cj
      rw [z,Ri.1] at Cj
      cases Cj
      cases h2') (by intro p hp;simp at hp)
    have B10:∀ o',(s7.heap.update D (Obj.mapSeq (·.push x7))).get? D=some o'→(∀ v,o'.data≠.cell v)→Inv (zb X sc N cl C s H fp) [(D,o')] (NO own fr σ) H7 { s7 with heap:=s7.heap.update D (Obj.mapSeq (·.push x7)) }:=fun o' e1 e2 =>
     Inv.wu B9 fun p hp=>by
      have hp:p=(D,o'):=by simpa using hp
      subst hp
      exact ⟨e1,Ri.2.1,hDC,Ri.2.2.2.1,e2⟩
    rw [eo] at q
    refine ⟨m',hm,i+1,ys++[v7],its++[x7],_,H7,B10 _ q (by intro v z;cases z),T.keep _ _ _ t8 fun b hb o e=>(Heap.get?_update_other _ _ (Nat.ne_of_gt (N9 b hb))).trans e,f8,rv.append (.cons r7 .nil),by rw [List.length_append,List.length_singleton];omega,w'⟩
 exact codeAny_compStart_list (loop _) (T.self _ 0 _ _ _ st1 (loop _))
def PY (own:Nat) (fr:List Nat) (wi:TI) (g:TG) (tt:TT) (te:TE):TE:=fun σ H Q=>wi σ H fun J H1=>∃ W:Nat→Nat→List V→Hp→Prop,(∃ m,W 0 m [] H1) ∧
 vO J g tt te (NO own fr σ) W fun ys H2=>∀ p,H2 p=none→Q (.ref p) (upd H2 p (.lst ys))
theorem cS {elt tg iter:Expr} {cs:List Expr} {pos:Pos} {wi:TI} {g:TG} {tt:TT} {te:TE} (S:xX X sc cl own N fr) (hc:X.calm=true) (hi:PI X tg iter wi) (hg:∀ C s H fp,PG (zb X sc N cl C s H fp) tg g)
  (ht:∀ C s H fp,Xq (zb X sc N cl C s H fp) cs tt) (he:∀ C s H fp,PE (zb X sc N cl C s H fp) elt te) (hs:∀ x,foldedSetIterable iter X.env x=pure x:=by intro _;rfl) :
  PE X (.ListComp elt [⟨tg,iter,cs,0⟩] sc pos) (PY own fr wi g tt te):=by
 intro pins s σ H Q I h
 rw [eval_ListComp]
 refine wpAny_comprehension_free (use:=none) rfl hs S.clos S.kind S.names (gZ (hi pins s σ H _ I h) fun v s1 h1=>gZ h1 fun itv s2 h2=>?_)
 obtain ⟨it,fp,tn,J,H2,e,I2,T,st2,f2,W,w0,walk⟩:=h2
 subst e
 refine zc (RR:=fun acc C=>compPost (model X.prog X.w) X.A X.xe none (EP X pins σ Q) acc C) S hc I2 T st2 f2 (fun C s H=>hg C s H fp) (fun C s H=>ht C s H fp) (fun C s H=>he C s H fp) w0 walk ?_
 intro D C H' ys s' m hn hD fC I' rr
 obtain ⟨f0,f1,f2',f3,f4,f5⟩:=fC
 exact ⟨m,hn,fun h' hs'=>⟨.ref D,_,Inv.turned (t':=s'.toks) I' (fun b o hb e=>hs'.extBut b o hb e) f0 f1 f3 f4 f5,rfl,rr D hD⟩⟩
theorem nc {elt tg iter:Expr} {cs:List Expr} {pos spos py:Pos} {wi:TI} {g:TG} {tt:TT} {te:TE} {i:Nat} {y:Str} (hN:X.N.Nodup) (hiy:X.N[i]?=some y) (hy:Loc X.env.scope y) (S:xX X sc cl own N fr) (hc:X.calm=true) (hi:PI X tg iter wi)
  (hg:∀ C s H fp,PG (zb X sc N cl C s H fp) tg g) (ht:∀ C s H fp,Xq (zb X sc N cl C s H fp) cs tt) (he:∀ C s H fp,PE (zb X sc N cl C s H fp) elt te)
  (hsw:swapsWith (.ListComp elt [⟨tg,iter,cs,0⟩] sc pos) (some (.Name y py)) spos.line X.env=pure true:=by rfl) (hs:∀ x,foldedSetIterable iter X.env x=pure x:=by intro _;rfl)
  (hf:X.fn y=true∨X.env.scope.names.lookup y=some .local:=by first | exact .inl rfl | exact .inr rfl | assumption) :
  PS X (.Assign [.Name y py] (.ListComp elt [⟨tg,iter,cs,0⟩] sc pos) spos) (QW (PY own fr wi g tt te) (yW i)):=by
 intro pins s σ H D0 I h
 rw [exec_Assign_Name_used _ _ _ _ hsw]
 refine wpAny_bind (wpAny_standAt (wpAny_bind ?_))
 show wpAny _ X.A (do let _ ← comprehension (.ListComp elt [⟨tg,iter,cs,0⟩] sc pos) sc X.env _ (newList []) false (eval iter X.env) (some (assign (.Name y py) X.env))) _ _ s
 refine wpAny_bind (gZ (wpAny_comprehension_free (use:=some (assign (.Name y py) X.env)) (Q:=fun _ s'=>SP X pins D0 .next s') rfl hs S.clos S.kind S.names
  (gZ (hi pins s σ H _ I h) fun v s1 h1=>gZ h1 fun itv s2 h2=>?_)) fun _ s' hq=>wpAny_pure (wpAny_pure hq))
 obtain ⟨it,fp,tn,J,H2,e,I2,T,st2,f2,W,w0,walk⟩:=h2
 subst e
 refine zc (RR:=fun acc C=>compPost (model X.prog X.w) X.A X.xe (some (assign (.Name y py) X.env)) (fun _ s'=>SP X pins D0 .next s') acc C) S hc I2 T st2 f2 (fun C s H=>hg C s H fp) (fun C s H=>ht C s H fp) (fun C s H=>he C s H fp) w0 walk ?_
 intro D C H' ys s' m hn hD fC I' rr
 obtain ⟨f0,f1,f2',f3,f4,f5⟩:=fC
 show wpAny _ X.A (assign (.Name y py) X.env (.ref D)) _ _ _
 refine wpAny_assign_Name (yL I' hN hiy hy (v:=.ref D) rfl (fun s2 I2 ⟨a,sb,ha⟩=>?_) hf)
 have aC:C≠a:=by
  rcases ha with z | z
  ·rw [z];exact f1
  ·exact fun q=>f4 y a z q.symm
 exact ⟨m,hn.sameBut sb aC,fun h' hs'=>⟨_,_,Inv.turned (t':=s2.toks) I2 (fun b o hb e=>hs'.extBut b o hb e) f0 f1 f3 f4 f5,rr D hD⟩⟩
end
theorem gu {K:PySem.W.Frag} {a:Addr} {xs:List V} {g:TG} {tt:TT} {te:TE} {σ0:St} {H:Hp} {R:List V→Hp→Prop} (Pv:Nat→List V→Hp→Prop) (h0:Pv 0 [] H) (hl:∀ i ys H,i≤xs.length→Pv i ys H→ck K H a xs)
  (hs:∀ i x ys H,xs[i]?=some x→Pv i ys H→g x σ0 H fun σ2 H2=>Ext σ0 σ2∧tt σ2 H2 fun b H3=>if b=true then te σ2 H3 fun v H4=>ys.length < sizeLine∧Pv (i+1) (ys++[v]) H4 else Pv (i+1) ys H3)
  (hd:∀ ys H,Pv xs.length ys H→R ys H):∃ W:Nat→Nat→List V→Hp→Prop,(∃ m,W 0 m [] H)∧vO (Pf K a) g tt te σ0 W R:=by
 refine ⟨fun i m ys H=>m=xs.length - i∧i≤xs.length∧Pv i ys H,⟨xs.length,by simp,Nat.zero_le _,h0⟩,?_⟩
 rintro i m ys H ⟨rfl,hi,p⟩
 have q:=hl i ys H hi p
 by_cases hlt:i < xs.length
 ·refine .inr ⟨⟨xs,xs[i],q,by simp [hlt]⟩,Pv (i+1),fun ys' H' p'=>⟨xs.length - (i+1),by omega,rfl,hlt,p'⟩,fun x H' y=>?_⟩
  obtain ⟨e,y⟩:=y
  subst e
  exact hs i x ys _ (y xs q) p
 ·have e:i=xs.length:=by omega
  subst e
  exact .inl ⟨⟨xs,q,Nat.le_refl _⟩,hd ys H p⟩
theorem dj {K:PySem.W.Frag} {a:Addr} {xs:List V} {g:TG} {tt:TT} {te:TE} {σ0:St} {H:Hp} {R:List V→Hp→Prop} (Pv:Nat→List V→Hp→Prop) (h0:Pv 0 [] H) (hl:∀ i ys H,i≤xs.length→Pv i ys H→aV K H a xs)
  (hs:∀ i x ys H,xs[i]?=some x→Pv i ys H→g x σ0 H fun σ2 H2=>Ext σ0 σ2∧tt σ2 H2 fun b H3=>if b=true then te σ2 H3 fun v H4=>ys.length < sizeLine∧Pv (i+1) (ys++[v]) H4 else Pv (i+1) ys H3)
  (hd:∀ ys H,Pv xs.length ys H→R ys H):∃ W:Nat→Nat→List V→Hp→Prop,(∃ m,W 0 m [] H)∧vO (NZ K a) g tt te σ0 W R:=by
 refine ⟨fun i m ys H=>m=xs.length - i∧i≤xs.length∧Pv i ys H,⟨xs.length,by simp,Nat.zero_le _,h0⟩,?_⟩
 rintro i m ys H ⟨rfl,hi,p⟩
 have q:=hl i ys H hi p
 by_cases hlt:i < xs.length
 ·refine .inr ⟨⟨xs,xs[i],q,by simp [hlt]⟩,Pv (i+1),fun ys' H' p'=>⟨xs.length - (i+1),by omega,rfl,hlt,p'⟩,fun x H' y=>?_⟩
  obtain ⟨e,y⟩:=y
  subst e
  exact hs i x ys _ (y xs q) p
 ·have e:i=xs.length:=by omega
  subst e
  exact .inl ⟨⟨xs,q,Nat.le_refl _⟩,hd ys H p⟩
theorem kC {lo:Int} {n:Nat} {g:TG} {tt:TT} {te:TE} {σ0:St} {H:Hp} {R:List V→Hp→Prop} (Pv:Nat→List V→Hp→Prop) (h0:Pv 0 [] H)
  (hs:∀ i ys H,i < n→Pv i ys H→g (.int (lo+i)) σ0 H fun σ2 H2=>Ext σ0 σ2∧tt σ2 H2 fun b H3=>if b=true then te σ2 H3 fun v H4=>ys.length < sizeLine∧Pv (i+1) (ys++[v]) H4 else Pv (i+1) ys H3)
  (hd:∀ ys H,Pv n ys H→R ys H):∃ W:Nat→Nat→List V→Hp→Prop,(∃ m,W 0 m [] H)∧vO (To lo n) g tt te σ0 W R:=by
 refine ⟨fun i m ys H=>m=n - i∧i≤n∧Pv i ys H,⟨n,by simp,Nat.zero_le _,h0⟩,?_⟩
 rintro i m ys H ⟨rfl,hi,p⟩
 by_cases hlt:i < n
 ·refine .inr ⟨hlt,Pv (i+1),fun ys' H' p'=>⟨n - (i+1),by omega,rfl,hlt,p'⟩,fun x H' y=>?_⟩
  obtain ⟨e,y⟩:=y
  subst e y
  exact hs i ys _ hlt p
 ·have e:i=n:=by omega
  subst e
  exact .inl ⟨Nat.le_refl _,hd ys H p⟩
def a7D (K:PySem.W.Frag) (tl:TE):TI:=fun σ H R=>tl σ H fun x H1=>∃ a,x=.ref a∧(((∃ xs,ck K H1 a xs)∧R (Pf K a) H1)∨((∃ xs,aV K H1 a xs)∧R (NZ K a) H1))
theorem Km {X:Cx} {tg l:Expr} {tl:TE} (hl:PE X l tl):PI X tg l (a7D X.K tl):=by
 intro pins s σ H R I h
 refine gZ (hl pins s σ H _ I h) fun v s1 ⟨x,H1,I1,r1,q1⟩=>?_
 obtain ⟨a,e,q⟩:=q1
 subst e
 cases r1
 have fo:∀ b∈[s1.heap.objs.size],v9 X pins H1 b:=fun b hb=>by
  have e:b=s1.heap.objs.size:=by simpa using hb
  subst e
  exact I1.MT (Nat.le_refl _) (I1.hok.fresh (Nat.le_refl _))
 rcases q with ⟨⟨xs,hq⟩,q⟩ | ⟨⟨xs,hq⟩,q⟩
 ·obtain ⟨its,rv,p,hz⟩:=I1.list hq
  refine wpAny_pyIter_list p.isList ?_
  exact ⟨s1.heap.objs.size,[s1.heap.objs.size],_,_,H1,rfl,I1.kept (t':=s1.toks) fun b o e=>Heap.get?_push_of_some _ e,yK a _,⟨_,Heap.get?_push_size _ rfl,rfl,rfl⟩,fo,q⟩
 ·obtain ⟨its,rv,p,hz⟩:=I1.tuple hq
  refine wpAny_pyIter_tuple (show s1.heap.IsTuple a its.toArray from p) ?_
  exact ⟨s1.heap.objs.size,[s1.heap.objs.size],_,_,H1,rfl,I1.kept (t':=s1.toks) fun b o e=>Heap.get?_push_of_some _ e,wL a _,⟨_,Heap.get?_push_size _ rfl,rfl,rfl⟩,fo,q⟩
end L2
namespace L2
open PySem PySem.Spec PyProof.Rows
section
variable {X:Cx}
theorem vE:∀ (p:Str) (l:List Str),risingS p l=true→(p::l).Pairwise fun a b=>Hw.lt b a=false
 | p,[],_=>by simp
 | p,x::r,h=>by
  have h:(!ltCps x.cps.toList p.cps.toList && risingS x r)=true:=h
  rw [Bool.and_eq_true,Bool.not_eq_true'] at h
  have ih:=vE x r h.2
  refine List.pairwise_cons.mpr ⟨fun y hy=>?_,ih⟩
  rcases List.mem_cons.mp hy with rfl | hy
  ·exact h.1
  ·exact Hw.not_lt_trans h.1 ((List.pairwise_cons.mp ih).1 y hy)
theorem zu:∀ (l:List Str),sortedS l=true→l.Pairwise fun a b=>Hw.lt b a=false
 | [],_=>.nil
 | x::r,h=>vE x r h
theorem wN:∀ {ss:List Str} {us:List Value},StrsAre us ss→Vals (ss.map V.str) us
 | _,_,.nil=>.nil
 | _,_,.cons x t h=>.cons ⟨t,rfl⟩ (wN h)
theorem vG:∀ {ss:List Str} {us:List Value},Vals (ss.map V.str) us→StrsAre us ss:=by
 intro ss
 induction ss with
 | nil=>intro us r;rw [List.map_nil] at r;cases r;exact .nil
 | cons x ss ih =>
  intro us r
  rw [List.map_cons] at r
  cases r with
  | cons r1 r2 =>
   obtain ⟨t,e⟩:=r1
   subst e
   exact .cons x t (ih r2)
theorem vn:∀ {xs:List V} {us:List Value},xs.length=us.length→(∀ (i:Nat) x,xs[i]?=some x→∃ u,us[i]?=some u∧RelV x u)→Vals xs us
 | [],[],_,_=>.nil
 | [],_::_,h,_=>by simp at h
 | _::_,[],h,_=>by simp at h
 | x::xs,u::us,h,g=>by
  obtain ⟨v,e,r⟩:=g 0 x rfl
  cases e
  exact .cons r (vn (by simpa using h) fun i y hy=>g (i+1) y hy)
theorem gk.here {P:Program} {w:World} {H:Hp} {h:Heap} {a:Addr} {o:HO} (x:gk P w H h a o):∃ u,h.get? a=some u:=by
 cases o with
 | lst xs=>obtain ⟨_,_,_,_,e⟩:=x;exact ⟨_,e⟩
 | tup xs=>obtain ⟨_,_,_,o,e,_⟩:=x;exact ⟨_,e⟩
 | dK kvs=>obtain ⟨_,_,_,_,o,_,_,e,_⟩:=x;exact ⟨_,e⟩
 | dT kvs=>obtain ⟨_,_,_,_,o,_,_,e,_⟩:=x;exact ⟨_,e⟩
 | set S n=>obtain ⟨o,_,_,_,e,_⟩:=x;exact ⟨_,e⟩
 | ins C dx fs=>obtain ⟨_,_,_,e,_⟩:=x;exact ⟨_,e⟩
 | own y=>obtain ⟨_,e⟩:=x;exact ⟨_,e⟩
 | xd fs=>obtain ⟨_,⟨_,_,_,e,_⟩,_⟩:=x;exact ⟨_,e⟩
 | X6 lo hi=>obtain ⟨_,_,_,e⟩:=x;exact ⟨_,e⟩
 | Fj ob u=>obtain ⟨e,_⟩:=x;exact ⟨_,e⟩
 | PL ps=>exact ⟨_,(show h.get? a=some _ from x)⟩
 | met f y=>exact ⟨_,(show h.get? a=some _ from x)⟩
 | ext φ=>obtain ⟨_,⟨_,e⟩,_⟩:=x;exact ⟨_,e⟩
theorem Inv.U7 {pins:List (Addr×Obj)} {σ:St} {H:Hp} {s:Shared} {h':Heap} {a:Addr} {o:HO} {t':Nat} (I:Inv X pins σ H s) (k:∀ b u,s.heap.get? b=some u→h'.get? b=some u) (hp:∀ b u,s.heap.get? b=some u→b≠a) (new:gk X.prog X.w (upd H a o) h' a o) :
  H a=none∧Inv X pins σ (upd H a o) { s with heap:=h',toks:=t' }:=by
 have hn:H a=none:=by
  cases q:H a with
  | none=>rfl
  | some u=>obtain ⟨v,e⟩:=(I.hok a u q).here;exact absurd rfl (hp a v e)
 refine ⟨hn,I.un ⟨fun b u e _ _ _=>k b u e,fun b u e _ _ _=>⟨u.slots,k b u e⟩,fun b u e n _=>by rw [aX (hp b u e)];exact n,fun b u e _=>⟨u,k b u e⟩,fun b xs e=>by rw [aX (aB e hn)];exact e,fun b u xs e=>by rw [aX (aB e hn)];exact e,fun b ps e=>⟨#[],by rw [aX (aB e hn),e];simp⟩⟩ fun b u e=>?_⟩
 by_cases hb:b=a
 ·subst hb;rw [af] at e;cases e;exact new
 ·rw [aX hb] at e
  exact (I.hok b u e).stay (fun c v _ q=>k c v q) (fun c q=>by rw [aX (aB q hn)];exact q) fun c xs q=>by rw [aX (aB q hn)];exact q
theorem tY (hc:X.calm=true):oW X (.builtin "sorted") (fun xs H Q=>∃ p kvs ss,xs=[.ref p]∧H p=some (.dK kvs)∧kvs.map (·.1)=List.map (Sum.inr:Str→Key) ss∧kvs.length < 64 ∧
  ∀ l ys,H l=none→List.Perm ys ss→ys.Pairwise (fun a b=>Hw.lt b a=false)→Q (.ref l) (upd H l (.lst (ys.map V.str)))):=by
 intro pins s σ H xs us Q I r h
 obtain ⟨p,kvs,ss,rfl,hp,hk,h64,q⟩:=h
 obtain ⟨u,rfl,ru⟩:=vals1 r
 cases ru
 obtain ⟨hz,lo,vs,rel,dd⟩:=y9 I.hok (.inl hp)
 obtain ⟨ep,hat⟩:=dd.dictAt
 have hlv:=rel.length
 refine Calls.call_function_entry kind_sorted plain_sorted entry_sorted (args_sorted1 _) ?_
 unfold Builtin.«sorted»
 refine wpAny_bind (m:=checkCount "sorted" 1 1 _) (wpAny_pure (wpAny_bind (PySem.W.kdu_collect (A:=X.A.in1) (PySem.W.kdl_dict (knd:=gP X.prog X.w) (kvs:=vs) (ep:=ep) lo) (I.ok.hd hc) hat (by rw [← hlv];exact hz) fun h' tk acc kp hacc=>?_)))
 have hS:StrsAre acc.toList ss:=by
  refine vG (vn ?_ fun i x hx=>?_)
  ·have:(kvs.map (·.1)).length=(List.map (Sum.inr:Str→Key) ss).length:=by rw [hk]
   rw [List.length_map,List.length_map] at this
   have el:acc.toList.length=kvs.length:=by rw [Array.length_toList,hacc.1,← hlv]
   rw [List.length_map,el,this]
  ·rw [List.getElem?_map] at hx
   cases e:ss[i]? with
   | none=>rw [e] at hx;cases hx
   | some y =>
    rw [e] at hx
    cases hx
    have hi:i < acc.size:=by
     have h1:i < ss.length:=(List.getElem?_eq_some_iff.mp e).1
     have:(kvs.map (·.1)).length=(List.map (Sum.inr:Str→Key) ss).length:=by rw [hk]
     rw [List.length_map,List.length_map] at this
     rw [hacc.1];omega
    obtain ⟨k,x,hv,hkk⟩:=hacc.2 i acc[i] (by simp)
    have ek:(vs.map (·.1))[i]?=some (Sum.inr y):=by rw [← rel.keys,hk,List.getElem?_map,e];rfl
    rw [List.getElem?_map,hv] at ek
    have ek:k=Sum.inr y:=Option.some.inj ek
    subst ek
    rcases fm (show xM (Sum.inr y) acc[i]=true from hkk) with ⟨_,_,z,_⟩ | ⟨z,t,z1,z2⟩
    ·cases z
    ·cases z1
     exact ⟨acc[i],by simp,t,z2⟩
 have hla:acc.toList.length < 64:=by rw [Array.length_toList,hacc.1,← hlv];exact h64
 refine wpAny_bind (wpAny_newList ?_ (by
   have:64≤sizeLine:=by rw [sizeLine_eq];decide
   omega))
 have ho:(h'.push (seqObj "list" acc.toList.toArray 0)).get? h'.objs.size=some (seqObj "list" acc.toList.toArray 0):=Heap.get?_push_size _ rfl
 refine wpAny_bind (wpAny_holding (wpAny_call_entry slot_list_sort ⟨_,ho,rfl⟩ entry_list_sort (list_sort_treeK (s:={ s with heap:=h'.push (seqObj "list" acc.toList.toArray 0),toks:=tk }) strKind_oneLt ho hS.keysOf (fun v1 v2 rest e=>keyKind_strs (by rw [← e];exact hS)) hla fun st' a1 a2=>⟨_,rfl,?_⟩) (args_list_sort _)))
 obtain ⟨ss',b1,b2,b3⟩:=sorted_out_str hS a1 a2
 obtain ⟨e,he⟩:=sortedHeap_at (out:=(arrOf st').map (·.2)) ho
 have hss:(ss'.map V.str).length≤sizeLine:=by
  have h1:64≤sizeLine:=by rw [sizeLine_eq];decide
  have h2:(ss'.map V.str).length=acc.toList.length:=by rw [List.length_map,b2.length_eq,← StrsAre.length hS]
  rw [h2]
  exact Nat.le_trans (Nat.le_of_lt hla) h1
 have L:=I.U7 (h':=sortedHeap (h'.push (seqObj "list" acc.toList.toArray 0)) h'.objs.size acc.toList ((arrOf st').map (·.2))) (a:=h'.objs.size) (o:=.lst (ss'.map V.str)) (t':=tk)
  (fun b u q=>by
   have l:=Heap.lt_size (kp b u q)
   rw [sortedHeap_old (Nat.ne_of_lt l) (by rw [Heap.size_push];exact Nat.lt_succ_of_lt l)]
   exact Heap.get?_push_of_some _ (kp b u q))
  (fun b u q=>Nat.ne_of_lt (Heap.lt_size (kp b u q)))
  ⟨hss,((arrOf st').map (·.2)).toList,e,wN b1,by rw [Array.toArray_toList];exact he⟩
 exact wpAny_pure ⟨_,rfl,.ref h'.objs.size,_,L.2,rfl,q _ ss' L.1 b2 (zu _ b3)⟩
def j4 (K:PySem.W.Frag) (H:Hp):Nat→V→V→Prop
 | 0,x,y=>mG x=true∧x=y
 | n+1,x,y=>(mG x=true∧x=y)∨∃ a b xs ys,x=.ref a∧y=.ref b∧((ck K H a xs∧ck K H b ys)∨(aV K H a xs∧aV K H b ys))∧Paired (j4 K H n) xs ys
theorem MW {x:V} (h:mG x=true):BC x x=true:=by
 cases x with
 | eT=>rfl
 | bl b=>simp [BC]
 | int i=>simp [BC]
 | str z=>simp [BC]
 | _=>cases h
theorem Bd {F:V→V→Prop}:∀ {xs ys:List V},Paired F xs ys→∀ {i:Nat} {x y:V},xs[i]?=some x→ys[i]?=some y→F x y
 | _,_,.nil,_,_,_,e,_=>by simp at e
 | _,_,.cons r t,0,_,_,e,e'=>by simp at e e';rw [← e,← e'];exact r
 | _,_,.cons r t,i+1,_,_,e,e'=>Bd t (by simpa using e) (by simpa using e')
theorem ko {K:PySem.W.Frag} {n:Nat} {H:Hp} {A:Around} {s:Shared} {xs ys:List V} {us vs:List Value} (p:Paired (j4 K H n) xs ys) (r:Vals xs us) (r':Vals ys vs)
  (ih:∀ x y u v,RelV x u→RelV y v→j4 K H n x y→SeqAt.EqAt A s u v true):∀ (j:Nat) (h1:j < us.toArray.size) (h2:j < vs.toArray.size),SeqAt.EqAt A s us.toArray[j] vs.toArray[j] true:=by
 intro j h1 h2
 have l1:=r.length
 have l2:=r'.length
 simp only [List.size_toArray] at h1 h2
 have e1:xs[j]?=some xs[j]:=List.getElem?_eq_getElem (by omega)
 have e2:ys[j]?=some ys[j]:=List.getElem?_eq_getElem (by omega)
 obtain ⟨u,hu,ru⟩:=r.get e1
 obtain ⟨v,hv,rv⟩:=r'.get e2
 have hu':us.toArray[j]=u:=by
  rw [List.getElem?_eq_getElem h1] at hu;simpa using hu
 have hv':vs.toArray[j]=v:=by
  rw [List.getElem?_eq_getElem h2] at hv;simpa using hv
 rw [hu',hv']
 exact ih _ _ u v ru rv (Bd p e1 e2)
theorem vj (n:Nat):((List.range n).all fun _=>true)=true:=by rw [List.all_eq_true];intro _ _;rfl
theorem like_eq {pins:List (Addr×Obj)} {σ:St} {H:Hp} {s:Shared} (I:Inv X pins σ H s):∀ (n:Nat) (A:Around),A.units+n < cLine→∀ x y u v,RelV x u→RelV y v→j4 X.K H n x y→SeqAt.EqAt A s u v true:=by
 intro n
 have flat:∀ (A:Around) (x y:V) (u v:Value),RelV x u→RelV y v→mG x=true∧x=y→SeqAt.EqAt A s u v true:=by
  rintro A x y u v ru rv ⟨f,rfl⟩
  have:=MY (A:=A) (s:=s) ru rv f f
  rw [MW f] at this
  exact this
 induction n with
 | zero=>intro A hu x y u v ru rv h;exact flat A x y u v ru rv h
 | succ n ih =>
  intro A hu x y u v ru rv h
  rcases h with h | ⟨a,b,xs,ys,rfl,rfl,h,p⟩
  ·exact flat A x y u v ru rv h
  ·cases ru
   cases rv
   have ih':=ih A.in1 (by show A.units+1+n < cLine;omega)
   by_cases hab:a=b
   ·subst hab;exact SeqAt.EqAt.same _
   ·refine .of_refs hab ?_
    have lp:xs.length=ys.length:=Paired.length p
    rcases h with ⟨ha,hb⟩ | ⟨ha,hb⟩
    ·obtain ⟨us,r1,p1,_⟩:=I.list ha
     obtain ⟨vs,r2,p2,_⟩:=I.list hb
     have l1:=r1.length
     have l2:=r2.length
     have:=SeqAt.RcAt.lists (A:=A) (e:=fun _=>true) p1.isList p2.isList (by simp only [List.size_toArray];omega) (by omega) (ko p r1 r2 ih')
     rw [vj] at this
     exact this
    ·obtain ⟨us,r1,p1,_⟩:=I.tuple ha
     obtain ⟨vs,r2,p2,_⟩:=I.tuple hb
     have l1:=r1.length
     have l2:=r2.length
     have:=SeqAt.RcAt.tuples (A:=A) (e:=fun _=>true) (show s.heap.IsTuple a us.toArray from p1) (show s.heap.IsTuple b vs.toArray from p2) (by omega) (ko p r1 r2 ih')
     have e:(us.toArray.size == vs.toArray.size)=true:=by simp only [List.size_toArray,beq_iff_eq];omega
     rw [vj,e] at this
     exact this
def A9 (K:PySem.W.Frag) (n:Nat) (k:Bool):R2:=fun x y H Q=>∃ a b xs ys,x=.ref a∧y=.ref b∧((ck K H a xs∧ck K H b ys)∨(aV K H a xs∧aV K H b ys))∧Paired (j4 K H n) xs ys∧Q (.bl k) H
theorem pT (n:Nat) (hu:X.A.units+1+n < cLine):sy X (compareOp .Eq) (A9 X.K n true):=by
 intro pins s σ H x y v u Q I rx ry h
 obtain ⟨a,b,xs,ys,rfl,rfl,h,p,q⟩:=h
 cases rx
 cases ry
 have ih':=like_eq I n X.A.in1 (by show X.A.units+1+n < cLine;omega)
 have lp:xs.length=ys.length:=Paired.length p
 have fin:EP X pins σ Q (.bool true) s:=⟨.bl true,H,I,rfl,q⟩
 rcases h with ⟨ha,hb⟩ | ⟨ha,hb⟩
 ·obtain ⟨us,r1,p1,_⟩:=I.list ha
  obtain ⟨vs,r2,p2,_⟩:=I.list hb
  have l1:=r1.length
  have l2:=r2.length
  exact SeqAt.eq_listAt (e:=fun _=>true) p1.isList p2.isList (by simp only [List.size_toArray];omega) (by omega) (ko p r1 r2 ih') (by rw [vj];exact fin)
 ·obtain ⟨us,r1,p1,_⟩:=I.tuple ha
  obtain ⟨vs,r2,p2,_⟩:=I.tuple hb
  have l1:=r1.length
  have l2:=r2.length
  have e:(us.toArray.size == vs.toArray.size)=true:=by simp only [List.size_toArray,beq_iff_eq];omega
  exact SeqAt.eq_tupleAt (e:=fun _=>true) (show s.heap.IsTuple a us.toArray from p1) (show s.heap.IsTuple b vs.toArray from p2) (by omega) (ko p r1 r2 ih') (by rw [vj,e];exact fin)
theorem nG (n:Nat) (hu:X.A.units+1+n < cLine):sy X (compareOp .NotEq) (A9 X.K n false):=by
 intro pins s σ H x y v u Q I rx ry h
 obtain ⟨a,b,xs,ys,rfl,rfl,h,p,q⟩:=h
 cases rx
 cases ry
 have ih':=like_eq I n X.A.in1 (by show X.A.units+1+n < cLine;omega)
 have lp:xs.length=ys.length:=Paired.length p
 have fin:EP X pins σ Q (.bool false) s:=⟨.bl false,H,I,rfl,q⟩
 rcases h with ⟨ha,hb⟩ | ⟨ha,hb⟩
 ·obtain ⟨us,r1,p1,_⟩:=I.list ha
  obtain ⟨vs,r2,p2,_⟩:=I.list hb
  have l1:=r1.length
  have l2:=r2.length
  exact SeqAt.RcNeAt.lists (A:=X.A) (e:=fun _=>true) p1.isList p2.isList (by simp only [List.size_toArray];omega) (by omega) (ko p r1 r2 ih') _ _ _ _ (by rw [vj];exact fin)
 ·obtain ⟨us,r1,p1,_⟩:=I.tuple ha
  obtain ⟨vs,r2,p2,_⟩:=I.tuple hb
  have l1:=r1.length
  have l2:=r2.length
  have e:(us.toArray.size == vs.toArray.size)=true:=by simp only [List.size_toArray,beq_iff_eq];omega
  exact SeqAt.RcNeAt.tuples (A:=X.A) (e:=fun _=>true) (show s.heap.IsTuple a us.toArray from p1) (show s.heap.IsTuple b vs.toArray from p2) (by omega) (ko p r1 r2 ih') _ _ _ _ (by rw [vj,e];exact fin)
def rJoin:V→List V→Hp→VK→Prop:=fun x vs H Q=>∃ sep p ss,x=.str sep∧vs=[.ref p]∧H p=some (.lst (List.map V.str ss))∧(ss.map (·.length)).sum+ss.length*sep.length≤16777216∧Q (.str (Txt.join sep ss)) H
theorem Oz:ZW X "str.join" rJoin:=by
 intro pins s σ H x vs v us Q I rx rv h
 obtain ⟨sep,p,ss,rfl,rfl,hp,hz,q⟩:=h
 obtain ⟨t,rfl⟩:=rx
 obtain ⟨u,rfl,ru⟩:=rv.one
 cases ru
 obtain ⟨its,r,pl,_⟩:=I.list (ck.of hp)
 exact join_list pl.isList (by simpa using vG r) hz fun t' k=>⟨.str _,H,I.tok _,⟨_,rfl⟩,q⟩
def a1y (K:PySem.W.Frag) (c:V):List V→Hp→VK→Prop:=fun vs H Q=>∃ x t u b,vs=[x,c]∧sf K H x t∧RelV c u∧PySem.W.kitOne K t u=some b∧Q (.bl b) H
theorem RelV.a7A {c:V} {u u':Value} (hc:match c with | .ref _=>True | .ty _=>True | _=>False) (r:RelV c u) (r':RelV c u'):u=u':=by
 cases c with
 | ref a=>cases r;cases r';rfl
 | ty n=>cases r;cases r';rfl
 | _=>exact hc.elim
theorem gB {c:V} (hc:match c with | .ref _=>True | .ty _=>True | _=>False):oW X (.builtin "isinstance") (a1y X.K c):=by
 intro pins s σ H xs us Q I r h
 obtain ⟨x,t,u,b,rfl,ty,rc,hb,q⟩:=h
 obtain ⟨w1,w2,rfl,rx,r2⟩:=vals2 r
 rw [RelV.a7A hc r2 rc]
 exact HW I rx ty hb fun tk=>⟨.bl b,H,I.tok _,rfl,q⟩
def P6 (K:PySem.W.Frag):R2:=fun x y H Q=>∃ a b xs ys,x=.ref a∧y=.ref b∧aV K H a xs∧aV K H b ys∧xs.length+ys.length≤sizeLine ∧
 (xs=[]→Q (.ref b) H)∧(xs≠[]→ys=[]→Q (.ref a) H)∧(xs≠[]→ys≠[]→∀ p,H p=none→Q (.ref p) (upd H p (.tup (xs++ys))))
theorem oG:sy X (binaryOp .Add) (P6 X.K):=by
 intro pins s σ H x y v u Q I rx ry h
 obtain ⟨a,b,xs,ys,rfl,rfl,ha,hb,hz,q0,q1,q2⟩:=h
 by_cases hx:xs=[]
 ·cases rx
  cases ry
  obtain ⟨its,r1,p1,_⟩:=I.tuple ha
  obtain ⟨its2,r2,p2,_⟩:=I.tuple hb
  obtain ⟨⟨cls,dd,data,sl⟩,ho,hc,n,hd⟩:=id p1
  obtain ⟨⟨b1c,dd2,data2,sl2⟩,ho2,hc2,n2,hd2⟩:=id p2
  simp only at hc hd hc2 hd2
  subst hc hd hc2 hd2
  have hi:its=[]:=r1.wA.mpr hx
  refine concat_meets ⟨_,ho,rfl⟩ ⟨_,ho2,rfl⟩ noFill_tuple_add seq_tuple_add PySem.F.slot_tuple_add PySem.F.entry_tuple_add (PySem.F.args_tuple_add_2 _ _)
   (tuple_addW0 a b its.toArray its2.toArray n n2 dd dd2 sl sl2 (by simp [hi])) ⟨ho,ho2,?_⟩
  exact ⟨.ref b,H,I,rfl,q0 hx⟩
 ·exact Ol pins s σ H _ _ v u Q I rx ry ⟨a,b,xs,ys,rfl,rfl,ha,hb,hx,hz,q1 hx,fun hy=>q2 hx hy⟩
def a1w (K:PySem.W.Frag):R2:=fun x y H Q=>∃ p xs k v,x=.ref p∧y=.int (k:Nat)∧ck K H p xs∧xs[k]?=some v∧Q v H
theorem MR:Xs X (a1w X.K):=by
 intro pins s σ H o i ov iv Q I ro ri h
 obtain ⟨p,xs,k,v,rfl,rfl,hq,he,q⟩:=h
 cases ro
 obtain ⟨t,rfl⟩:=ri
 obtain ⟨its,r,pl,hz⟩:=I.list hq
 obtain ⟨w,ew,rw'⟩:=r.get he
 have hk:k < xs.length:=(List.getElem?_eq_some_iff.mp he).1
 have hn:=uU
 exact wpAny_getItem_list pl.isList (by omega) (by omega) (by simpa using ew) ⟨v,H,I,rw',q⟩
end
end L2
namespace Hw
open PySem L2
theorem new {H:Hp} {p:Addr} {o:HO} (h:H p=none):aF H (upd H p o):=fun b u e=>by rw [aX (aB e h)];exact e
def bE (d:Addr) (H H':Hp):Prop:=∀ b o,H b=some o→b≠d→H' b=some o
theorem bE.of {d:Addr} {H H':Hp} (h:aF H H'):bE d H H':=fun b o e _=>h b o e
theorem bE.trans {d:Addr} {H H1 H2:Hp} (a:bE d H H1) (b:bE d H1 H2):bE d H H2:=fun c o e n=>b c o (a c o e n) n
theorem bE.upd {d:Addr} {H:Hp} {o:HO}:bE d H (L2.upd H d o):=fun b u e n=>by rw [aX n];exact e
theorem bE.new {d:Addr} {H H1:Hp} {p:Addr} {o:HO} (a:bE d H H1) (h:H1 p=none):bE d H (L2.upd H1 p o):=fun b u e n=>Hw.new h b u (a b u e n)
theorem aF.new {H H1:Hp} {p:Addr} {o:HO} (a:aF H H1) (h:H1 p=none):aF H (L2.upd H1 p o):=a.trans (Hw.new h)
theorem bE.back {d:Addr} {H H0 H1:Hp} (s:aF H0 H) (a:bE d H H1) (h:H0 d=none):aF H0 H1:=fun b u e=>a b u (s b u e) (aB e h)
def Pr (H:Hp) (v:V) (p:Str×Int):Prop:=∃ a,v=.ref a∧H a=some (.tup [.str p.1,.int p.2])
abbrev BU (H:Hp):List V→Ps→Prop:=Paired (Pr H)
theorem Pr.keep {H H':Hp} {v:V} {p:Str×Int} (h:∀ a xs,H a=some (.tup xs)→H' a=some (.tup xs)) (x:Pr H v p):Pr H' v p:=let ⟨a,e,q⟩:=x;⟨a,e,h _ _ q⟩
theorem BU.keep {H H':Hp} {vs:List V} {ps:Ps} (h:∀ a xs,H a=some (.tup xs)→H' a=some (.tup xs)) (x:BU H vs ps):BU H' vs ps:=L2.Paired.dg x fun _ _ q=>q.keep h
def Lp (H:Hp) (a:Addr) (ps:Ps):Prop:=∃ vs,H a=some (.lst vs)∧BU H vs ps
def Tp (H:Hp) (a:Addr) (ps:Ps):Prop:=∃ vs,H a=some (.tup vs)∧BU H vs ps
theorem Lp.same {H H':Hp} {a:Addr} {ps:Ps} (h:Lp H a ps) (s:aF H H'):Lp H' a ps:=let ⟨vs,e,q⟩:=h;⟨vs,s _ _ e,q.keep fun _ _ z=>s _ _ z⟩
theorem Tp.same {H H':Hp} {a:Addr} {ps:Ps} (h:Tp H a ps) (s:aF H H'):Tp H' a ps:=let ⟨vs,e,q⟩:=h;⟨vs,s _ _ e,q.keep fun _ _ z=>s _ _ z⟩
theorem JY {H:Hp}:∀ {vs:List V} {ps:Ps},BU H vs ps→∀ {i:Nat} {v:V},vs[i]?=some v→∃ p,ps[i]?=some p∧Pr H v p
 | _,_,.nil,_,_,e=>by simp at e
 | _,_,.cons r t,0,_,e=>by simp at e;subst e;exact ⟨_,rfl,r⟩
 | _,_,.cons r t,i+1,_,e=>JY t (i:=i) (by simpa using e)
theorem oF {H:Hp} {vs:List V} {ps:Ps} (h:BU H vs ps):vs.length=ps.length:=Paired.length h
theorem wo {H:Hp}:∀ {vs ws:List V} {ps qs:Ps},BU H vs ps→BU H ws qs→BU H (vs++ws) (ps++qs)
 | _,_,_,_,.nil,s=>s
 | _,_,_,_,.cons r t,s=>.cons r (wo t s)
theorem tD {H:Hp} {v:V} {p:Str×Int} (h:Pr H v p):BU H [v] [p]:=.cons h .nil
theorem Ba {K:PySem.W.Frag} {H:Hp}:∀ {vs ws:List V} {ps:Ps},BU H vs ps→BU H ws ps→Paired (j4 K H 1) vs ws
 | _,_,_,.nil,.nil=>.nil
 | _,_,_,.cons ⟨a,ea,ha⟩ t,.cons ⟨b,eb,hb⟩ t'=>.cons (.inr ⟨a,b,_,_,ea,eb,.inr ⟨aV.of ha,aV.of hb⟩,.cons ⟨rfl,rfl⟩ (.cons ⟨rfl,rfl⟩ .nil)⟩) (Ba t t')
theorem uV {K:PySem.W.Frag} {H:Hp} {n:Nat}:∀ {vs:List V},vs.all mG=true→Paired (j4 K H n) vs vs
 | [],_=>.nil
 | x::r,h=>by
  rw [List.all_cons,Bool.and_eq_true] at h
  refine .cons ?_ (uV h.2)
  cases n with
  | zero=>exact ⟨h.1,rfl⟩
  | succ n=>exact .inl ⟨h.1,rfl⟩
def enc (d:Ps):List (Key×V):=d.map fun p=>(Sum.inr p.1,V.int p.2)
theorem BD (d:Ps):(enc d).map (·.1)=List.map (Sum.inr:Str→Key) (keys d):=by
 unfold enc keys
 rw [List.map_map,List.map_map];rfl
theorem wB (d:Ps):(enc d).length=d.length:=List.length_map ..
theorem Ao (t:Str):∀ d:Ps,qO (enc d) (Sum.inr t)=if t∈keys d then some (V.int (get d t)) else none
 | []=>by simp [enc,qO,keys]
 | p::r=>by
  have ih:=Ao t r
  show qO ((Sum.inr p.1,V.int p.2)::enc r) (Sum.inr t)=_
  by_cases e:p.1=t
  ·rw [sI (by simp [e]),mF,if_pos e,if_pos (by simp [keys,e])]
  ·have e':¬ t=p.1:=fun z=>e z.symm
   have hk:t∈keys (p::r)↔t∈keys r:=by
    unfold keys
    rw [List.map_cons,List.mem_cons]
    exact ⟨fun h=>h.resolve_left e',.inr⟩
   rw [sJ (by simpa using e),ih,mF,if_neg e]
   simp only [hk]
theorem MZ (d:Ps) (t:Str):(qO (enc d) (Sum.inr t)).getD (V.int 0)=V.int (get d t):=by
 rw [Ao]
 by_cases h:t∈keys d
 ·rw [if_pos h];rfl
 ·rw [if_neg h,Fi h];rfl
theorem OX (d:Ps) (t:Str):((enc d).any fun kv=>decide (kv.1=(Sum.inr t:Key)))=d.any fun p=>decide (p.1=t):=by
 unfold enc
 rw [List.any_map]
 congr 1
 funext p
 simp
theorem GL (d:Ps) (t:Str) (n:Int):putK (enc d) (Sum.inr t) (V.int n)=enc (put d t n):=by
 unfold putK put
 rw [OX]
 split
 ·unfold enc
  rw [List.map_map,List.map_map]
  refine List.map_congr_left fun p _=>?_
  by_cases e:p.1=t
  ·simp [e]
  ·simp [e]
 ·unfold enc
  rw [List.map_append];rfl
def vA (t:Addr) (n:Int):List (Str×V):=bw "number" (.int n) (bw "terms" (.ref t) [])
theorem tn:¬ (("terms":Str)="number"):=by decide +kernel
theorem fj (t:Addr) (n:Int):(vA t n).lookup ("terms":Str)=some (.ref t):=by
 unfold vA
 rw [bM,if_neg tn,bM,if_pos rfl]
theorem eF (t:Addr) (n:Int):(vA t n).lookup ("number":Str)=some (.int n):=by
 unfold vA
 rw [bM,if_pos rfl]
theorem iS (t:Addr) (n:Int) {m:Str} (h1:¬ m="terms") (h2:¬ m="number"):(vA t n).lookup m=none:=by
 unfold vA
 rw [bM,if_neg h2,bM,if_neg h1]
 all_goals rfl
def mO (C:Addr) (H:Hp) (p:Addr) (ts:Ps) (n:Int):Prop:=∃ dx t,H p=some (.ins C dx (vA t n))∧Tp H t ts∧ts.length≤1000
theorem mO.same {C:Addr} {H H':Hp} {p:Addr} {ts:Ps} {n:Int} (h:mO C H p ts n) (s:aF H H'):mO C H' p ts n:=let ⟨dx,t,e,q,z⟩:=h;⟨dx,t,s _ _ e,q.same s,z⟩
end Hw
namespace Hw
open PySem L2
def Dn (P:Program) (w:World) (K:PySem.W.Frag) (mg:Str→Option Value) (base:Heap) (k:Nat) (x:Str) (ps:List Str) (sp:Sp):Prop :=
 ∃ (f:Addr) (fd:FuncData),bT P w K mg base dX k f fd ps sp∧mg x=some (.ref f)∧PySem.W.keepIn K (.ref f)=true∧Binds K fd ps []
def Mt (P:Program) (w:World) (K:PySem.W.Frag) (mg:Str→Option Value) (base:Heap) (k:Nat) (C:Addr) (m:Str) (ps:List Str) (sp:Sp):Prop :=
 ∃ (f:Addr) (fd:FuncData),bT P w K mg base dX k f fd ps sp∧Meth K C m f∧Binds K fd ps []
def Mr (P:Program) (w:World) (K:PySem.W.Frag) (mg:Str→Option Value) (base:Heap) (k:Nat) (C:Addr) (ps:List Str) (sp:Sp):Prop :=
 ∃ (f:Addr) (fd:FuncData),bT P w K mg base dX k f fd ps sp∧Mk K C f∧Binds K fd ps []
structure Txt (K:PySem.W.Frag) (mg:Str→Option Value) (C:Addr):Prop where
 cl:AL K C
 nT:iz K C "terms"
 nN:iz K C "number"
 RS:mg "Sum"=some (.ref C)
 len:mg "len"=none
 sum:mg "sum"=none
 sorted:mg "sorted"=none
 list:mg "list"=none
 tuple:mg "tuple"=none
 isinstance:mg "isinstance"=none
 range:mg "range"=none
 abs:mg "abs"=none
 str:mg "str"=none
 int:mg "int"=none
 dict:mg "dict"=none
 ca:PySem.W.findIn K (.ref C) "__class__"=some (some (.builtin "object.__class__"))
 cg:PySem.W.specialIn K (.builtin "object.__class__") "__get__"=some (some (.builtin "getset_descriptor.__get__"))
 ct:PySem.W.takesIn K (.builtin "object.__class__")=some true
 cm:PySem.W.mroIn K C (.type "object")=some true
 kS:PySem.W.kitOne K (.ref C) (.ref C)=some true
 kT:PySem.W.kitOne K (.type "tuple") (.type "tuple")=some true
def Sq (H:Hp) (a:Addr) (ps:Ps):Prop:=Lp H a ps∨Tp H a ps
theorem Sq.same {H H':Hp} {a:Addr} {ps:Ps} (h:Sq H a ps) (s:aF H H'):Sq H' a ps:=h.elim (fun z=>.inl (z.same s)) fun z=>.inr (z.same s)
def EB (C:Addr):Sp:=fun vs H Q _=>∃ (p dx l:Addr) (n:Int) (ps:Ps),vs=[.ref p,.ref l,.int n]∧H p=some (.ins C dx [])∧Sq H l ps∧ps.length≤1000 ∧
 ∀ H',bE p H H'→mO C H' p ps n→Q .eT H'
def zo (C:Addr):Sp:=fun vs H Q _=>∃ (a:Addr) (n:Int) (ps:Ps),vs=[.ref a,.int n]∧Sq H a ps∧ps.length < 64 ∧
 ∀ (r:Addr) (ts:Ps) (H':Hp),aF H H'→Gat ps ts→ts.length≤ps.length→mO C H' r ts n→Q (.ref r) H'
end Hw
namespace Hw
open PySem L2
structure Kp (H H':Hp):Prop where
 l:∀ b xs,H b=some (.lst xs)→H' b=some (.lst xs)
 t:∀ b xs,H b=some (.tup xs)→H' b=some (.tup xs)
theorem Kp.refl {H:Hp}:Kp H H:=⟨fun _ _ h=>h,fun _ _ h=>h⟩
theorem Kp.but {d:Addr} {H H':Hp} (s:bE d H H') (hl:∀ xs,H d≠some (.lst xs)) (ht:∀ xs,H d≠some (.tup xs)):Kp H H' :=
 ⟨fun b xs h=>s b _ h fun z=>hl xs (z ▸ h),fun b xs h=>s b _ h fun z=>ht xs (z ▸ h)⟩
theorem take_snoc {α:Type} {l:List α} {i:Nat} {x:α} (h:l[i]?=some x):l.take (i+1)=l.take i++[x]:=by
 rw [List.take_add_one,h];rfl
theorem get_some {H:Hp} {vs:List V} {ps:Ps} (r:BU H vs ps) {i:Nat} {v:V} (h:vs[i]?=some v):∃ p,ps[i]?=some p∧Pr H v p:=JY r h
theorem O2 {K:PySem.W.Frag} {a:Addr} {ps:Ps} {g:TG} {tt:TT} {te:TE} {σ0:St} {H:Hp} {R:List V→Hp→Prop} (h:Tp H a ps) (Pv:Nat→List V→Hp→Prop) (h0:Pv 0 [] H) (hS:∀ i ys H',Pv i ys H'→Kp H H')
  (hs:∀ i v p ys H',ps[i]?=some p→Pr H' v p→Pv i ys H'→g v σ0 H' fun σ2 H2=>Ext σ0 σ2∧tt σ2 H2 fun b H3=>if b=true then te σ2 H3 fun v H4=>ys.length < sizeLine∧Pv (i+1) (ys++[v]) H4 else Pv (i+1) ys H3)
  (hd:∀ ys H',Pv ps.length ys H'→R ys H'):(∃ xs,aV K H a xs)∧∃ W:Nat→Nat→List V→Hp→Prop,(∃ m,W 0 m [] H)∧vO (NZ K a) g tt te σ0 W R:=by
 obtain ⟨vs,e,r⟩:=h
 refine ⟨⟨vs,aV.of e⟩,dj (xs:=vs) Pv h0 (fun i ys H' _ p=>aV.of ((hS i ys H' p).t _ _ e)) (fun i v ys H' hi p=>?_) ?_⟩
 ·obtain ⟨q,hq,pr⟩:=get_some r hi
  exact hs i v q ys H' hq (pr.keep (hS i ys H' p).t) p
 ·rw [oF r];exact hd
theorem O3 {K:PySem.W.Frag} {a:Addr} {ps:Ps} {g:TG} {tt:TT} {te:TE} {σ0:St} {H:Hp} {R:List V→Hp→Prop} (h:Sq H a ps) (Pv:Nat→List V→Hp→Prop) (h0:Pv 0 [] H) (hS:∀ i ys H',Pv i ys H'→Kp H H')
  (hs:∀ i v p ys H',ps[i]?=some p→Pr H' v p→Pv i ys H'→g v σ0 H' fun σ2 H2=>Ext σ0 σ2∧tt σ2 H2 fun b H3=>if b=true then te σ2 H3 fun v H4=>ys.length < sizeLine∧Pv (i+1) (ys++[v]) H4 else Pv (i+1) ys H3)
  (hd:∀ ys H',Pv ps.length ys H'→R ys H'):((∃ xs,ck K H a xs)∧∃ W:Nat→Nat→List V→Hp→Prop,(∃ m,W 0 m [] H)∧vO (Pf K a) g tt te σ0 W R)∨((∃ xs,aV K H a xs)∧∃ W:Nat→Nat→List V→Hp→Prop,(∃ m,W 0 m [] H)∧vO (NZ K a) g tt te σ0 W R):=by
 rcases h with h | h
 ·obtain ⟨vs,e,r⟩:=h
  refine .inl ⟨⟨vs,ck.of e⟩,gu (xs:=vs) Pv h0 (fun i ys H' _ p=>ck.of ((hS i ys H' p).l _ _ e)) (fun i v ys H' hi p=>?_) ?_⟩
  ·obtain ⟨q,hq,pr⟩:=get_some r hi
   exact hs i v q ys H' hq (pr.keep (hS i ys H' p).t) p
  ·rw [oF r];exact hd
 ·exact .inr (O2 h Pv h0 hS hs hd)
abbrev XC (J:It) (g:TG) (tb:TS) (D:Ends) (σ:St) (H:Hp):Prop:=∃ W:Nat→Nat→St→Hp→Prop,(∃ m,W 0 m σ H)∧∀ i m σ H,W i m σ H →
 (J.stop i H∧D.nx σ H)∨(J.go i H∧∃ N:St→Hp→Prop,(∀ σ' H',N σ' H'→∃ m',m' < m∧W (i+1) m' σ' H')∧∀ x H',J.QI i H x H'→g x σ H' fun σ2 H2=>tb { D with nx:=N,ct:=N,bk:=D.nx } σ2 H2)
theorem Sy {K:PySem.W.Frag} {a:Addr} {ps:Ps} {g:TG} {tb:TS} {D:Ends} {σ:St} {H:Hp} (h:Sq H a ps) (Pv:Nat→St→Hp→Prop) (h0:Pv 0 σ H) (hS:∀ i σ H',Pv i σ H'→Kp H H')
  (hs:∀ i v p σ H',ps[i]?=some p→Pr H' v p→Pv i σ H'→g v σ H' fun σ2 H2=>tb { D with nx:=Pv (i+1),ct:=Pv (i+1),bk:=D.nx } σ2 H2) (hd:∀ σ H',Pv ps.length σ H'→D.nx σ H') :
  ((∃ xs,ck K H a xs)∧XC (Pf K a) g tb D σ H)∨((∃ xs,aV K H a xs)∧XC (NZ K a) g tb D σ H):=by
 rcases h with ⟨vs,e,r⟩ | ⟨vs,e,r⟩
 ·refine .inl ⟨⟨vs,ck.of e⟩,Bw (xs:=vs) Pv h0 (fun i σ H' _ p=>ck.of ((hS i σ H' p).l _ _ e)) (fun i v σ H' hi p=>?_) ?_⟩
  ·obtain ⟨q,hq,pr⟩:=get_some r hi
   exact hs i v q σ H' hq (pr.keep (hS i σ H' p).t) p
  ·rw [oF r];exact hd
 ·refine .inr ⟨⟨vs,aV.of e⟩,Ai (xs:=vs) Pv h0 (fun i σ H' _ p=>aV.of ((hS i σ H' p).t _ _ e)) (fun i v σ H' hi p=>?_) ?_⟩
  ·obtain ⟨q,hq,pr⟩:=get_some r hi
   exact hs i v q σ H' hq (pr.keep (hS i σ H' p).t) p
  ·rw [oF r];exact hd
theorem line (n:Nat) (h:n≤100000):n < sizeLine:=by rw [sizeLine_eq];omega
theorem szl (n:Nat) (h:n≤100000:=by decide):n≤sizeLine:=Nat.le_of_lt (line n h)
theorem FL {H:Hp} {d:Addr} {x y:HO}:upd (upd H d x) d y=upd H d y:=by
 funext b
 by_cases e:b=d
 ·subst e;rw [af,af]
 ·rw [aX e,aX e,aX e]
theorem Kp.dict {H:Hp} {d:Addr} {x y:List (Key×V)}:Kp (upd H d (.dK x)) (upd H d (.dK y)):=by
 constructor
 ·intro b xs h
  by_cases e:b=d
  ·subst e;rw [af] at h;cases h
  ·rw [aX e] at h ⊢;exact h
 ·intro b xs h
  by_cases e:b=d
  ·subst e;rw [af] at h;cases h
  ·rw [aX e] at h ⊢;exact h
theorem xB {H:Hp} {d:Addr} {e:Ps} {t:Str} (h:H d=some (.dK (enc e))) (m:t∈keys e):yH H d (.str t) (some (.int (get e t))):=by
 have q:=yH.k (k:=(Sum.inr t:Key)) h
 rw [Ao,if_pos m] at q
 exact q
theorem yO (e:Ps) (ys:List Str) (y:Str):outs e (ys++[y])=outs e ys++if get e y=0 then [] else [(y,get e y)]:=by
 unfold outs
 rw [List.map_append,List.filter_append]
 congr 1
 by_cases h:get e y=0
 ·rw [if_pos h];simp [h]
 ·rw [if_neg h];simp [h]
theorem xx (e:Ps) (ys:List Str):(outs e ys).length≤ys.length:=by
 unfold outs
 exact Nat.le_trans (List.length_filter_le _ _) (by rw [List.length_map];exact Nat.le_refl _)
end Hw
namespace L2
open PySem PySem.Spec PyProof.Rows
section
variable {X:Cx} {K:PySem.W.Frag}
theorem Gx (h:X.K=K):XA X (UG K):=h ▸ aG
theorem qo (h:X.K=K):oW X (.type "tuple") (fun xs H Q=>∃ p ys,xs=[.ref p]∧((ck K H p ys∧∀ l,H l=none→Q (.ref l) (upd H l (.tup ys)))∨(aV K H p ys∧Q (.ref p) H))):=h ▸ aI
theorem yt (h:X.K=K):oW X (.type "list") (fun xs H Q=>∃ p ys,xs=[.ref p]∧(ck K H p ys∨aV K H p ys)∧∀ l,H l=none→Q (.ref l) (upd H l (.lst ys))):=h ▸ ja
theorem Gn {e:Expr} {f:Str} {pos:Pos} {ta:TE} (h:X.K=K) (he:PE X e ta) (hb:attributeBase e f X.env (eval e X.env)=eval e X.env):PE X (.Attribute e f pos) (Ut K ta f):=h ▸ aE he hb
theorem tF {es:List Expr} {k:Nat} {t:Qv} {n:Nat} {pos:Pos} (hK:X.K=K) (hc:X.calm=true) (h:Xr X es t) (hn:(assignEach es X.env).length=n:=by rfl) (hst:(assignEach es X.env).findIdx? (·.1)=none:=by rfl) :
  PG X (.Tuple es k pos) (Vr K n t):=hK ▸ uG hc h hn hst
theorem jd {σ:St} {H:Hp} {F G:Hp→Prop} (h:F H):FP σ H (fun b H3=>if b=true then F H3 else G H3):=by
 show if true=true then F H else G H
 exact uY h
def strsOf:List Expr→Option (List Str)
 | []=>some []
 | .Constant (.str x) _ _::r=>(strsOf r).map (x::·)
 | _=>none
def PN (xs:List Str):TA:=fun _ H Q=>Q (xs.map V.str) H
theorem tG:∀ {es:List Expr} {xs:List Str},strsOf es=some xs→PA X es (PN xs)
 | [],xs,h=>by
  cases h
  exact ah
 | e::r,xs,h=>by
  unfold strsOf at h
  split at h
  ·rename_i he;cases he
  ·rename_i x j pos r' he
   cases he
   cases q:strsOf r with
   | none=>rw [q] at h;cases h
   | some ys =>
    rw [q] at h
    cases h
    have ih:=tG q
    exact dN aY ih rfl
  ·cases h
def Bk:Expr→Option (List Str)
 | .List es _=>strsOf es
 | _=>none
theorem zF {xs:List Str}:∀ {e:Expr},Bk e=some xs→PE X e (Us (PN xs))
 | .List es pos,h=>cZ (tG h)
theorem FQ {xs:List Str} {t:Option Expr} {n:Nat} {env:Env}:∀ {e:Expr},Bk e=some xs→swapsWith e t n env=pure false
 | .List es pos,h=>rfl
def Te (s:Stmt):Expr:=match s with | .Assign _ e _=>e | _=>.Constant .none 0 ⟨0,0,0,0⟩
def a1r (s:Stmt):Expr:=match s with | .Return (some e) _=>e | _=>.Constant .none 0 ⟨0,0,0,0⟩
def Q5 (s:Expr):Expr:=match s with | .BinOp _ _ e _=>e | _=>.Constant .none 0 ⟨0,0,0,0⟩
end
end L2
namespace L2
open PySem PySem.Spec PyProof.Rows
section
variable {X:Cx} {K:PySem.W.Frag}
end
end L2
namespace HT
open PySem PySem.Spec PyProof.Rows
section
variable {prog:Program} {w:World} {A:Around} {E:Value→Shared→Prop} {s:Shared}
end
end HT
namespace L2
open PySem PySem.Spec PyProof.Rows
section
variable {X:Cx} {K:PySem.W.Frag}
end
end L2
namespace L2
open PySem PySem.Spec PyProof.Rows
section
variable {X:Cx} {K:PySem.W.Frag}
variable {o e:Expr} {to:TE} {apos cpos:Pos}
def Q7 (K:PySem.W.Frag):R2:=fun x y H Q=>∃ a b xs,x=.ref a∧y=.ref b∧ck K H a xs∧ck K H b []∧Q (.bl (!decide (xs=[]))) H
theorem nR (hu:X.A.units < cLine):sy X (compareOp .NotEq) (Q7 X.K):=by
 intro pins s σ H x y v u Q I rx ry h
 obtain ⟨a,b,xs,rfl,rfl,ha,hb,q⟩:=h
 cases rx
 cases ry
 obtain ⟨us,r1,p1,_⟩:=I.list ha
 obtain ⟨vs,r2,p2,_⟩:=I.list hb
 cases r2
 have l1:=r1.length
 by_cases hx:xs=[]
 ·rw [decide_eq_true hx] at q
  subst hx
  cases r1
  exact SeqAt.RcNeAt.lists (A:=X.A) (e:=fun _=>true) p1.isList p2.isList rfl hu (fun j h1 h2=>absurd h2 (by simp)) _ _ _ _ ⟨.bl false,H,I,rfl,q⟩
 ·rw [decide_eq_false hx] at q
  have:us≠[]:=fun z=>hx (by rw [z] at l1;exact List.length_eq_zero_iff.mp l1)
  refine SeqAt.RcNeAt.lists_lengths (A:=X.A) p1.isList p2.isList ?_ hu _ _ _ _ ⟨.bl true,H,I,rfl,q⟩
  cases us with
  | nil=>exact absurd rfl this
  | cons _ _=>simp
end
end L2
namespace L2
open PySem PySem.Spec PyProof.Rows
section
variable {X:Cx} {e:Expr} {te:TE}
end
end L2
namespace Hw
open PySem L2
theorem uL {A:Around} {k n:Nat} (hr:dZ k A) (h:n≤60:=by decide):A.units+1+n < cLine:=by have:=hr.units;omega
theorem uN {A:Around} {k:Nat} (hr:dZ k A):A.units < cLine:=by have:=hr.units;omega
def Dr (H:Hp) (d:Addr):Prop:=∃ a b:Int,H d=some (.lst [.int a,.int b])
theorem Dr.same {H H':Hp} {d:Addr} (h:Dr H d) (s:aF H H'):Dr H' d:=let ⟨a,b,e⟩:=h;⟨a,b,s _ _ e⟩
def wj:Sp:=fun vs H Q _=>∃ c k:Int,vs=[.int c,.int k]∧∀ r:Int,0≤r→r < 2147483399→Q (.int r) H
def o7 (K:PySem.W.Frag):Sp:=fun vs H Q _=>∃ (a:Addr) (ns:List Int) (k:Nat),vs=[.ref a,.int k]∧ck K H a (ns.map V.int)∧∀ r:Int,Q (.int r) H
def eS:Sp:=fun vs H Q _=>∃ (d:Addr) (n:Int),vs=[.ref d,.int n]∧Dr H d∧0 < n∧∀ (r:Nat) (H':Hp),(r:Int) < n→bE d H H'→Dr H' d→Q (.int r) H'
def LW:List Str:=["helper","answers","needs","gives","end","let","div","mod","put","row","at","if","else"]
def LV:List Str:=["while","holds","falls","call","claim","and","or","not"]
def jc:List Str:=LW++LV
def zp:Sp:=fun vs H Q _=>vs=[]∧∀ (l:Addr) (H':Hp),aF H H'→H l=none→H' l=some (.lst (jc.map V.str))→Q (.ref l) H'
def eW (H:Hp) (r:Addr) (ts:Ps) (n:Int):Prop:=∃ t,H r=some (.tup [.ref t,.int n])∧Tp H t ts
theorem eW.same {H H':Hp} {r:Addr} {ts:Ps} {n:Int} (h:eW H r ts n) (s:aF H H'):eW H' r ts n:=let ⟨t,e,q⟩:=h;⟨t,s _ _ e,q.same s⟩
def Ga (K:PySem.W.Frag):Sp:=fun vs H Q _=>∃ (a:Addr) (ns:List Int),vs=[.ref a]∧ck K H a (ns.map V.int)∧ns.length≤63∧∀ H',Q (.bl true) H'
end Hw
namespace Hw
open PySem L2
def ya:Str:="abcdefghijklmnopqrstuvwxyz"
theorem O8:ya.cps.toList=(List.range 26).map (97+·):=by decide +kernel
theorem iO:ya.length≤sizeLine:=Nat.le_of_lt (line _ (by decide +kernel))
theorem Nv {r:Nat} (h:r < 26):Cm ya.cps.toList (r:Int)=some (97+r):=bN (by rw [O8,List.getElem?_map,List.getElem?_range h];rfl)
theorem jb (i:Int):Cm ya.cps.toList (i % 26)=some (97+(i % 26).toNat):=by
 have h0:=Int.emod_nonneg i (show (26:Int)≠0 by decide)
 have h1:=Int.emod_lt_of_pos i (show (0:Int) < 26 by decide)
 have e:i % 26=((i % 26).toNat:Int):=(Int.toNat_of_nonneg h0).symm
 have:=Nv (r:=(i % 26).toNat) (by omega)
 rw [← e] at this
 exact this
def nS:List Str:=["lets","ifs","order","rows","att","notes","calls","ends","outlet","bend","motor","modes"]
theorem HV:nS.length=12:=rfl
theorem HU (i:Int):∃ x,x∈nS∧Cm (nS.map V.str) (i % 12)=some (V.str x):=by
 have h0:=Int.emod_nonneg i (show (12:Int)≠0 by decide)
 have h1:=Int.emod_lt_of_pos i (show (0:Int) < 12 by decide)
 have e:i % 12=((i % 12).toNat:Int):=(Int.toNat_of_nonneg h0).symm
 have hl:(i % 12).toNat < nS.length:=by rw [HV];omega
 refine ⟨nS[(i % 12).toNat],List.getElem_mem hl,?_⟩
 have:=bN (xs:=nS.map V.str) (j:=(i % 12).toNat) (v:=V.str nS[(i % 12).toNat]) (by rw [List.getElem?_map,List.getElem?_eq_getElem hl];rfl)
 rw [← e] at this
 exact this
abbrev BJ (c:Nat):Str:=⟨#[c]⟩
def zw (a b:Nat):Str:=(("z":Str)++BJ a)++BJ b
theorem qB (a b:Str):(a++b).cps.toList=a.cps.toList++b.cps.toList:=PySem.W.KT.app_list a b
theorem lP (a b:Str):(a++b).length=a.length+b.length:=by
 have h:∀ x:Str,x.length=x.cps.toList.length:=fun x=>by simp [Str.length]
 rw [h,h,h,qB,List.length_append]
theorem zh (a b:Nat):(zw a b).cps.toList=[122,a,b]:=by
 unfold zw
 rw [qB,qB]
 rfl
theorem IZ (a b:Nat):(zw a b).length=3:=by
 unfold zw
 rw [lP,lP]
 rfl
theorem LU:∀ x∈jc,x.cps.toList.head?≠some 122:=by decide +kernel
theorem qN (a b:Nat):zw a b ∉ jc:=fun h=>LU _ h (by rw [zh];rfl)
def zt (k:Int) (t:Nat):Str:=zw (97+((t:Int) % 26).toNat) (97+((k+t) % 26).toNat)
theorem QF {k:Int} {s t:Nat} (hs:s < 26) (ht:t < 26) (h:zt k s=zt k t):s=t:=by
 have e:(zt k s).cps.toList=(zt k t).cps.toList:=by rw [h]
 unfold zt at e
 rw [zh,zh] at e
 have:=(List.cons.inj (List.cons.inj e).2).1
 omega
theorem Kh:∀ (n:Nat) (f:Nat→Str) (xs:List Str),(∀ s,s < n→f s∈xs)→(∀ s t,s < n→t < n→f s=f t→s=t)→n≤xs.length
 | 0,_,_,_,_=>Nat.zero_le _
 | n+1,f,xs,h,inj=>by
  have m:=h n (Nat.lt_succ_self n)
  have ih:=Kh n f (xs.erase (f n)) (fun s hs=>by
   have ne:f s≠f n:=fun e=>Nat.ne_of_lt hs (inj s n (Nat.lt_succ_of_lt hs) (Nat.lt_succ_self n) e)
   exact (List.mem_erase_of_ne ne).mpr (h s (Nat.lt_succ_of_lt hs))) fun s t hs ht=>inj s t (Nat.lt_succ_of_lt hs) (Nat.lt_succ_of_lt ht)
  rw [List.length_erase_of_mem m] at ih
  have:0 < xs.length:=List.length_pos_of_mem m
  omega
theorem Cp {k:Int} {xs:List Str} {n:Nat} (hn:n≤20) (h:∀ s,s < n→zt k (s+1)∈xs):n≤xs.length :=
 Kh n (fun s=>zt k (s+1)) xs h fun s t hs ht e=>by have:=QF (by omega) (by omega) e;omega
theorem jM (w:Str) (xs:List Str):tQ (.str w) (xs.map V.str)=decide (w∈xs):=by
 unfold tQ
 rw [List.any_map]
 by_cases h:w∈xs
 ·rw [decide_eq_true h,List.any_eq_true]
  exact ⟨w,h,by simp [BC]⟩
 ·rw [decide_eq_false h,List.any_eq_false]
  intro y hy
  simp only [Function.comp,BC,beq_iff_eq]
  intro e
  exact h (e ▸ hy)
theorem i0 (xs:List Str):(xs.map V.str).all mG=true:=by rw [List.all_map,List.all_eq_true];intro _ _;rfl
theorem Mq (ss:List Str) (h:∀ a∈ss,a.length=1):(Txt.join (Str.ofString "") ss).length=ss.length:=PySem.W.KT.join_ones ss h
def Hf (c:TT):Prop:=∀ σ H Q Q',(∀ b H1,Q b H1→Q' b H1)→c σ H Q→c σ H Q'
def Hg (c:TE):Prop:=∀ σ H (Q Q':VK),(∀ b H1,Q b H1→Q' b H1)→c σ H Q→c σ H Q'
theorem jJ (i:Nat):Hg (QT i):=fun σ H Q Q' f ⟨v,e,q⟩=>⟨v,e,f _ _ q⟩
theorem uT {E:XK}:Hg (FO zp [] E N8):=fun σ H Q Q' f ⟨e,q⟩=>⟨e,fun l H' a b c=>f _ _ (q l H' a b c)⟩
theorem qy {K:PySem.W.Frag} {ta tb:TE} (a:Hg ta) (b:Hg tb):Hf (PM (Uq (X7 K false) ta tb)):=fun σ H Q Q' f h =>
 a σ H _ _ (fun x H1 q=>b σ H1 _ _ (fun y H2 q=>let ⟨p,xs,h1,h2,h3,h4,k,h5,h6⟩:=q;⟨p,xs,h1,h2,h3,h4,k,h5,f _ _ h6⟩) q) h
theorem zZ {t u:TT} (a:Hf t) (b:Hf u):Hf (tOr t u):=fun σ H Q Q' f h =>
 a σ H _ _ (fun c H1 q=>by
  cases c with
  | true=>exact uY (f _ _ (by simpa using q))
  | false=>exact ia (b σ H1 Q Q' f (by simpa using q))) h
def XU (a b:Addr) (H H':Hp):Prop:=∀ c o,H c=some o→c≠a→c≠b→H' c=some o
theorem OI {n k:Nat} (h:k < n):OJ n (k:Int)=some k:=by
 unfold OJ
 rw [if_pos (by omega),if_pos (by omega)]
 simp
theorem AU:∀ ss:List Str,(∀ a∈ss,a.length=1)→(ss.map (·.length)).sum=ss.length
 | [],_=>rfl
 | a::r,h=>by
  rw [List.map_cons,List.sum_cons,AU r fun b hb=>h b (List.mem_cons_of_mem _ hb),List.length_cons,h a (List.mem_cons_self ..)]
  omega
theorem bE.free {d l:Addr} {H H':Hp} (b:bE d H H') (h:H' l=none) (n:l≠d):H l=none:=by
 cases q:H l with
 | none=>rfl
 | some o=>rw [b l o q n] at h;cases h
theorem Dr.ne {H:Hp} {d l:Addr} (h:Dr H d) (n:H l=none):l≠d:=let ⟨_,_,e⟩:=h;(aB e n).symm
def RQ:St→Hp→Nat:=fun σ _=>match (σ[12]?:Option (Option V)) with
 | some (some (V.int t))=>20 - t.toNat
 | _=>0
end Hw
namespace Hw
open PySem L2
theorem e9:(10:Int) ^ Int.toNat 9=1000000000:=by decide
theorem jE {xs:List Str} {r:Nat} (h:r < xs.length):(xs.map V.str)[r]?=some (V.str xs[r]):=by rw [List.getElem?_map,List.getElem?_eq_getElem h];rfl
end Hw
namespace Hw
open PySem L2
section
variable {C:Addr} {H H':Hp} {tl pq q0 q1 hq du u0 u1 sl sa sb:Addr} {xs:List Str} {ps0 t0 t1:Ps} {h0 h1:Int}
end
theorem bB {α β:Type} {F:α→β→Prop}:∀ {xs:List α} {ys:List β} {a:α} {b:β},Paired F xs ys→F a b→Paired F (xs++[a]) (ys++[b])
 | _,_,_,_,.nil,h=>.cons h .nil
 | _,_,_,_,.cons r t,h=>.cons r (bB t h)
def pk {α:Type} (i:Nat) (a b:α):α:=match i with | 0=>a | _=>b
end Hw
namespace Hw
open PySem L2
abbrev cp (x:Str):List Nat:=x.cps.toList
theorem GV:∀ ss:List Str,cp (Str.join (Str.ofString "") ss)=(ss.map cp).flatten
 | []=>rfl
 | [x]=>by simp [Str.join]
 | x::y::r=>by
  show cp (x++Str.ofString ""++Str.join (Str.ofString "") (y::r))=_
  rw [cp,qB,qB]
  have ih:=GV (y::r)
  rw [show (Str.join (Str.ofString "") (y::r)).cps.toList=cp (Str.join (Str.ofString "") (y::r)) from rfl,ih]
  have z:(Str.ofString "").cps.toList=[]:=by decide
  rw [z,List.append_nil]
  rfl
theorem Fp (ss:List Str):cp (Txt.join (Str.ofString "") ss)=(ss.map cp).flatten:=by
 show cp (Builtin.Str.glued (Str.ofString "") ss)=_
 rw [StrLaws.glued_eq_join]
 exact GV ss
def Small (i:Int):Prop:=-(2 ^ 60) < i∧i < 2 ^ 60
def Short (ts:Ps):Prop:=ts.length≤20∧∀ p∈ts,Small p.2∧p.1.length≤100
end Hw
namespace Hw
open PySem L2
theorem bH {α β:Type} {F:α→β→Prop}:∀ {vs:List α} {ps:List β},Paired F vs ps→∀ {i:Nat} {v:α},vs[i]?=some v→∃ p,ps[i]?=some p∧F v p
 | _,_,.nil,_,_,e=>by simp at e
 | _,_,.cons r t,0,_,e=>by simp at e;subst e;exact ⟨_,rfl,r⟩
 | _,_,.cons r t,i+1,_,e=>bH t (i:=i) (by simpa using e)
structure Tb (e:Ps):Prop where
 nd:(keys e).Nodup
 ok:∀ p∈e,p.2≠0∧Small p.2∧p.1.length≤100
theorem Tb.nil:Tb []:=⟨.nil,fun _ h=>nomatch h⟩
theorem Gj {e:Ps} {t:Str} {n:Int} {p:Str×Int} (h:p∈put e t n):p∈e∨p=(t,n):=by
 unfold Hw.put at h
 split at h
 ·obtain ⟨q,hq,e⟩:=List.mem_map.mp h
  split at e
  ·rename_i z
   rw [← e,z];exact .inr rfl
  ·rw [← e];exact .inl hq
 ·rcases List.mem_append.mp h with z | z
  ·exact .inl z
  ·exact .inr (List.mem_singleton.mp z)
theorem Tb.put {e:Ps} {t:Str} {n:Int} (h:Tb e) (hn:n≠0) (hs:Small n) (ht:t.length≤100):Tb (put e t n) :=
 ⟨yT h.nd,fun p hp=>(Gj hp).elim (h.ok p) fun z=>z ▸ ⟨hn,hs,ht⟩⟩
theorem get_mem:∀ {e:Ps} {t:Str},t∈keys e→(t,get e t)∈e
 | p::r,t,h=>by
  rw [mF]
  by_cases z:p.1=t
  ·rw [if_pos z,← z];exact List.mem_cons_self ..
  ·rw [if_neg z]
   exact List.mem_cons_of_mem _ (get_mem ((List.mem_cons.mp h).resolve_left fun q=>z q.symm))
theorem Tb.canon {e:Ps} {ys:List Str} (h:Tb e) (hp:ys.Perm (keys e)) (hs:ys.Pairwise fun a b=>lt b a=false):Canon (ys.map fun t=>(t,get e t)):=by
 have nd:ys.Nodup:=hp.nodup_iff.mpr h.nd
 refine ⟨?_,fun p hq=>?_⟩
 ·rw [List.pairwise_map]
  refine (hs.and nd).imp fun {a b} q=>?_
  rcases xH a b with e | e | e
  ·exact e
  ·exact absurd e q.2
  ·rw [q.1] at e;cases e
 ·obtain ⟨t,ht,rfl⟩:=List.mem_map.mp hq
  exact (h.ok _ (get_mem (hp.mem_iff.mp ht))).1
theorem Tb.short {e:Ps} {ys:List Str} (h:Tb e) (hp:ys.Perm (keys e)) (hl:e.length≤20):Short (ys.map fun t=>(t,get e t)):=by
 refine ⟨?_,fun p hq=>?_⟩
 ·rw [List.length_map,hp.length_eq]
  unfold keys
  rw [List.length_map]
  exact hl
 ·obtain ⟨t,ht,rfl⟩:=List.mem_map.mp hq
  exact (h.ok _ (get_mem (hp.mem_iff.mp ht))).2
end Hw
namespace Hw
open PySem L2
abbrev Sb:=List (Str×Ps×Int)
theorem Gu {K:PySem.W.Frag} {H:Hp}:∀ {n:Nat} {x y:V},j4 K H n x y→j4 K H (n+1) x y
 | 0,_,_,h=>.inl h
 | n+1,_,_,h=>by
  rcases h with h | ⟨a,b,xs,ys,e1,e2,h,p⟩
  ·exact .inl h
  ·exact .inr ⟨a,b,xs,ys,e1,e2,h,L2.Paired.dg p fun _ _ z=>Gu z⟩
theorem Ii {K:PySem.W.Frag} {H:Hp} {a b:Addr} {ts:Ps} {n:Int} (h:eW H a ts n) (h':eW H b ts n):∃ xs ys,aV K H a xs∧aV K H b ys∧Paired (j4 K H 2) xs ys:=by
 obtain ⟨t,e,vs,et,r⟩:=h
 obtain ⟨t',e',vs',et',r'⟩:=h'
 exact ⟨_,_,aV.of e,aV.of e',.cons (.inr ⟨t,t',vs,vs',rfl,rfl,.inr ⟨aV.of et,aV.of et'⟩,Ba r r'⟩) (.cons (.inl ⟨rfl,rfl⟩) .nil)⟩
theorem gW {K:PySem.W.Frag} {H:Hp} {a b:Addr} {ts:Ps} {n:Int} (h:eW H a ts n) (h':eW H b ts n):j4 K H 3 (.ref a) (.ref b):=by
 obtain ⟨xs,ys,h1,h2,p⟩:=Ii (K:=K) h h'
 exact .inr ⟨a,b,xs,ys,rfl,rfl,.inr ⟨h1,h2⟩,p⟩
theorem Q3 {r:Nat} (hr:r < 7):∃ z:Int,([V.int 0,.int 1,.int 1,.int 1,.int 2,.int 2,.int 3]:List V)[r]?=some (V.int z)∧0≤z∧z≤3 :=
 match r,hr with
 | 0,_=>⟨_,rfl,by decide,by decide⟩ | 1,_=>⟨_,rfl,by decide,by decide⟩ | 2,_=>⟨_,rfl,by decide,by decide⟩ | 3,_=>⟨_,rfl,by decide,by decide⟩ | 4,_=>⟨_,rfl,by decide,by decide⟩ | 5,_=>⟨_,rfl,by decide,by decide⟩ | 6,_=>⟨_,rfl,by decide,by decide⟩
theorem SI {r:Nat} (hr:r < 8):∃ z,([V.int 1,.int 1,.int 1,.int (-1),.int (-1),.int 2,.int (-3),.int 17]:List V)[r]?=some (V.int z)∧z≠0∧Small z :=
 match r,hr with
 | 0,_=>⟨_,rfl,by decide,by decide,by decide⟩ | 1,_=>⟨_,rfl,by decide,by decide,by decide⟩ | 2,_=>⟨_,rfl,by decide,by decide,by decide⟩ | 3,_=>⟨_,rfl,by decide,by decide,by decide⟩
 | 4,_=>⟨_,rfl,by decide,by decide,by decide⟩ | 5,_=>⟨_,rfl,by decide,by decide,by decide⟩ | 6,_=>⟨_,rfl,by decide,by decide,by decide⟩ | 7,_=>⟨_,rfl,by decide,by decide,by decide⟩
theorem a1m {a b:Int} (ha:Small a) (hb:Small b) (i:Int):∃ z,Cm ([V.int 0,.int 0,.int 1,.int (-1),.int a,.int b]:List V) (i % 6)=some (V.int z)∧Small z:=by
 have h:i % 6=0∨i % 6=1∨i % 6=2∨i % 6=3∨i % 6=4∨i % 6=5:=by omega
 rcases h with h | h | h | h | h | h <;> rw [h]
 ·exact ⟨_,rfl,by decide,by decide⟩
 ·exact ⟨_,rfl,by decide,by decide⟩
 ·exact ⟨_,rfl,by decide,by decide⟩
 ·exact ⟨_,rfl,by decide,by decide⟩
 ·exact ⟨_,rfl,ha⟩
 ·exact ⟨_,rfl,hb⟩
def Lt3 (ts:Ps):Prop:=ts.length≤3∧∀ p∈ts,Small p.2
def ly (C:Addr):Sp:=fun vs H Q _=>∃ (p:Addr) (ts:Ps) (n:Int),vs=[.ref p]∧mO C H p ts n∧∀ (r:Addr) (H':Hp),aF H H'→eW H' r ts n→Q (.ref r) H'
end Hw
namespace Hw
open PySem L2
structure Tf (o:HO):Prop where
 t:∀ xs,o≠.tup xs
 i:∀ C dx fs,o≠.ins C dx fs
theorem zx {xs:List V}:Tf (.lst xs):=⟨fun _ z=>(by cases z),fun _ _ _ z=>(by cases z)⟩
section
variable {H H':Hp} {z:Addr} {o:HO}
theorem bE.tupS (b:bE z H H') (hz:H z=some o) (so:Tf o):∀ a xs,H a=some (.tup xs)→H' a=some (.tup xs):=fun a xs e=>b a _ e fun q=>by rw [q,hz] at e;exact so.t xs (Option.some.inj e)
end
section
variable {H0 H H':Hp} {d tl ro:Addr} {xs:List Str} {t0:Ps} {n0:Int}
end
end Hw
namespace Hw
open PySem L2
inductive Cd where
 | cmp (a:Ps) (n:Int) (s:Str) (b:Ps) (m:Int)
 | neg (c:Cd)
 | con (k:Bool) (cs:List Cd)
mutual
def Cd.dep:Cd→Nat
 | .cmp ..=>1
 | .neg c=>c.dep+1
 | .con _ cs=>tV cs+1
def tV:List Cd→Nat
 | []=>0
 | c::cs=>max c.dep (tV cs)
end
theorem wC {c:Cd}:∀ {cs:List Cd},c∈cs→c.dep≤tV cs
 | a::r,h=>by
  unfold tV
  rcases List.mem_cons.mp h with e | e
  ·rw [e];exact Nat.le_max_left _ _
  ·exact Nat.le_trans (wC e) (Nat.le_max_right _ _)
theorem GO (c:Cd):1≤c.dep:=by cases c <;> simp [Cd.dep]
def IJ (k:Bool):Str:=if k then "and" else "or"
mutual
def bg (H:Hp):Cd→V→Prop
 | .cmp a n s b m,v=>∃ r u w,v=.ref r∧H r=some (.tup [.str "compare",.ref u,.str s,.ref w])∧eW H u a n∧eW H w b m
 | .neg c,v=>∃ r u,v=.ref r∧H r=some (.tup [.str "not",u])∧bg H c u
 | .con k cs,v=>∃ r us,v=.ref r∧H r=some (.tup (.str (IJ k)::us))∧dY H cs us
def dY (H:Hp):List Cd→List V→Prop
 | [],us=>us=[]
 | c::cs,us=>∃ u r,us=u::r∧bg H c u∧dY H cs r
end
structure Cz where
 s:Addr
 c:Addr
 t:Addr
 e:Addr
 o:Addr
def tX (u:Addr) (s:Str) (w:Addr):List (Str×V):=bw "other" (.ref w) (bw "sign" (.str s) (bw "one" (.ref u) []))
def AS (u:V):List (Str×V):=bw "condition" u []
def wK (t:Addr):List (Str×V):=bw "conditions" (.ref t) []
mutual
def cP (Z:Cz) (H:Hp):Cd→V→Prop
 | .cmp a n s b m,v=>∃ p dx u w,v=.ref p∧H p=some (.ins Z.c dx (tX u s w))∧mO Z.s H u a n∧mO Z.s H w b m
 | .neg c,v=>∃ p dx u,v=.ref p∧H p=some (.ins Z.t dx (AS u))∧cP Z H c u
 | .con k cs,v=>∃ p dx t us,v=.ref p∧H p=some (.ins (if k then Z.e else Z.o) dx (wK t))∧H t=some (.tup us)∧us.length≤1000∧gj Z H cs us
def gj (Z:Cz) (H:Hp):List Cd→List V→Prop
 | [],us=>us=[]
 | c::cs,us=>∃ u r,us=u::r∧cP Z H c u∧gj Z H cs r
end
structure av (H H':Hp):Prop where
 t:∀ a xs,H a=some (.tup xs)→H' a=some (.tup xs)
 i:∀ a C dx fs,H a=some (.ins C dx fs)→H' a=some (.ins C dx fs)
theorem av.of {H H':Hp} (s:aF H H'):av H H':=⟨fun _ _ e=>s _ _ e,fun _ _ _ _ e=>s _ _ e⟩
theorem av.soft {H H':Hp} {z:Addr} {o:HO} (b:bE z H H') (hz:H z=some o) (so:Tf o):av H H' :=
 ⟨b.tupS hz so,fun a C dx fs e=>b _ _ e fun q=>by rw [q,hz] at e;exact so.i _ _ _ (Option.some.inj e)⟩
theorem eW.ao {H H':Hp} {r:Addr} {ts:Ps} {n:Int} (h:eW H r ts n) (k:av H H'):eW H' r ts n:=let ⟨t,e,vs,et,r⟩:=h;⟨t,k.t _ _ e,vs,k.t _ _ et,r.keep k.t⟩
theorem mO.ao {H H':Hp} {C p:Addr} {ts:Ps} {n:Int} (h:mO C H p ts n) (k:av H H'):mO C H' p ts n:=let ⟨dx,t,e,⟨vs,et,r⟩,l⟩:=h;⟨dx,t,k.i _ _ _ _ e,⟨vs,k.t _ _ et,r.keep k.t⟩,l⟩
mutual
theorem bg.ao {H H':Hp} (k:av H H'):∀ {c:Cd} {v:V},bg H c v→bg H' c v
 | .cmp a n s b m,v,h=>by
  unfold bg at h ⊢
  obtain ⟨r,u,w,e,er,d1,d2⟩:=h
  exact ⟨r,u,w,e,k.t _ _ er,d1.ao k,d2.ao k⟩
 | .neg c,v,h=>by
  unfold bg at h ⊢
  obtain ⟨r,u,e,er,d⟩:=h
  exact ⟨r,u,e,k.t _ _ er,bg.ao k d⟩
 | .con b cs,v,h=>by
  unfold bg at h ⊢
  obtain ⟨r,us,e,er,d⟩:=h
  exact ⟨r,us,e,k.t _ _ er,dY.ao k d⟩
theorem dY.ao {H H':Hp} (k:av H H'):∀ {cs:List Cd} {us:List V},dY H cs us→dY H' cs us
 | [],us,h=>by unfold dY at h ⊢;exact h
 | c::cs,us,h=>by
  unfold dY at h ⊢
  obtain ⟨u,r,e,d1,d2⟩:=h
  exact ⟨u,r,e,bg.ao k d1,dY.ao k d2⟩
end
mutual
theorem cP.ao {Z:Cz} {H H':Hp} (k:av H H'):∀ {c:Cd} {v:V},cP Z H c v→cP Z H' c v
 | .cmp a n s b m,v,h=>by
  unfold cP at h ⊢
  obtain ⟨p,dx,u,w,e,ep,d1,d2⟩:=h
  exact ⟨p,dx,u,w,e,k.i _ _ _ _ ep,d1.ao k,d2.ao k⟩
 | .neg c,v,h=>by
  unfold cP at h ⊢
  obtain ⟨p,dx,u,e,ep,d⟩:=h
  exact ⟨p,dx,u,e,k.i _ _ _ _ ep,cP.ao k d⟩
 | .con b cs,v,h=>by
  unfold cP at h ⊢
  obtain ⟨p,dx,t,us,e,ep,et,l,d⟩:=h
  exact ⟨p,dx,t,us,e,k.i _ _ _ _ ep,k.t _ _ et,l,gj.ao k d⟩
theorem gj.ao {Z:Cz} {H H':Hp} (k:av H H'):∀ {cs:List Cd} {us:List V},gj Z H cs us→gj Z H' cs us
 | [],us,h=>by unfold gj at h ⊢;exact h
 | c::cs,us,h=>by
  unfold gj at h ⊢
  obtain ⟨u,r,e,d1,d2⟩:=h
  exact ⟨u,r,e,cP.ao k d1,gj.ao k d2⟩
end
theorem cL {H:Hp}:∀ {cs:List Cd} {us:List V},dY H cs us↔Paired (fun u c=>bg H c u) us cs
 | [],us=>by
  unfold dY
  exact ⟨fun e=>e ▸ .nil,fun h=>by cases h;rfl⟩
 | c::cs,us=>by
  unfold dY
  constructor
  ·rintro ⟨u,r,rfl,d1,d2⟩
   exact .cons d1 (cL.mp d2)
  ·intro h
   cases h with
   | cons d1 d2=>exact ⟨_,_,rfl,d1,cL.mpr d2⟩
theorem dO {Z:Cz} {H:Hp}:∀ {cs:List Cd} {us:List V},gj Z H cs us↔Paired (fun u c=>cP Z H c u) us cs
 | [],us=>by
  unfold gj
  exact ⟨fun e=>e ▸ .nil,fun h=>by cases h;rfl⟩
 | c::cs,us=>by
  unfold gj
  constructor
  ·rintro ⟨u,r,rfl,d1,d2⟩
   exact .cons d1 (dO.mp d2)
  ·intro h
   cases h with
   | cons d1 d2=>exact ⟨_,_,rfl,d1,dO.mpr d2⟩
theorem cu {K:PySem.W.Frag} {H:Hp} {n m:Nat} {x y:V} (h:j4 K H n x y) (l:n≤m):j4 K H m x y:=by
 induction l with
 | refl=>exact h
 | step _ ih=>exact Gu ih
mutual
theorem jy {K:PySem.W.Frag} {H:Hp}:∀ {c:Cd} {x y:V},bg H c x→bg H c y→j4 K H (c.dep+3) x y
 | .cmp a n s b m,x,y,h,g=>by
  unfold bg at h g
  obtain ⟨r,u,w,rfl,er,d1,d2⟩:=h
  obtain ⟨r',u',w',rfl,nZ,O1,Wd⟩:=g
  exact .inr ⟨r,r',_,_,rfl,rfl,.inr ⟨aV.of er,aV.of nZ⟩,.cons (.inl ⟨rfl,rfl⟩) (.cons (gW d1 O1) (.cons (.inl ⟨rfl,rfl⟩) (.cons (gW d2 Wd) .nil)))⟩
 | .neg c,x,y,h,g=>by
  unfold bg at h g
  obtain ⟨r,u,rfl,er,d⟩:=h
  obtain ⟨r',u',rfl,nZ,d'⟩:=g
  have e:(Cd.neg c).dep+3=(c.dep+3)+1:=by simp [Cd.dep]
  rw [e]
  exact .inr ⟨r,r',_,_,rfl,rfl,.inr ⟨aV.of er,aV.of nZ⟩,.cons (cu (n:=0) ⟨rfl,rfl⟩ (Nat.zero_le _)) (.cons (jy d d') .nil)⟩
 | .con k cs,x,y,h,g=>by
  unfold bg at h g
  obtain ⟨r,us,rfl,er,d⟩:=h
  obtain ⟨r',us',rfl,nZ,d'⟩:=g
  have e:(Cd.con k cs).dep+3=(tV cs+3)+1:=by simp [Cd.dep]
  rw [e]
  exact .inr ⟨r,r',_,_,rfl,rfl,.inr ⟨aV.of er,aV.of nZ⟩,.cons (cu (n:=0) ⟨rfl,rfl⟩ (Nat.zero_le _)) (wM (Nat.le_refl _) d d')⟩
theorem wM {K:PySem.W.Frag} {H:Hp} {n:Nat}:∀ {cs:List Cd} {xs ys:List V},tV cs≤n→dY H cs xs→dY H cs ys→Paired (j4 K H (n+3)) xs ys
 | [],xs,ys,_,h,g=>by
  unfold dY at h g
  subst h g
  exact .nil
 | c::cs,xs,ys,l,h,g=>by
  unfold dY at h g
  obtain ⟨u,r,rfl,d1,d2⟩:=h
  obtain ⟨u',r',rfl,O1,Wd⟩:=g
  unfold tV at l
  exact .cons (cu (jy d1 O1) (by omega)) (wM (by omega) d2 Wd)
end
def signs:List Str:=["<","<=","=","!=",">=",">"]
end Hw
namespace Hw
open PySem L2
def UB:Cd→Nat
 | .cmp ..=>0
 | .neg _=>1
 | .con true _=>2
 | .con false _=>3
def qK (Z:Cz):Nat→Addr
 | 0=>Z.c
 | 1=>Z.t
 | 2=>Z.e
 | _=>Z.o
structure fB (K:PySem.W.Frag) (mg:Str→Option Value) (Z:Cz):Prop where
 cl:∀ j,j < 4→AL K (qK Z j)
 n1:iz K Z.c "one"
 n2:iz K Z.c "sign"
 n3:iz K Z.c "other"
 n4:iz K Z.t "condition"
 n5:iz K Z.e "conditions"
 n6:iz K Z.o "conditions"
 mgC:mg "Compare"=some (.ref Z.c)
 mgT:mg "Turned"=some (.ref Z.t)
 mgE:mg "Every"=some (.ref Z.e)
 mgO:mg "Some"=some (.ref Z.o)
 all:mg "all"=none
 any:mg "any"=none
theorem U6 (u:Addr) (s:Str) (w:Addr):(tX u s w).lookup ("one":Str)=some (.ref u):=by
 unfold tX;rw [bM,if_neg (by decide +kernel),bM,if_neg (by decide +kernel),bM,if_pos rfl]
theorem U5 (u:Addr) (s:Str) (w:Addr):(tX u s w).lookup ("sign":Str)=some (.str s):=by
 unfold tX;rw [bM,if_neg (by decide +kernel),bM,if_pos rfl]
theorem U4 (u:Addr) (s:Str) (w:Addr):(tX u s w).lookup ("other":Str)=some (.ref w):=by
 unfold tX;rw [bM,if_pos rfl]
theorem a5s (u:V):(AS u).lookup ("condition":Str)=some u:=by unfold AS;rw [bM,if_pos rfl]
theorem U3 (t:Addr):(wK t).lookup ("conditions":Str)=some (.ref t):=by unfold wK;rw [bM,if_pos rfl]
structure NoF (m:Str):Prop where
 a:¬ m="one"
 b:¬ m="sign"
 c:¬ m="other"
 d:¬ m="condition"
 e:¬ m="conditions"
theorem Nl {Z:Cz} {H:Hp} {c:Cd} {p:Addr} (h:cP Z H c (.ref p)) {m:Str} (nf:NoF m):∃ dx fs,H p=some (.ins (qK Z (UB c)) dx fs)∧fs.lookup m=none:=by
 cases c with
 | cmp a n s b m' =>
  unfold cP at h
  obtain ⟨q,dx,u,w,e,ep,_⟩:=h
  cases e
  refine ⟨dx,_,ep,?_⟩
  unfold tX
  rw [bM,if_neg nf.c,bM,if_neg nf.b,bM,if_neg nf.a]
  rfl
 | neg c =>
  unfold cP at h
  obtain ⟨q,dx,u,e,ep,_⟩:=h
  cases e
  refine ⟨dx,_,ep,?_⟩
  unfold AS
  rw [bM,if_neg nf.d]
  rfl
 | con k cs =>
  unfold cP at h
  obtain ⟨q,dx,t,us,e,ep,_⟩:=h
  cases e
  cases k <;> exact ⟨dx,_,ep,by unfold wK;rw [bM,if_neg nf.e];rfl⟩
theorem JB (c:Cd):UB c < 4:=by
 cases c with
 | cmp=>show 0 < 4;decide
 | neg=>show 1 < 4;decide
 | con k cs=>cases k <;> (first | (show 2 < 4;decide) | (show 3 < 4;decide))
def M4 (P:Program) (w:World) (K:PySem.W.Frag) (mg:Str→Option Value) (base:Heap) (k:Nat) (Z:Cz) (m:Str) (ps:List Str) (sp:Nat→Sp):Prop:=∀ j,j < 4→Mt P w K mg base k (qK Z j) m ps (sp j)
end Hw
namespace L2
open PySem PySem.Spec PyProof.Rows Hw
section
variable {X:Cx} {k:Nat} {m:Str} {pos apos:Pos} {o e:Expr} {es:List Expr} {ta:TE} {t:TA} {Z:Cz} {ps:List Str} {sp:Nat→Sp}
def a0h (Z:Cz) (sp:Nat→Sp) (ta:TE):TE:=fun σ H Q=>ta σ H fun x H1=>∃ p c,x=.ref p∧cP Z H1 c (.ref p)∧sp (UB c) [.ref p] H1 Q E0
theorem jI {pl:Sem Bool} (he:PE X o ta) (cl:∀ j,j < 4→AL X.K (qK Z j)) (nf:NoF m) (M:M4 X.prog X.w X.K X.mg X.base k Z m ps sp) (hr:dZ k X.A) (hx:Passes dX X E0)
  (ht:eval (.Call (.Attribute o m apos) [] [] pos) X.env=(do
   let ov ← eval o X.env
   standAt apos.atName
   let (f,first) ← holding [ov] (getMethod ov m pl)
   callWith pos f first (backTo pos (starEach [] X.env)) (backToKw pos (keywordEach [] X.env))):=by rfl) :
  PE X (.Call (.Attribute o m apos) [] [] pos) (a0h Z sp ta):=by
 intro pins s σ H Q I h
 refine PySem.W.methodCall_KW (pl:=pl) (gZ (he pins s σ H _ I h) fun u s1 ⟨x,H1,I1,rx,a,c,ex,hc,q⟩=>?_) ht
 subst ex
 obtain rfl:u=Value.ref a:=rx
 obtain ⟨dx,fs,ea,l⟩:=Nl hc nf
 obtain ⟨f,fd,F,hm,hb⟩:=M (UB c) (JB c)
 refine oM I1 ea (cl _ (JB c)) hm l ?_
 exact PySem.W.callWith_K0 (first:=[.ref a]) I1.qJ hm.kp (qY (us:=[.ref a]) (vs:=[.ref a]) F hr hb .nil hx I1 (.cons rfl .nil) q)
end
end L2
namespace Hw
open PySem L2
theorem u6 {P:Program} {w:World} {K:PySem.W.Frag} {mg:Str→Option Value} {base:Heap} {k:Nat} {f:Addr} {fd:FuncData} {ps:List Str} {sp:Sp} (h:∀ vs H Q E,¬ sp vs H Q E):bT P w K mg base dX k f fd ps sp :=
 ⟨fun vs H Q E z=>(h vs H Q E z).elim,fun A outer s H args us vs Q E _ _ _ _ z=>(h vs H Q E z).elim⟩
def wm (Z:Cz):Sp:=fun vs H Q _=>∃ (p dx u w:Addr) (s:Str),vs=[.ref p,.ref u,.str s,.ref w]∧H p=some (.ins Z.c dx [])∧∀ H',bE p H H'→H' p=some (.ins Z.c dx (tX u s w))→Q .eT H'
def wg (Z:Cz):Sp:=fun vs H Q _=>∃ (p dx:Addr) (u:V),vs=[.ref p,u]∧H p=some (.ins Z.t dx [])∧∀ H',bE p H H'→H' p=some (.ins Z.t dx (AS u))→Q .eT H'
def mT (D:Addr):Sp:=fun vs H Q _=>∃ (p dx l:Addr) (us:List V),vs=[.ref p,.ref l]∧H p=some (.ins D dx [])∧H l=some (.lst us)∧∀ (t:Addr) (H':Hp),bE p H H'→H' p=some (.ins D dx (wK t))→H' t=some (.tup us)→Q .eT H'
def dJ (Z:Cz) (n:Nat):Nat→Sp:=fun j vs H Q _=>∃ (p:Addr) (c:Cd),vs=[.ref p]∧UB c=j∧cP Z H c (.ref p)∧c.dep≤n∧∀ (v:V) (H':Hp),aF H H'→bg H' c v→Q v H'
end Hw
namespace Hw
open PySem L2
theorem iN:NoF "told":=⟨by decide +kernel,by decide +kernel,by decide +kernel,by decide +kernel,by decide +kernel⟩
theorem gA {Z:Cz} {H:Hp} {c:Cd} {v:V} (h:cP Z H c v):∃ p,v=.ref p:=by
 cases c <;> (unfold cP at h;obtain ⟨p,h⟩:=h)
 ·obtain ⟨_,_,_,e,_⟩:=h;exact ⟨p,e⟩
 ·obtain ⟨_,_,e,_⟩:=h;exact ⟨p,e⟩
 ·obtain ⟨_,_,_,e,_⟩:=h;exact ⟨p,e⟩
theorem aA {α β:Type} {R:α→β→Prop}:∀ {xs:List α} {ys:List β},Paired R xs ys→xs.length=ys.length
 | _,_,.nil=>rfl
 | _,_,.cons _ t=>congrArg (·+1) (aA t)
end Hw
namespace L2
open PySem PySem.Spec PyProof.Rows Hw
section
variable {X:Cx} {K:PySem.W.Frag}
end
end L2
namespace Hw
open PySem L2
theorem dF {p:Prop} [Decidable p] {F G:Prop} (h:p) (f:F):if decide p=true then F else G:=by rw [if_pos (decide_eq_true h)];exact f
theorem bJ {p:Prop} [Decidable p] {F G:Prop} (h:¬ p) (f:G):if decide p=true then F else G:=by rw [if_neg (by simpa using h)];exact f
theorem bL {s t:Str} (h:¬ s=t):¬ V.str s=V.str t:=fun e=>h (V.str.inj e)
end Hw
namespace Hw
open PySem L2
theorem cT {H:Hp} {x dx:Addr} {o o':HO} (hx:H x=none) (hdx:H dx=none):aF H (upd (upd H dx o) x o'):=fun b u z=>by
 rw [aX (aB z hx),aX (aB z hdx)]
 exact z
end Hw
namespace Hw
open PySem L2
def Gs (xs:List Str) (a:Ps) (n:Int):Prop:=Canon a∧Lt3 a∧(∀ p∈a,p.1∈xs)∧Small n
mutual
def Gd (xs:List Str):Cd→Prop
 | .cmp a n s b m=>Gs xs a n∧s∈signs∧Gs xs b m
 | .neg c=>Gd xs c
 | .con _ cs=>cs.length≤3∧IB xs cs
def IB (xs:List Str):List Cd→Prop
 | []=>True
 | c::cs=>Gd xs c∧IB xs cs
end
theorem Bt {xs:List Str} {c:Cd}:∀ {cs:List Cd},IB xs cs→Gd xs c→IB xs (cs++[c])
 | [],_,h=>by unfold IB;exact ⟨h,by unfold IB;trivial⟩
 | a::r,g,h=>by
  unfold IB at g
  show IB xs (a::(r++[c]))
  unfold IB
  exact ⟨g.1,Bt g.2 h⟩
theorem GI {xs:List Str} {c:Cd}:∀ {cs:List Cd},IB xs cs→c∈cs→Gd xs c
 | a::r,h,m=>by
  unfold IB at h
  rcases List.mem_cons.mp m with e | e
  ·rw [e];exact h.1
  ·exact GI h.2 e
theorem za (c:Cd):∀ cs:List Cd,tV (cs++[c])=max (tV cs) c.dep
 | []=>by show max c.dep (tV [])=max (tV []) c.dep;exact Nat.max_comm _ _
 | a::r=>by
  show max a.dep (tV (r++[c]))=_
  rw [za c r]
  conv=>rhs;unfold tV
  omega
theorem signs_at {r:Nat} (h:r < 6):∃ s,(signs.map V.str)[r]?=some (V.str s)∧s∈signs:=by
 have e:r < signs.length:=h
 refine ⟨signs[r],?_,List.getElem_mem e⟩
 rw [List.getElem?_map,List.getElem?_eq_getElem e]
 rfl
theorem Dr.soft {H H':Hp} {d:Addr} (h:Dr H d) (b:bE d H H'):av H H':=let ⟨x,y,e⟩:=h;av.soft b e zx
end Hw
namespace Hw
open PySem L2
theorem Rj (i:Int):∃ b,Cm ([V.str "and",.str "or"]:List V) (i % 2)=some (V.str (IJ b)):=by
 have h:i % 2=0∨i % 2=1:=by omega
 rcases h with h | h <;> rw [h]
 ·exact ⟨true,rfl⟩
 ·exact ⟨false,rfl⟩
end Hw
namespace Hw
open PySem L2
theorem ifT {b:Bool} {F G:Prop} (h:b=true) (f:F):if b=true then F else G:=by rw [if_pos h];exact f
theorem ifF {b:Bool} {F G:Prop} (h:b=false) (g:G):if b=true then F else G:=by rw [h];exact ia g
theorem SY (x:V) (us:List V):oR (x::us) (some 1) none=us:=by
 unfold oR
 have e1:HT.jt (x::us).length 0 (some 1)=1:=by
  have:=HT.oA (x::us).length 0 1
  rw [show (some (1:Int))=some ((1:Nat):Int) from rfl,this]
  show min 1 (us.length+1)=1
  omega
 have e2:HT.jt (x::us).length (x::us).length none=us.length+1:=rfl
 rw [e1,e2]
 show us.take (us.length+1 - 1)=us
 rw [show us.length+1 - 1=us.length by omega,List.take_length]
theorem Nj (x:V) (us:List V):¬ (HT.jt (x::us).length 0 (some 1)=0∧HT.jt (x::us).length (x::us).length none=(x::us).length):=by
 have e1:HT.jt (x::us).length 0 (some 1)=1:=by
  have:=HT.oA (x::us).length 0 1
  rw [show (some (1:Int))=some ((1:Nat):Int) from rfl,this]
  show min 1 (us.length+1)=1
  omega
 rw [e1]
 intro h
 exact absurd h.1 (by decide)
theorem Cn (x:V) (us:List V):Cm (x::us) (0:Int)=some x:=bN (j:=0) rfl
end Hw
namespace L2
open PySem PySem.Spec PyProof.Rows Hw
section
variable {X:Cx} {x:Str} {D:Addr} {kvs:List (Key×V)} {i:Expr} {ty:TE} {p pos:Pos}
end
end L2
namespace Hw
open PySem L2
end Hw
namespace Hw
open PySem L2
end Hw
namespace L2
open PySem PySem.Spec PyProof.Rows Hw
section
variable {X:Cx}
end
end L2
namespace Hw
open PySem L2
abbrev Cs:=List (List (Ps×Int))
end Hw
namespace Hw
open PySem L2
end Hw
namespace Hw
open PySem L2
end Hw
namespace Hw
open PySem L2
end Hw
namespace Hw
open PySem L2
end Hw
namespace L2
open PySem PySem.Spec PyProof.Rows Hw
section
variable {X:Cx}
def Gi (K:PySem.W.Frag):R2:=fun x y H Q=>∃ a b xs,x=.ref a∧y=.ref b∧ck K H a xs∧ck K H b []∧Q (.bl (decide (xs=[]))) H
theorem yQ (hu:X.A.units < cLine):sy X (compareOp .Eq) (Gi X.K):=by
 intro pins s σ H x y v u Q I rx ry h
 obtain ⟨a,b,xs,rfl,rfl,ha,hb,q⟩:=h
 cases rx
 cases ry
 obtain ⟨us,r1,p1,_⟩:=I.list ha
 obtain ⟨vs,r2,p2,_⟩:=I.list hb
 cases r2
 have l1:=r1.length
 by_cases hx:xs=[]
 ·rw [decide_eq_true hx] at q
  subst hx
  cases r1
  exact SeqAt.RcAt.lists (A:=X.A) (e:=fun _=>true) p1.isList p2.isList rfl hu (fun j h1 h2=>absurd h2 (by simp)) _ _ _ _ ⟨.bl true,H,I,rfl,q⟩
 ·rw [decide_eq_false hx] at q
  have:us≠[]:=fun z=>hx (by rw [z] at l1;exact List.length_eq_zero_iff.mp l1)
  refine SeqAt.RcAt.lists_lengths (A:=X.A) p1.isList p2.isList ?_ hu _ _ _ _ ⟨.bl false,H,I,rfl,q⟩
  cases us with
  | nil=>exact absurd rfl this
  | cons _ _=>simp
end
end L2
namespace Hw
open PySem L2
end Hw
namespace Hw
open PySem L2
end Hw
namespace Hw
open PySem L2
theorem LM {P:Program} {w:World} {K:PySem.W.Frag} {mg:Str→Option Value} {base:Heap} {Z:Cz} {m:Str} {ps:List Str} {sp:Nat→Nat→Sp} {lv:Nat→Nat} (f:Nat→Addr) (fd:Nat→FuncData)
  (hm:∀ j,j < 4→Meth K (qK Z j) m (f j)) (hb:∀ j,j < 4→Binds K (fd j) ps []) (h0:∀ j vs H Q E,¬ sp 0 j vs H Q E)
  (hs:∀ n,M4 P w K mg base (lv n) Z m ps (sp n)→∀ j,j < 4→bT P w K mg base dX (lv (n+1)) (f j) (fd j) ps (sp (n+1) j)):∀ n,M4 P w K mg base (lv n) Z m ps (sp n)
 | 0=>fun j hj=>⟨f j,fd j,u6 (h0 j),hm j hj,hb j hj⟩
 | n+1=>fun j hj=>⟨f j,fd j,hs n (LM f fd hm hb h0 hs n) j hj,hm j hj,hb j hj⟩
theorem se {P:Program} {w:World} {K:PySem.W.Frag} {mg:Str→Option Value} {base:Heap} {x:Str} {ps:List Str} {sp:Nat→Sp} {lv:Nat→Nat} {f:Addr} {fd:FuncData}
  (hm:mg x=some (.ref f)) (hk:PySem.W.keepIn K (.ref f)=true) (hb:Binds K fd ps []) (h0:∀ vs H Q E,¬ sp 0 vs H Q E)
  (hs:∀ n,Dn P w K mg base (lv n) x ps (sp n)→bT P w K mg base dX (lv (n+1)) f fd ps (sp (n+1))):∀ n,Dn P w K mg base (lv n) x ps (sp n)
 | 0=>⟨f,fd,u6 h0,hm,hk,hb⟩
 | n+1=>⟨f,fd,hs n (se hm hk hb h0 hs n),hm,hk,hb⟩
theorem a9h {c:Cd} (h:c.dep≤0):False:=by have:=GO c;omega
theorem Um (Z:Cz):∀ j vs H Q E,¬ dJ Z 0 j vs H Q E:=fun _ _ _ _ _ ⟨_,_,_,_,_,d,_⟩=>a9h d
end Hw
namespace Hw
open PySem L2
theorem OH (K:PySem.W.Frag) (C:Addr):PySem.W.kitOne K (.ref C) (.ref C)=some true:=by
 unfold PySem.W.kitOne
 rw [if_pos (by simp)]
theorem OG (K:PySem.W.Frag):PySem.W.kitOne K (.type "tuple") (.type "tuple")=some true:=by
 unfold PySem.W.kitOne
 rw [if_pos (by simp)]
end Hw
namespace L2
open PySem PySem.Spec PyProof.Rows
section
variable {X:Cx} {tg:Expr}
end
end L2
namespace Hw
open PySem L2
end Hw
namespace Hw
open PySem L2
section
variable {Z:Cz} {H0 H H':Hp} {d tl sd hd p pf:Addr} {xs:List Str} {vt:V} {c c':Cd} {kvs kh:List (Key×V)} {S:Sb}
theorem Ju {v:V} (h:bg H c v):∃ p,v=.ref p:=by
 cases c with
 | cmp a n s b m=>unfold bg at h;obtain ⟨p,_,_,e,_⟩:=h;exact ⟨p,e⟩
 | neg c=>unfold bg at h;obtain ⟨p,_,e,_⟩:=h;exact ⟨p,e⟩
 | con k cs=>unfold bg at h;obtain ⟨p,_,e,_⟩:=h;exact ⟨p,e⟩
theorem qP {K:PySem.W.Frag} {x y:V} {Q:VK} {k:Bool} {n:Nat} (h:bg H c x) (g:bg H c y) (hd:c.dep+2≤n) (q:Q (.bl k) H):A9 K n k x y H Q:=by
 have l:j4 K H (n+1) x y:=cu (jy h g) (by omega)
 rcases l with ⟨e,_⟩ | ⟨a,b,us,vs,e1,e2,hs,pr⟩
 ·obtain ⟨p,rfl⟩:=Ju h
  cases e
 ·exact ⟨a,b,us,vs,e1,e2,hs,pr,q⟩
end
theorem av.trans {H H1 H2:Hp} (a:av H H1) (b:av H1 H2):av H H2:=⟨fun c xs e=>b.t _ _ (a.t _ _ e),fun c C dx fs e=>b.i _ _ _ _ (a.i _ _ _ _ e)⟩
end Hw
namespace PySem
open L2
section
variable {prog:Program} {w:World} {A:Around} {E:Value→Shared→Prop} {s:Shared}
end
end PySem
namespace PySem
open L2 PyProof.Rows
section
variable {prog:Program} {w:World} {A:Around} {R:Result→Shared→Prop} {I:Addr} {fp wr:List Addr} {G:Array GenState→Array GenState→Prop} {n:Nat} {P:Nat→Value→Prop} {St:Nat→Shared→Prop}
end
section
variable {prog:Program} {w:World} {A:Around} {E:Value→Shared→Prop} {s:Shared}
end
end PySem
namespace PySem
open L2 PyProof.Rows
namespace F
end F
section
variable {prog:Program} {w:World} {A:Around} {E:Value→Shared→Prop} {s:Shared} {I a tp:Addr} {i n ep:Nat} {es:Array (Int×Value)} {t:SetTable}
end
end PySem
namespace PySem
open L2 PyProof.Rows
section
variable {prog:Program} {w:World} {A:Around} {E:Value→Shared→Prop} {s:Shared} {I a tp:Addr} {i n ep:Nat} {es:Array (Int×Value)} {t:SetTable}
end
end PySem
namespace PySem
open L2 PyProof.Rows
section
variable {M:Model} {A:Around} {E:Value→Shared→Prop} {s:Shared}
end
section
variable {prog:Program} {w:World} {A:Around} {E:Value→Shared→Prop} {s:Shared} {I a tp:Addr} {i n ep:Nat} {es:Array (Int×Value)} {t:SetTable}
end
end PySem
namespace PySem
open L2 PyProof.Rows
section
variable {prog:Program} {w:World} {A:Around} {E:Value→Shared→Prop} {s:Shared} {I a tp:Addr} {i n ep:Nat} {es:Array (Int×Value)} {t:SetTable}
end
end PySem
namespace PySem
open L2 PyProof.Rows
section
variable {prog:Program} {w:World} {A:Around} {E:Value→Shared→Prop} {s:Shared} {a:Addr}
end
end PySem
namespace PySem
open L2 PyProof.Rows
section
variable {prog:Program} {w:World} {A:Around} {E:Value→Shared→Prop} {s:Shared} {a:Addr} {zs:List Str}
end
end PySem
namespace L2
open PySem PySem.Spec PyProof.Rows Hw
section
variable {X:Cx}
end
end L2
namespace L2
open PySem PySem.Spec PyProof.Rows Hw
section
variable {X:Cx}
end
end L2
namespace Hw
open PySem L2
end Hw
namespace Hw
open PySem L2
end Hw
namespace Hw
open PySem L2
end Hw
namespace L2
open PySem PySem.Spec PyProof.Rows Hw
section
variable {X:Cx}
def ifB (s:Stmt) (i:Nat):Stmt:=match s with | .If _ b _ _=>b.getD i (.Pass ⟨0,0,0,0⟩) | _=>.Pass ⟨0,0,0,0⟩
end
end L2
namespace Hw
open PySem L2
end Hw
namespace PySem
section
variable {prog:Program} {w:World} {A:Around} {E:Value→Shared→Prop} {h:Heap} {g:Array GenState} {d:Drawn} {t:Nat} {os:OsState}
variable {nm q:Str} {C N:Addr} {bs bm:List Value} {hdct:Bool} {sn:List Str} {sub:List Value} {ab:Bool} {col:Option Bool} {dd:Option Addr} {k0 k1 k2 k3 k5:Option Value}
end
end PySem
namespace PySem
section
variable {M:Model} {A:Around} {E:Value→Shared→Prop} {s:Shared} {base:Heap} {env:Env} {outer:List Env} {L a C:Addr} {oe:Obj} {vs:Array Value}
end
end PySem
namespace L2
open PySem PySem.Spec PyProof.Rows
section
variable {P:Program} {w:World} {K:PySem.W.Frag} {mg:Str→Option Value} {base:Heap} {N:List Str} {qual:Str} {scope:Scope} {f C:Addr} {cd:Value} {A:Around} {outer:List Env} {s:Shared} {H:Hp} {E:XK}
end
end L2
namespace L2
open PySem PySem.Spec PyProof.Rows
section
variable {X:Cx} {CX:IF} {k:Nat} {f C D fI:Addr} {fd:FuncData} {ps:List Str} {sp:Sp} {E:XK} {x m:Str} {p pos apos:Pos} {e o:Expr} {es:List Expr} {t:TA} {bm:List Value}
def Uw (sp:Sp) (E:XK) (to:TE) (t:TA):TE:=fun σ H Q=>to σ H fun _ H1=>t σ H1 fun vs H2=>sp (vs++[]) H2 Q E
theorem lK {pl:Sem Bool} (hg:Gl X x) (hm:X.mg x=some (.ref D)) (h1:PySem.W.specialIn X.K (.ref D) "__getattribute__"=some (some (.builtin "type.__getattribute__"))) (h2:PySem.W.readsIn X.K D (.type "type")=true)
  (h3:PySem.W.findCls X.K (.ref D) (.type "type") m=some (.val (.ref f))) (h4:PySem.W.handedIn (.ref f)=true) (hk:PySem.W.keepIn X.K (.ref f)=true) (F:bT X.prog X.w X.K X.mg X.base CX k f fd ps sp) (hr:dZ k X.A) (hb:Binds X.K fd ps [])
  (hx:Passes CX X E) (ha:PA X (e::es) t) (hst:starEach (e::es) X.env=(false,eval e X.env)::starEach es X.env:=by rfl) (hpl:(backTo pos (starEach es X.env)).any (·.1)=false:=by rfl) (hdb:(x == ("__debug__":Str))=false:=by decide)
  (ht:eval (.Call (.Attribute (.Name x p) m apos) (e::es) [] pos) X.env=(do
   let ov ← eval (.Name x p) X.env
   standAt apos.atName
   let (f,first) ← holding [ov] (getMethod ov m pl)
   callWith pos f first (backTo pos (starEach (e::es) X.env)) (backToKw pos (keywordEach [] X.env))):=by rfl) :
  PE X (.Call (.Attribute (.Name x p) m apos) (e::es) [] pos) (Uw sp E (tC (.ref D)) t):=by
 intro pins s σ H Q I h
 refine PySem.W.methodCall_KW (pl:=pl) (tN I hg hm ?_ hdb) ht
 refine PySem.W.method_cls I.qJ h1 (PySem.W.cls_value I.qJ h2 h3 h4 ?_)
 have I1:=I.tok (s.toks+1)
 refine PySem.W.callWith_K (first:=[]) (h₀:=X.base) I.ok.mod.NS hk (gZ (ha pos pins _ σ H _ I1 h) fun us s2 ⟨vs,H2,I2,r,q2⟩=>⟨I2.qJ,?_⟩) hst hpl
 exact qY F hr hb .nil hx I2 r q2
end
end L2
namespace PySem.W
open PySem PySem.Spec PySem.Calls PyProof.Rows
section
variable {prog:Program} {w:World} {A:Around} {E:Value→Shared→Prop} {K:Frag} {x D:Addr} {ox:Obj}
end
end PySem.W
namespace L2
open PySem PySem.Spec PyProof.Rows
section
variable {X:Cx} {a C:Addr} {oe:Obj}
end
end L2
namespace PySem
section
variable {M:Model} {A:Around} {E:Value→Shared→Prop}
variable {nm q nm' q':Str} {C N W N':Addr} {bs bm bs' bm':List Value} {hdct b5w:Bool} {sn sn':List Str} {sub sub':List Value} {ab ab':Bool} {col col':Option Bool} {dd SS:Option Addr} {k0 k1 k2 k3 k5 j0 j1 j2 j3 j5:Option Value} {newId newId':String}
end
section
variable {M:Model} {A:Around} {E:Value→Shared→Prop} {s:Shared} {base:Heap} {env:Env} {outer:List Env} {L a C:Addr} {oe:Obj} {vs:Array Value}
end
end PySem
namespace L2
open PySem PySem.Spec PyProof.Rows
section
variable {X:Cx} {pn:List (Addr×Obj)} {xe:Value→Shared→Prop} {pins xw:List (Addr×Obj)} {σ:St} {H:Hp} {s:Shared} {a:Addr}
end
section
variable {X:Cx} {C W fI fW:Addr} {bm bmW:List Value} {xc n:Str} {i:Nat} {np hpos pos:Pos} {body:List Stmt} {b₀:Stmt} {suite:List Stmt} {tb:XK→TS} {ts:Addr→TS}
end
end L2
namespace Hw
open PySem L2
end Hw
namespace L2
open PySem PySem.Spec PyProof.Rows Hw
section
variable {X:Cx} {C:Addr} {k:Nat} {m:Str} {pos apos:Pos} {o:Expr} {ta:TE} {Z:Cz} {ps:List Str} {sp:Nat→Sp} {E:XK}
theorem Oh {K:PySem.W.Frag} {tg l:Expr} {tl:TE} (h:X.K=K) (hl:PE X l tl):PI X tg l (Vi K tl):=h ▸ gF hl
theorem EW {K:PySem.W.Frag} (h:X.K=K) (hu:X.A.units < cLine):sy X (compareOp .Eq) (Gi K):=h ▸ yQ hu
end
end L2
namespace Hw
open PySem L2
theorem Ih {a ts:Ps} (c:Canon a) (g:Gat a ts):ts=a:=g.1.same c fun f=>g.2 f
end Hw
namespace Hw
open PySem L2
section
variable {xs:List Str} {H H' H'':Hp} {d l P:Addr} {us:List V} {cs:List Cd}
end
end Hw
namespace L2
open PySem PySem.Spec PyProof.Rows
end L2
namespace Hw
open PySem L2
inductive Ar where
 | tx (s:Str)
 | sm (a:Ps) (n:Int)
 | N3 (l:List Str)
 | Oc (l:List (Ps×Int))
 | cd (c:Cd)
inductive cV where
 | flat (k:Nat) (at_:Int) (as:List Ar)
 | ny (at_:Int) (c:Cd) (t e:List cV)
 | rep (at_:Int) (c:Cd) (hs:List (Int×Cd)) (f:Option (Int×Ps×Int)) (b:List cV)
def kw:Nat→Str
 | 0=>"let" | 1=>"divide" | 2=>"fetch" | 3=>"put" | 4=>"make" | 5=>"claim" | _=>"call"
def ZU:Nat→List Ar→Prop
 | 0,as=>∃ x a n,as=[.tx x,.sm a n]
 | 1,as=>∃ x y a n b m,as=[.tx x,.tx y,.sm a n,.sm b m]
 | 2,as=>∃ x y a n,as=[.tx x,.tx y,.sm a n]
 | 3,as=>∃ x a n b m,as=[.tx x,.sm a n,.sm b m]
 | 4,as=>∃ x a n,as=[.tx x,.sm a n]
 | 5,as=>∃ c,as=[.cd c]
 | 6,as=>∃ l x q,as=[.N3 l,.tx x,.Oc q]
 | _,_=>False
mutual
def cV.dep:cV→Nat
 | .flat ..=>1
 | .ny _ _ t e=>max (ku t) (ku e)+1
 | .rep _ _ _ _ b=>ku b+1
def ku:List cV→Nat
 | []=>0
 | s::r=>max s.dep (ku r)
end
theorem qj {s:cV}:∀ {l:List cV},s∈l→s.dep≤ku l
 | a::r,h=>by
  unfold ku
  rcases List.mem_cons.mp h with e | e
  ·rw [e];exact Nat.le_max_left _ _
  ·exact Nat.le_trans (qj e) (Nat.le_max_right _ _)
theorem tU (s:cV):1≤s.dep:=by cases s <;> simp [cV.dep]
theorem qz (c:cV):∀ cs:List cV,ku (cs++[c])=max (ku cs) c.dep
 | []=>by show max c.dep (ku [])=max (ku []) c.dep;exact Nat.max_comm _ _
 | a::r=>by
  show max a.dep (ku (r++[c]))=_
  rw [qz c r]
  conv=>rhs;unfold ku
  omega
structure Cy where
 z:Cz
 st:Addr
 lt:Addr
 dv:Addr
 ft:Addr
 pt:Addr
 mq:Addr
 cm:Addr
 cl:Addr
 ch:Addr
 rp:Addr
 hp:Addr
 pg:Addr
def gH (Y:Cy):Nat→Addr
 | 0=>Y.lt | 1=>Y.dv | 2=>Y.ft | 3=>Y.pt | 4=>Y.mq | 5=>Y.cm | 6=>Y.cl | 7=>Y.ch | _=>Y.rp
def kd:cV→Nat
 | .flat k _ _=>k
 | .ny ..=>7
 | .rep ..=>8
def ua (H:Hp) (u:V) (q:Ps×Int):Prop:=∃ p,u=.ref p∧eW H p q.1 q.2
def NL (H:Hp):Ar→V→Prop
 | .tx s,v=>v=.str s
 | .sm a n,v=>∃ r,v=.ref r∧eW H r a n
 | .N3 l,v=>∃ r,v=.ref r∧H r=some (.tup (l.map V.str))
 | .Oc l,v=>∃ r us,v=.ref r∧H r=some (.tup us)∧Paired (ua H) us l
 | .cd c,v=>bg H c v
def Iz (H:Hp) (hs:List (Int×Cd)) (v:V):Prop:=∃ t us,v=.ref t∧H t=some (.tup us)∧Paired (fun u (q:Int×Cd)=>∃ r w,u=V.ref r∧H r=some (.tup [.int q.1,w])∧bg H q.2 w) us hs
def Qw (H:Hp):Option (Int×Ps×Int)→V→Prop
 | none,v=>v=.eT
 | some q,v=>∃ r d,v=.ref r∧H r=some (.tup [.int q.1,.ref d])∧eW H d q.2.1 q.2.2
mutual
def ie (H:Hp):cV→V→Prop
 | .flat k at_ as,v=>∃ r us,v=.ref r∧H r=some (.tup (.str (kw k)::.int at_::us))∧Paired (fun u a=>NL H a u) us as
 | .ny at_ c t e,v=>∃ r uc t1 t2 us ws,v=.ref r∧H r=some (.tup [.str "choose",.int at_,uc,.ref t1,.ref t2])∧bg H c uc∧H t1=some (.tup us)∧jC H t us∧H t2=some (.tup ws)∧jC H e ws
 | .rep at_ c hs f b,v=>∃ r uc uh uf t2 ws,v=.ref r∧H r=some (.tup [.str "repeat",.int at_,uc,uh,uf,.ref t2])∧bg H c uc∧Iz H hs uh∧Qw H f uf∧H t2=some (.tup ws)∧jC H b ws
def jC (H:Hp):List cV→List V→Prop
 | [],us=>us=[]
 | s::l,us=>∃ u r,us=u::r∧ie H s u∧jC H l r
end
theorem iT {H:Hp}:∀ {l:List cV} {us:List V},jC H l us↔Paired (fun u s=>ie H s u) us l
 | [],us=>by
  unfold jC
  exact ⟨fun e=>e ▸ .nil,fun h=>by cases h;rfl⟩
 | c::cs,us=>by
  unfold jC
  constructor
  ·rintro ⟨u,r,rfl,d1,d2⟩
   exact .cons d1 (iT.mp d2)
  ·intro h
   cases h with
   | cons d1 d2=>exact ⟨_,_,rfl,d1,iT.mpr d2⟩
theorem ua.ao {H H':Hp} {u:V} {q:Ps×Int} (k:av H H') (h:ua H u q):ua H' u q:=let ⟨p,e,d⟩:=h;⟨p,e,d.ao k⟩
theorem NL.ao {H H':Hp} (k:av H H'):∀ {a:Ar} {v:V},NL H a v→NL H' a v
 | .tx s,v,h=>h
 | .sm a n,v,⟨r,e,d⟩=>⟨r,e,d.ao k⟩
 | .N3 l,v,⟨r,e,d⟩=>⟨r,e,k.t _ _ d⟩
 | .Oc l,v,⟨r,us,e,d,p⟩=>⟨r,us,e,k.t _ _ d,L2.Paired.dg p fun _ _ z=>z.ao k⟩
 | .cd c,v,h=>bg.ao k h
theorem Iz.ao {H H':Hp} (k:av H H') {hs:List (Int×Cd)} {v:V} (h:Iz H hs v):Iz H' hs v :=
 let ⟨t,us,e,et,p⟩:=h;⟨t,us,e,k.t _ _ et,L2.Paired.dg p fun _ _ ⟨r,w,e,er,d⟩=>⟨r,w,e,k.t _ _ er,d.ao k⟩⟩
theorem Qw.ao {H H':Hp} (k:av H H'):∀ {f:Option (Int×Ps×Int)} {v:V},Qw H f v→Qw H' f v
 | none,v,h=>h
 | some q,v,⟨r,d,e,er,dd⟩=>⟨r,d,e,k.t _ _ er,dd.ao k⟩
mutual
theorem ie.ao {H H':Hp} (k:av H H'):∀ {s:cV} {v:V},ie H s v→ie H' s v
 | .flat kk at_ as,v,h=>by
  unfold ie at h ⊢
  obtain ⟨r,us,e,er,p⟩:=h
  exact ⟨r,us,e,k.t _ _ er,L2.Paired.dg p fun _ _ z=>NL.ao k z⟩
 | .ny at_ c t e,v,h=>by
  unfold ie at h ⊢
  obtain ⟨r,uc,t1,t2,us,ws,e0,er,hc,e1,h1,e2,h2⟩:=h
  exact ⟨r,uc,t1,t2,us,ws,e0,k.t _ _ er,hc.ao k,k.t _ _ e1,jC.ao k h1,k.t _ _ e2,jC.ao k h2⟩
 | .rep at_ c hs f b,v,h=>by
  unfold ie at h ⊢
  obtain ⟨r,uc,uh,uf,t2,ws,e0,er,hc,hh,hf,e2,h2⟩:=h
  exact ⟨r,uc,uh,uf,t2,ws,e0,k.t _ _ er,hc.ao k,hh.ao k,hf.ao k,k.t _ _ e2,jC.ao k h2⟩
theorem jC.ao {H H':Hp} (k:av H H'):∀ {l:List cV} {us:List V},jC H l us→jC H' l us
 | [],us,h=>by unfold jC at h ⊢;exact h
 | c::cs,us,h=>by
  unfold jC at h ⊢
  obtain ⟨u,r,e,d1,d2⟩:=h
  exact ⟨u,r,e,ie.ao k d1,jC.ao k d2⟩
end
def Iw (Z:Cz) (H:Hp) (u:V) (q:Ps×Int):Prop:=∃ p,u=.ref p∧mO Z.s H p q.1 q.2
def XW (Z:Cz) (H:Hp):Ar→V→Prop
 | .tx s,v=>v=.str s
 | .sm a n,v=>∃ r,v=.ref r∧mO Z.s H r a n
 | .N3 l,v=>∃ r,v=.ref r∧H r=some (.tup (l.map V.str))
 | .Oc l,v=>∃ r us,v=.ref r∧H r=some (.tup us)∧us.length≤1000∧Paired (Iw Z H) us l
 | .cd c,v=>cP Z H c v
def Tg (Z:Cz) (H:Hp) (hs:List (Int×Cd)) (v:V):Prop:=∃ t us,v=.ref t∧H t=some (.tup us)∧us.length≤1000∧Paired (fun u (q:Int×Cd)=>∃ r w,u=V.ref r∧H r=some (.tup [.int q.1,w])∧cP Z H q.2 w) us hs
def ZZ (Z:Cz) (H:Hp):Option (Int×Ps×Int)→V→Prop
 | none,v=>v=.eT
 | some q,v=>∃ r d,v=.ref r∧H r=some (.tup [.int q.1,.ref d])∧mO Z.s H d q.2.1 q.2.2
def TZ:Nat→Int→List V→List (Str×V)
 | 0,at_,[a,b]=>bw "total" b (bw "name" a (bw "at" (.int at_) []))
 | 1,at_,[a,b,c,d]=>bw "by" d (bw "total" c (bw "word" b (bw "name" a (bw "at" (.int at_) []))))
 | 2,at_,[a,b,c]=>bw "place" c (bw "row" b (bw "name" a (bw "at" (.int at_) [])))
 | 3,at_,[a,b,c]=>bw "total" c (bw "place" b (bw "row" a (bw "at" (.int at_) [])))
 | 4,at_,[a,b]=>bw "size" b (bw "row" a (bw "at" (.int at_) []))
 | 5,at_,[a]=>bw "condition" a (bw "at" (.int at_) [])
 | 6,at_,[a,b,c]=>bw "given" c (bw "helper" b (bw "names" a (bw "at" (.int at_) [])))
 | _,_,_=>[]
def flC (at_:Int) (u:V) (t1 t2:Addr):List (Str×V):=bw "other" (.ref t2) (bw "then" (.ref t1) (bw "condition" u (bw "at" (.int at_) [])))
def flR (at_:Int) (u uh uf:V) (t2:Addr):List (Str×V):=bw "body" (.ref t2) (bw "falls" uf (bw "keeps" uh (bw "condition" u (bw "at" (.int at_) []))))
mutual
def cD (Y:Cy) (H:Hp):cV→V→Prop
 | .flat k at_ as,v=>∃ p dx us,v=.ref p∧ZU k as∧H p=some (.ins (gH Y k) dx (TZ k at_ us))∧Paired (fun u a=>XW Y.z H a u) us as
 | .ny at_ c t e,v=>∃ p dx uc t1 t2 us ws,v=.ref p∧H p=some (.ins Y.ch dx (flC at_ uc t1 t2))∧cP Y.z H c uc∧H t1=some (.tup us)∧us.length≤1000∧iP Y H t us∧H t2=some (.tup ws)∧ws.length≤1000∧iP Y H e ws
 | .rep at_ c hs f b,v=>∃ p dx uc uh uf t2 ws,v=.ref p∧H p=some (.ins Y.rp dx (flR at_ uc uh uf t2))∧cP Y.z H c uc∧Tg Y.z H hs uh∧ZZ Y.z H f uf∧H t2=some (.tup ws)∧ws.length≤1000∧iP Y H b ws
def iP (Y:Cy) (H:Hp):List cV→List V→Prop
 | [],us=>us=[]
 | s::l,us=>∃ u r,us=u::r∧cD Y H s u∧iP Y H l r
end
theorem eg {Y:Cy} {H:Hp}:∀ {l:List cV} {us:List V},iP Y H l us↔Paired (fun u s=>cD Y H s u) us l
 | [],us=>by
  unfold iP
  exact ⟨fun e=>e ▸ .nil,fun h=>by cases h;rfl⟩
 | c::cs,us=>by
  unfold iP
  constructor
  ·rintro ⟨u,r,rfl,d1,d2⟩
   exact .cons d1 (eg.mp d2)
  ·intro h
   cases h with
   | cons d1 d2=>exact ⟨_,_,rfl,d1,eg.mpr d2⟩
theorem Iw.ao {Z:Cz} {H H':Hp} {u:V} {q:Ps×Int} (k:av H H') (h:Iw Z H u q):Iw Z H' u q:=let ⟨p,e,d⟩:=h;⟨p,e,d.ao k⟩
theorem XW.ao {Z:Cz} {H H':Hp} (k:av H H'):∀ {a:Ar} {v:V},XW Z H a v→XW Z H' a v
 | .tx s,v,h=>h
 | .sm a n,v,⟨r,e,d⟩=>⟨r,e,d.ao k⟩
 | .N3 l,v,⟨r,e,d⟩=>⟨r,e,k.t _ _ d⟩
 | .Oc l,v,⟨r,us,e,d,ll,p⟩=>⟨r,us,e,k.t _ _ d,ll,L2.Paired.dg p fun _ _ z=>z.ao k⟩
 | .cd c,v,h=>cP.ao k h
theorem Tg.ao {Z:Cz} {H H':Hp} (k:av H H') {hs:List (Int×Cd)} {v:V} (h:Tg Z H hs v):Tg Z H' hs v :=
 let ⟨t,us,e,et,ll,p⟩:=h;⟨t,us,e,k.t _ _ et,ll,L2.Paired.dg p fun _ _ ⟨r,w,e,er,d⟩=>⟨r,w,e,k.t _ _ er,d.ao k⟩⟩
theorem ZZ.ao {Z:Cz} {H H':Hp} (k:av H H'):∀ {f:Option (Int×Ps×Int)} {v:V},ZZ Z H f v→ZZ Z H' f v
 | none,v,h=>h
 | some q,v,⟨r,d,e,er,dd⟩=>⟨r,d,e,k.t _ _ er,dd.ao k⟩
mutual
theorem cD.ao {Y:Cy} {H H':Hp} (k:av H H'):∀ {s:cV} {v:V},cD Y H s v→cD Y H' s v
 | .flat kk at_ as,v,h=>by
  unfold cD at h ⊢
  obtain ⟨p,dx,us,e,sh,ep,pp⟩:=h
  exact ⟨p,dx,us,e,sh,k.i _ _ _ _ ep,L2.Paired.dg pp fun _ _ z=>XW.ao k z⟩
 | .ny at_ c t e,v,h=>by
  unfold cD at h ⊢
  obtain ⟨p,dx,uc,t1,t2,us,ws,e0,ep,hc,e1,l1,h1,e2,l2,h2⟩:=h
  exact ⟨p,dx,uc,t1,t2,us,ws,e0,k.i _ _ _ _ ep,hc.ao k,k.t _ _ e1,l1,iP.ao k h1,k.t _ _ e2,l2,iP.ao k h2⟩
 | .rep at_ c hs f b,v,h=>by
  unfold cD at h ⊢
  obtain ⟨p,dx,uc,uh,uf,t2,ws,e0,ep,hc,hh,hf,e2,l2,h2⟩:=h
  exact ⟨p,dx,uc,uh,uf,t2,ws,e0,k.i _ _ _ _ ep,hc.ao k,hh.ao k,hf.ao k,k.t _ _ e2,l2,iP.ao k h2⟩
theorem iP.ao {Y:Cy} {H H':Hp} (k:av H H'):∀ {l:List cV} {us:List V},iP Y H l us→iP Y H' l us
 | [],us,h=>by unfold iP at h ⊢;exact h
 | c::cs,us,h=>by
  unfold iP at h ⊢
  obtain ⟨u,r,e,d1,d2⟩:=h
  exact ⟨u,r,e,cD.ao k d1,iP.ao k d2⟩
end
theorem eu {f:Str} {v:V} {fs:List (Str×V)}:(bw f v fs).lookup f=some v:=by rw [bM,if_pos rfl]
theorem cG {f g:Str} {v w:V} {fs:List (Str×V)} (h:¬ g=f) (e:fs.lookup g=some w):(bw f v fs).lookup g=some w:=by rw [bM,if_neg h];exact e
theorem kX {f g:Str} {v:V} {fs:List (Str×V)} (h:¬ g=f) (e:fs.lookup g=none):(bw f v fs).lookup g=none:=by rw [bM,if_neg h];exact e
def ZV (m:Str):Prop:=∀ f∈(["at","name","total","word","by","row","place","size","condition","names","helper","given","then","other","keeps","falls","body"]:List Str),¬ m=f
theorem nU {Y:Cy} {H:Hp} {s:cV} {v:V} (h:cD Y H s v):kd s < 9:=by
 cases s with
 | flat k at_ as =>
  unfold cD at h
  obtain ⟨p,dx,us,e,sh,_⟩:=h
  show k < 9
  match k,sh with
  | 0,_=>decide
  | 1,_=>decide
  | 2,_=>decide
  | 3,_=>decide
  | 4,_=>decide
  | 5,_=>decide
  | 6,_=>decide
 | ny=>show 7 < 9;decide
 | rep=>show 8 < 9;decide
theorem AW {Y:Cy} {H:Hp} {s:cV} {p:Addr} (h:cD Y H s (.ref p)) {m:Str} (nf:ZV m):∃ dx fs,H p=some (.ins (gH Y (kd s)) dx fs)∧fs.lookup m=none:=by
 have no:∀ f,f∈(["at","name","total","word","by","row","place","size","condition","names","helper","given","then","other","keeps","falls","body"]:List Str)→¬ m=f:=nf
 cases s with
 | flat k at_ as =>
  unfold cD at h
  obtain ⟨q,dx,us,e,sh,ep,pp⟩:=h
  cases e
  refine ⟨dx,_,ep,?_⟩
  match k,sh with
  | 0,⟨_,_,_,e⟩=>subst e;cases pp with | cons a r=>cases r with | cons b r=>cases r;exact kX (no _ (by simp)) (kX (no _ (by simp)) (kX (no _ (by simp)) rfl))
  | 1,⟨_,_,_,_,_,_,e⟩=>subst e;cases pp with | cons a r=>cases r with | cons b r=>cases r with | cons c r=>cases r with | cons d r=>cases r;exact kX (no _ (by simp)) (kX (no _ (by simp)) (kX (no _ (by simp)) (kX (no _ (by simp)) (kX (no _ (by simp)) rfl))))
  | 2,⟨_,_,_,_,e⟩=>subst e;cases pp with | cons a r=>cases r with | cons b r=>cases r with | cons c r=>cases r;exact kX (no _ (by simp)) (kX (no _ (by simp)) (kX (no _ (by simp)) (kX (no _ (by simp)) rfl)))
  | 3,⟨_,_,_,_,_,e⟩=>subst e;cases pp with | cons a r=>cases r with | cons b r=>cases r with | cons c r=>cases r;exact kX (no _ (by simp)) (kX (no _ (by simp)) (kX (no _ (by simp)) (kX (no _ (by simp)) rfl)))
  | 4,⟨_,_,_,e⟩=>subst e;cases pp with | cons a r=>cases r with | cons b r=>cases r;exact kX (no _ (by simp)) (kX (no _ (by simp)) (kX (no _ (by simp)) rfl))
  | 5,⟨_,e⟩=>subst e;cases pp with | cons a r=>cases r;exact kX (no _ (by simp)) (kX (no _ (by simp)) rfl)
  | 6,⟨_,_,_,e⟩=>subst e;cases pp with | cons a r=>cases r with | cons b r=>cases r with | cons c r=>cases r;exact kX (no _ (by simp)) (kX (no _ (by simp)) (kX (no _ (by simp)) (kX (no _ (by simp)) rfl)))
 | ny at_ c t e =>
  unfold cD at h
  obtain ⟨q,dx,uc,t1,t2,us,ws,e0,ep,_⟩:=h
  cases e0
  exact ⟨dx,_,ep,kX (no _ (by simp)) (kX (no _ (by simp)) (kX (no _ (by simp)) (kX (no _ (by simp)) rfl)))⟩
 | rep at_ c hs f b =>
  unfold cD at h
  obtain ⟨q,dx,uc,uh,uf,t2,ws,e0,ep,_⟩:=h
  cases e0
  exact ⟨dx,_,ep,kX (no _ (by simp)) (kX (no _ (by simp)) (kX (no _ (by simp)) (kX (no _ (by simp)) (kX (no _ (by simp)) rfl))))⟩
theorem AV {Y:Cy} {H:Hp} {s:cV} {v:V} (h:cD Y H s v):∃ p,v=.ref p:=by
 cases s with
 | flat=>unfold cD at h;obtain ⟨p,_,_,e,_⟩:=h;exact ⟨p,e⟩
 | ny=>unfold cD at h;obtain ⟨p,_,_,_,_,_,_,e,_⟩:=h;exact ⟨p,e⟩
 | rep=>unfold cD at h;obtain ⟨p,_,_,_,_,_,_,e,_⟩:=h;exact ⟨p,e⟩
def M9 (P:Program) (w:World) (K:PySem.W.Frag) (mg:Str→Option Value) (base:Heap) (k:Nat) (Y:Cy) (m:Str) (ps:List Str) (sp:Nat→Sp):Prop:=∀ j,j < 9→Mt P w K mg base k (gH Y j) m ps (sp j)
end Hw
namespace L2
open PySem PySem.Spec PyProof.Rows Hw
section
variable {X:Cx} {k:Nat} {m:Str} {pos apos:Pos} {o:Expr} {ta:TE} {Y:Cy} {ps:List Str} {sp:Nat→Sp}
def a0b (Y:Cy) (sp:Nat→Sp) (ta:TE):TE:=fun σ H Q=>ta σ H fun x H1=>∃ p s,x=.ref p∧cD Y H1 s (.ref p)∧sp (kd s) [.ref p] H1 Q E0
theorem zG {pl:Sem Bool} (he:PE X o ta) (cl:∀ j,j < 9→AL X.K (gH Y j)) (nf:ZV m) (M:M9 X.prog X.w X.K X.mg X.base k Y m ps sp) (hr:dZ k X.A) (hx:Passes dX X E0)
  (ht:eval (.Call (.Attribute o m apos) [] [] pos) X.env=(do
   let ov ← eval o X.env
   standAt apos.atName
   let (f,first) ← holding [ov] (getMethod ov m pl)
   callWith pos f first (backTo pos (starEach [] X.env)) (backToKw pos (keywordEach [] X.env))):=by rfl) :
  PE X (.Call (.Attribute o m apos) [] [] pos) (a0b Y sp ta):=by
 intro pins s σ H Q I h
 refine PySem.W.methodCall_KW (pl:=pl) (gZ (he pins s σ H _ I h) fun u s1 ⟨x,H1,I1,rx,a,c,ex,hc,q⟩=>?_) ht
 subst ex
 obtain rfl:u=Value.ref a:=rx
 obtain ⟨dx,fs,ea,l⟩:=AW hc nf
 obtain ⟨f,fd,F,hm,hb⟩:=M (kd c) (nU hc)
 refine oM I1 ea (cl _ (nU hc)) hm l ?_
 exact PySem.W.callWith_K0 (first:=[.ref a]) I1.qJ hm.kp (qY (us:=[.ref a]) (vs:=[.ref a]) F hr hb .nil hx I1 (.cons rfl .nil) q)
end
end L2
namespace Hw
open PySem L2
def yb (a:Ps) (n:Int):Prop:=Canon a∧Lt3 a∧Small n
def FJ (c:Cd):Prop:=(∃ xs,Gd xs c)∧c.dep≤3
def Ar.ok:Ar→Prop
 | .tx _=>True
 | .sm a n=>yb a n
 | .N3 l=>l.length≤20
 | .Oc l=>l.length≤20∧∀ q∈l,yb q.1 q.2
 | .cd c=>FJ c
mutual
def cV.ok:cV→Prop
 | .flat k _ as=>ZU k as∧∀ a∈as,a.ok
 | .ny _ c t e=>FJ c∧t.length≤10∧e.length≤10∧vF t∧vF e
 | .rep _ c hs f b=>FJ c∧hs.length≤10∧(∀ q∈hs,FJ q.2)∧(∀ q,f=some q→yb q.2.1 q.2.2)∧b.length≤10∧vF b
def vF:List cV→Prop
 | []=>True
 | s::r=>s.ok∧vF r
end
theorem tM {s:cV}:∀ {l:List cV},vF l→s∈l→s.ok
 | a::r,h,m=>by
  unfold vF at h
  rcases List.mem_cons.mp m with e | e
  ·rw [e];exact h.1
  ·exact tM h.2 e
theorem xA {s:cV}:∀ {l:List cV},vF l→s.ok→vF (l++[s])
 | [],_,h=>by unfold vF;exact ⟨h,by unfold vF;trivial⟩
 | a::r,g,h=>by
  unfold vF at g
  show vF (a::(r++[s]))
  unfold vF
  exact ⟨g.1,xA g.2 h⟩
structure Hl where
 at_:Int
 nm:Str
 ps:List Str
 an:List Str
 nd:List (Int×Cd)
 gv:List (Int×Cd)
 st:List cV
def Aj (h:Hl) (t1 t2:Addr) (v1 v2:V) (t3:Addr):List (Str×V):=bw "steps" (.ref t3) (bw "gives" v2 (bw "needs" v1 (bw "answers" (.ref t2) (bw "params" (.ref t1) (bw "name" (.str h.nm) (bw "at" (.int h.at_) []))))))
def vm (Y:Cy) (H:Hp) (h:Hl) (v:V):Prop:=∃ p dx t1 t2 v1 v2 t3 us,v=.ref p∧H p=some (.ins Y.hp dx (Aj h t1 t2 v1 v2 t3))∧H t1=some (.tup (h.ps.map V.str))∧H t2=some (.tup (h.an.map V.str))∧Tg Y.z H h.nd v1∧Tg Y.z H h.gv v2∧H t3=some (.tup us)∧us.length≤1000∧iP Y H h.st us
def su (H:Hp) (h:Hl) (v:V):Prop:=∃ r t1 t2 v1 v2 t3 us,v=.ref r∧H r=some (.tup [.str "helper",.int h.at_,.str h.nm,.ref t1,.ref t2,v1,v2,.ref t3])∧H t1=some (.tup (h.ps.map V.str))∧H t2=some (.tup (h.an.map V.str))∧Iz H h.nd v1∧Iz H h.gv v2∧H t3=some (.tup us)∧jC H h.st us
theorem vm.ao {Y:Cy} {H H':Hp} (k:av H H') {h:Hl} {v:V} (g:vm Y H h v):vm Y H' h v:=by
 obtain ⟨p,dx,t1,t2,v1,v2,t3,us,e,ep,e1,e2,h1,h2,e3,l,hs⟩:=g
 exact ⟨p,dx,t1,t2,v1,v2,t3,us,e,k.i _ _ _ _ ep,k.t _ _ e1,k.t _ _ e2,h1.ao k,h2.ao k,k.t _ _ e3,l,hs.ao k⟩
theorem su.ao {H H':Hp} (k:av H H') {h:Hl} {v:V} (g:su H h v):su H' h v:=by
 obtain ⟨r,t1,t2,v1,v2,t3,us,e,ep,e1,e2,h1,h2,e3,hs⟩:=g
 exact ⟨r,t1,t2,v1,v2,t3,us,e,k.t _ _ ep,k.t _ _ e1,k.t _ _ e2,h1.ao k,h2.ao k,k.t _ _ e3,hs.ao k⟩
structure Hl.ok (h:Hl):Prop where
 ps:h.ps.length≤10
 an:h.an.length≤10
 nl:h.nd.length≤10
 nd:∀ q∈h.nd,FJ q.2
 gl:h.gv.length≤10
 gv:∀ q∈h.gv,FJ q.2
 sl:h.st.length≤10
 st:vF h.st
 dp:ku h.st≤3
def fN:Nat→List Str
 | 0=>["at","name","total"] | 1=>["at","name","word","total","by"] | 2=>["at","name","row","place"] | 3=>["at","row","place","total"] | 4=>["at","row","size"] | 5=>["at","condition"] | 6=>["at","names","helper","given"]
 | 7=>["at","condition","then","other"] | _=>["at","condition","keeps","falls","body"]
def hN:List Str:=["at","name","params","answers","needs","gives","steps"]
structure gD (K:PySem.W.Frag) (mg:Str→Option Value) (Y:Cy) (fS:Addr):Prop where
 cl:∀ j,j < 9→AL K (gH Y j)
 na:∀ j x,j < 9→x∈fN j→iz K (gH Y j) x
 ch:AL K Y.hp
 nh:∀ x∈hN,iz K Y.hp x
 cp:AL K Y.pg
 np:iz K Y.pg "helpers"
 NQ:mg "Step"=some (.ref Y.st)
 mg0:mg "Let"=some (.ref Y.lt)
 mg1:mg "Divide"=some (.ref Y.dv)
 mg2:mg "Fetch"=some (.ref Y.ft)
 mg3:mg "Put"=some (.ref Y.pt)
 mg4:mg "Make"=some (.ref Y.mq)
 mg5:mg "Claim"=some (.ref Y.cm)
 mg6:mg "Call"=some (.ref Y.cl)
 mg7:mg "Choose"=some (.ref Y.ch)
 mg8:mg "Repeat"=some (.ref Y.rp)
 mgH:mg "Helper"=some (.ref Y.hp)
 mgP:mg "Program"=some (.ref Y.pg)
 g1:PySem.W.specialIn K (.ref Y.st) "__getattribute__"=some (some (.builtin "type.__getattribute__"))
 g2:PySem.W.readsIn K Y.st (.type "type")=true
 g3:PySem.W.findCls K (.ref Y.st) (.type "type") "__init__"=some (.val (.ref fS))
 g4:PySem.W.handedIn (.ref fS)=true
 g5:PySem.W.keepIn K (.ref fS)=true
def o4 (Y:Cy):Sp:=fun vs H Q _=>∃ (p dx:Addr) (a:Int) (j:Nat),vs=[.ref p,.int a]∧j < 9∧("at":Str)∈fN j∧H p=some (.ins (gH Y j) dx [])∧∀ H',bE p H H'→H' p=some (.ins (gH Y j) dx (bw "at" (.int a) []))→Q .eT H'
def qF (Y:Cy) (k:Nat):Sp:=fun vs H Q _=>∃ (p dx:Addr) (a:Int) (v1:V),vs=[.ref p,.int a,v1]∧H p=some (.ins (gH Y k) dx [])∧∀ H',bE p H H'→H' p=some (.ins (gH Y k) dx (TZ k a [v1]))→Q .eT H'
def vz (Y:Cy) (k:Nat):Sp:=fun vs H Q _=>∃ (p dx:Addr) (a:Int) (v1 v2:V),vs=[.ref p,.int a,v1,v2]∧H p=some (.ins (gH Y k) dx [])∧∀ H',bE p H H'→H' p=some (.ins (gH Y k) dx (TZ k a [v1,v2]))→Q .eT H'
def vv (Y:Cy) (k:Nat):Sp:=fun vs H Q _=>∃ (p dx:Addr) (a:Int) (v1 v2 v3:V),vs=[.ref p,.int a,v1,v2,v3]∧H p=some (.ins (gH Y k) dx [])∧∀ H',bE p H H'→H' p=some (.ins (gH Y k) dx (TZ k a [v1,v2,v3]))→Q .eT H'
def Gb (Y:Cy) (k:Nat):Sp:=fun vs H Q _=>∃ (p dx:Addr) (a:Int) (v1 v2 v3 v4:V),vs=[.ref p,.int a,v1,v2,v3,v4]∧H p=some (.ins (gH Y k) dx [])∧∀ H',bE p H H'→H' p=some (.ins (gH Y k) dx (TZ k a [v1,v2,v3,v4]))→Q .eT H'
def Ge (Y:Cy):Sp:=fun vs H Q _=>∃ (p dx l1 l2:Addr) (a:Int) (v:V) (us ws:List V),vs=[.ref p,.int a,.ref l1,v,.ref l2]∧H p=some (.ins Y.cl dx [])∧H l1=some (.lst us)∧H l2=some (.lst ws) ∧
 ∀ (t1 t2:Addr) (H':Hp),bE p H H'→H' p=some (.ins Y.cl dx (TZ 6 a [.ref t1,v,.ref t2]))→H' t1=some (.tup us)→H' t2=some (.tup ws)→Q .eT H'
def qG (Y:Cy):Sp:=fun vs H Q _=>∃ (p dx l1 l2:Addr) (a:Int) (v:V) (us ws:List V),vs=[.ref p,.int a,v,.ref l1,.ref l2]∧H p=some (.ins Y.ch dx [])∧H l1=some (.lst us)∧H l2=some (.lst ws) ∧
 ∀ (t1 t2:Addr) (H':Hp),bE p H H'→H' p=some (.ins Y.ch dx (flC a v t1 t2))→H' t1=some (.tup us)→H' t2=some (.tup ws)→Q .eT H'
def Gg:Sp:=fun vs H Q _=>∃ (l:Addr) (us:List V),vs=[.ref l]∧H l=some (.lst us)∧us.length≤1000∧(∀ u∈us,∃ r xs,u=V.ref r∧H r=some (.tup xs))∧∀ (t:Addr) (H':Hp),aF H H'→H' t=some (.tup us)→Q (.ref t) H'
def qE (Y:Cy):Sp:=fun vs H Q _=>∃ (p dx l1 l2:Addr) (a:Int) (v f:V) (us ws:List V),vs=[.ref p,.int a,v,.ref l1,f,.ref l2]∧H p=some (.ins Y.rp dx [])∧H l1=some (.lst us)∧us.length≤1000∧(∀ u∈us,∃ r xs,u=V.ref r∧H r=some (.tup xs))∧H l2=some (.lst ws) ∧
 ∀ (t1 t2:Addr) (H':Hp),bE p H H'→H' p=some (.ins Y.rp dx (flR a v (.ref t1) f t2))→H' t1=some (.tup us)→H' t2=some (.tup ws)→Q .eT H'
def Jy (Y:Cy):Sp:=fun vs H Q _=>∃ (p dx l1 l2 l3 l4 l5:Addr) (h:Hl) (ns gs ws:List V),vs=[.ref p,.int h.at_,.str h.nm,.ref l1,.ref l2,.ref l3,.ref l4,.ref l5]∧H p=some (.ins Y.hp dx [])∧H l1=some (.lst (h.ps.map V.str))∧H l2=some (.lst (h.an.map V.str)) ∧
 H l3=some (.lst ns)∧ns.length≤1000∧(∀ u∈ns,∃ r xs,u=V.ref r∧H r=some (.tup xs))∧H l4=some (.lst gs)∧gs.length≤1000∧(∀ u∈gs,∃ r xs,u=V.ref r∧H r=some (.tup xs))∧H l5=some (.lst ws) ∧
 ∀ (t1 t2 t3 t4 t5:Addr) (H':Hp),bE p H H'→H' p=some (.ins Y.hp dx (Aj h t1 t2 (.ref t3) (.ref t4) t5))→H' t1=some (.tup (h.ps.map V.str))→H' t2=some (.tup (h.an.map V.str))→H' t3=some (.tup ns)→H' t4=some (.tup gs)→H' t5=some (.tup ws)→Q .eT H'
def vp (Y:Cy):Sp:=fun vs H Q _=>∃ (p dx l:Addr) (us:List V),vs=[.ref p,.ref l]∧H p=some (.ins Y.pg dx [])∧H l=some (.lst us)∧∀ (t:Addr) (H':Hp),bE p H H'→H' p=some (.ins Y.pg dx (bw "helpers" (.ref t) []))→H' t=some (.tup us)→Q .eT H'
def FY (Z:Cz):Sp:=fun vs H Q _=>∃ (t:Addr) (us:List V) (qs:List (Ps×Int)),vs=[.ref t]∧H t=some (.tup us)∧us.length≤1000∧Paired (Iw Z H) us qs∧∀ (r:Addr) (ws:List V) (H':Hp),aF H H'→H' r=some (.tup ws)→Paired (ua H') ws qs→Q (.ref r) H'
def AZ (Y:Cy) (n:Nat):Sp:=fun vs H Q _=>∃ (t:Addr) (us:List V) (l:List cV),vs=[.ref t]∧H t=some (.tup us)∧us.length≤1000∧iP Y H l us∧ku l≤n∧vF l∧∀ (r:Addr) (ws:List V) (H':Hp),aF H H'→H' r=some (.tup ws)→jC H' l ws→Q (.ref r) H'
def Jw (Y:Cy):Sp:=fun vs H Q _=>∃ (t:Addr) (us:List V) (l:List Hl),vs=[.ref t]∧H t=some (.tup us)∧us.length≤1000∧Paired (fun u h=>vm Y H h u) us l∧(∀ h∈l,h.ok)∧∀ (r:Addr) (ws:List V) (H':Hp),aF H H'→H' r=some (.tup ws)→Paired (fun u h=>su H' h u) ws l→Q (.ref r) H'
def AY (Z:Cz):Sp:=fun vs H Q _=>∃ (v:V) (hs:List (Int×Cd)),vs=[v]∧Tg Z H hs v∧(∀ q∈hs,q.2.dep≤3)∧∀ (v':V) (H':Hp),aF H H'→Iz H' hs v'→Q v' H'
def eE (Y:Cy) (n:Nat):Nat→Sp:=fun j vs H Q _=>∃ (p:Addr) (s:cV),vs=[.ref p]∧kd s=j∧cD Y H s (.ref p)∧s.dep≤n∧s.ok∧∀ (v:V) (H':Hp),aF H H'→ie H' s v→Q v H'
theorem QX (Y:Cy):∀ j vs H Q E,¬ eE Y 0 j vs H Q E:=fun _ _ _ _ _ ⟨_,s,_,_,_,d,_⟩=>by have:=tU s;omega
def wk (Y:Cy):Sp:=fun vs H Q _=>∃ (p:Addr) (h:Hl),vs=[.ref p]∧vm Y H h (.ref p)∧h.ok∧∀ (v:V) (H':Hp),aF H H'→su H' h v→Q v H'
def v8 (Y:Cy) (H:Hp) (p:Addr) (us:List V) (l:List Hl):Prop:=∃ dx t,H p=some (.ins Y.pg dx (bw "helpers" (.ref t) []))∧H t=some (.tup us)∧us.length≤1000∧Paired (fun u h=>vm Y H h u) us l
def mU (Y:Cy):Sp:=fun vs H Q _=>∃ (p:Addr) (us:List V) (l:List Hl),vs=[.ref p]∧v8 Y H p us l∧(∀ h∈l,h.ok)∧∀ (r:Addr) (ws:List V) (H':Hp),aF H H'→H' r=some (.tup ws)→Paired (fun u h=>su H' h u) ws l→Q (.ref r) H'
def nv (x:Str):List V→List Hl→V
 | u::us,h::l=>if h.nm=x then u else nv x us l
 | _,_=>.eT
def mV (Y:Cy):Sp:=fun vs H Q _=>∃ (p:Addr) (x:Str) (us:List V) (l:List Hl),vs=[.ref p,.str x]∧v8 Y H p us l∧∀ H',aF H H'→Q (nv x us l) H'
theorem LL {P:Program} {w:World} {K:PySem.W.Frag} {mg:Str→Option Value} {base:Heap} {Y:Cy} {m:Str} {ps:List Str} {sp:Nat→Nat→Sp} {lv:Nat→Nat} (f:Nat→Addr) (fd:Nat→FuncData)
  (hm:∀ j,j < 9→Meth K (gH Y j) m (f j)) (hb:∀ j,j < 9→Binds K (fd j) ps []) (h0:∀ j vs H Q E,¬ sp 0 j vs H Q E)
  (hs:∀ n,M9 P w K mg base (lv n) Y m ps (sp n)→∀ j,j < 9→bT P w K mg base dX (lv (n+1)) (f j) (fd j) ps (sp (n+1) j)):∀ n,M9 P w K mg base (lv n) Y m ps (sp n)
 | 0=>fun j hj=>⟨f j,fd j,u6 (h0 j),hm j hj,hb j hj⟩
 | n+1=>fun j hj=>⟨f j,fd j,hs n (LL f fd hm hb h0 hs n) j hj,hm j hj,hb j hj⟩
theorem pU:ZV "told":=by unfold ZV;decide +kernel
theorem pZ {c A B:Prop} [Decidable c] (hc:¬ c) (h:A):if (!decide c)=true then A else B:=by
 rw [decide_eq_false hc]
 exact h
end Hw
namespace Hw
open PySem L2
structure sr (x:Str):Prop where
 le:x.length≤8
 ge:1≤x.length
 no:(cp x).head?≠some 35
def Ug (x:Str):Prop:=∃ c,x=BJ c∧97≤c
theorem Ug.len {x:Str} (h:Ug x):x.length=1:=by obtain ⟨c,rfl,_⟩:=h;rfl
theorem Ox {cs:List Str} (h:∀ x∈cs,Ug x) (h1:1≤cs.length) (h8:cs.length≤8):sr (Txt.join (Str.ofString "") cs):=by
 have l:=Mq cs fun x hx=>(h x hx).len
 refine ⟨by omega,by omega,?_⟩
 rw [Fp]
 cases cs with
 | nil=>exact absurd h1 (by decide)
 | cons a r =>
  obtain ⟨c,rfl,hc⟩:=h a (List.mem_cons_self ..)
  show (some c:Option Nat)≠some 35
  intro e
  have:=Option.some.inj e
  omega
theorem xN {x:Str} (h:x∈nS):sr x:=by
 have a:∀ x∈nS,x.length≤8∧1≤x.length∧(cp x).head?≠some 35:=by decide +kernel
 exact ⟨(a x h).1,(a x h).2.1,(a x h).2.2⟩
theorem yI (k:Int) (t:Nat):sr (zt k t):=by
 unfold zt
 refine ⟨by rw [IZ];decide,by rw [IZ];decide,?_⟩
 unfold cp
 rw [zh]
 exact fun e=>nomatch e
theorem rB {α:Type} {a:α}:∀ {l:List α},l.Nodup→a ∉ l→(l++[a]).Nodup:=fun h n=>List.nodup_append.mpr ⟨h,by simp,fun x hx y hy=>by rw [List.mem_singleton.mp hy];exact fun e=>n (e ▸ hx)⟩
def wQ:Sp:=fun vs H Q _=>∃ (d:Addr) (m:Nat),vs=[.ref d,.int m]∧Dr H d∧m≤12 ∧
 ∀ (l:Addr) (xs:List Str) (H':Hp),bE d H H'→Dr H' d→H l=none→H' l=some (.lst (xs.map V.str))→xs.length=m→(∀ x∈xs,sr x)→xs.Nodup→Q (.ref l) H'
def iJ:Sp:=fun vs H Q _=>∃ (d l:Addr) (xs:List Str),vs=[.ref d,.ref l]∧Dr H d∧H l=some (.lst (xs.map V.str))∧xs.length≤100∧(∀ x∈xs,x.length≤100) ∧
 ∀ (r:Addr) (ts:Ps) (n:Int) (H':Hp),bE d H H'→Dr H' d→eW H' r ts n→Canon ts→Lt3 ts→(∀ p∈ts,p.1∈xs)→Small n→Q (.ref r) H'
def dm (n:Nat):Sp:=fun vs H Q _=>∃ (d l:Addr) (k:Nat) (xs:List Str),vs=[.ref d,.ref l,.int k]∧k < n∧Dr H d∧H l=some (.lst (xs.map V.str))∧xs.length≤100∧(∀ x∈xs,x.length≤100) ∧
 ∀ (v:V) (c:Cd) (H':Hp),bE d H H'→Dr H' d→bg H' c v→c.dep≤k+1→Gd xs c→Q v H'
theorem Q9:∀ vs H Q E,¬ dm 0 vs H Q E:=fun _ _ _ _ ⟨_,_,_,_,_,h,_⟩=>absurd h (by omega)
def Pa (H:Hp):Option (Int×Ps×Int)→V→Prop
 | none,v=>v=.eT
 | some q,v=>∃ d,v=.ref d∧eW H d q.2.1 q.2.2
def iR (H:Hp) (hs:List (Int×Cd)) (v:V):Prop:=∃ t us,v=.ref t∧H t=some (.tup us)∧Paired (fun u (q:Int×Cd)=>bg H q.2 u) us hs
mutual
def qp (H:Hp):cV→V→Prop
 | .flat k _ as,v=>∃ r us,v=.ref r∧H r=some (.tup (.str (kw k)::us))∧Paired (fun u a=>NL H a u) us as
 | .ny _ c t e,v=>∃ r uc t1 t2 us ws,v=.ref r∧H r=some (.tup [.str "choose",uc,.ref t1,.ref t2])∧bg H c uc∧H t1=some (.tup us)∧jZ H t us∧H t2=some (.tup ws)∧jZ H e ws
 | .rep _ c hs f b,v=>∃ r uc uh uf t2 ws,v=.ref r∧H r=some (.tup [.str "repeat",uc,uh,uf,.ref t2])∧bg H c uc∧iR H hs uh∧Pa H f uf∧H t2=some (.tup ws)∧jZ H b ws
def jZ (H:Hp):List cV→List V→Prop
 | [],us=>us=[]
 | s::l,us=>∃ u r,us=u::r∧qp H s u∧jZ H l r
end
theorem j8 {H:Hp}:∀ {l:List cV} {us:List V},jZ H l us↔Paired (fun u s=>qp H s u) us l
 | [],us=>by
  unfold jZ
  exact ⟨fun e=>e ▸ .nil,fun h=>by cases h;rfl⟩
 | c::cs,us=>by
  unfold jZ
  constructor
  ·rintro ⟨u,r,rfl,d1,d2⟩
   exact .cons d1 (j8.mp d2)
  ·intro h
   cases h with
   | cons d1 d2=>exact ⟨_,_,rfl,d1,j8.mpr d2⟩
theorem iR.ao {H H':Hp} (k:av H H') {hs:List (Int×Cd)} {v:V} (h:iR H hs v):iR H' hs v :=
 let ⟨t,us,e,et,p⟩:=h;⟨t,us,e,k.t _ _ et,L2.Paired.dg p fun _ _ z=>bg.ao k z⟩
theorem Pa.ao {H H':Hp} (k:av H H'):∀ {f:Option (Int×Ps×Int)} {v:V},Pa H f v→Pa H' f v
 | none,v,h=>h
 | some q,v,⟨d,e,dd⟩=>⟨d,e,dd.ao k⟩
mutual
theorem qp.ao {H H':Hp} (k:av H H'):∀ {s:cV} {v:V},qp H s v→qp H' s v
 | .flat kk at_ as,v,h=>by
  unfold qp at h ⊢
  obtain ⟨r,us,e,er,p⟩:=h
  exact ⟨r,us,e,k.t _ _ er,L2.Paired.dg p fun _ _ z=>NL.ao k z⟩
 | .ny at_ c t e,v,h=>by
  unfold qp at h ⊢
  obtain ⟨r,uc,t1,t2,us,ws,e0,er,hc,e1,h1,e2,h2⟩:=h
  exact ⟨r,uc,t1,t2,us,ws,e0,k.t _ _ er,hc.ao k,k.t _ _ e1,jZ.ao k h1,k.t _ _ e2,jZ.ao k h2⟩
 | .rep at_ c hs f b,v,h=>by
  unfold qp at h ⊢
  obtain ⟨r,uc,uh,uf,t2,ws,e0,er,hc,hh,hf,e2,h2⟩:=h
  exact ⟨r,uc,uh,uf,t2,ws,e0,k.t _ _ er,hc.ao k,hh.ao k,hf.ao k,k.t _ _ e2,jZ.ao k h2⟩
theorem jZ.ao {H H':Hp} (k:av H H'):∀ {l:List cV} {us:List V},jZ H l us→jZ H' l us
 | [],us,h=>by unfold jZ at h ⊢;exact h
 | c::cs,us,h=>by
  unfold jZ at h ⊢
  obtain ⟨u,r,e,d1,d2⟩:=h
  exact ⟨u,r,e,qp.ao k d1,jZ.ao k d2⟩
end
def IW (H:Hp) (h:Hl) (v:V):Prop:=∃ r t1 t2 v1 v2 t3 us,v=.ref r∧H r=some (.tup [.str h.nm,.ref t1,.ref t2,v1,v2,.ref t3])∧H t1=some (.tup (h.ps.map V.str))∧H t2=some (.tup (h.an.map V.str))∧iR H h.nd v1∧iR H h.gv v2∧H t3=some (.tup us)∧jZ H h.st us
theorem IW.ao {H H':Hp} (k:av H H') {h:Hl} {v:V} (g:IW H h v):IW H' h v:=by
 obtain ⟨r,t1,t2,v1,v2,t3,us,e,ep,e1,e2,h1,h2,e3,hs⟩:=g
 exact ⟨r,t1,t2,v1,v2,t3,us,e,k.t _ _ ep,k.t _ _ e1,k.t _ _ e2,h1.ao k,h2.ao k,k.t _ _ e3,hs.ao k⟩
structure Hl.nms (h:Hl):Prop where
 nm:sr h.nm
 ps:∀ x∈h.ps,1≤x.length∧x.length≤20
 an:∀ x∈h.an,x.length≤20
def A2:Sp:=fun vs H Q _=>∃ (v:V) (d:Addr) (hs:List (Int×Cd)),vs=[v,.ref d]∧iR H hs v∧Dr H d∧hs.length≤10∧∀ (v':V) (hs':List (Int×Cd)) (H':Hp),bE d H H'→Dr H' d→Iz H' hs' v'→hs'.length=hs.length→((∀ q∈hs,FJ q.2)→∀ q∈hs',FJ q.2)→Q v' H'
def Jx (n:Nat):Sp:=fun vs H Q _=>∃ (v:V) (d:Addr) (s:cV),vs=[v,.ref d]∧qp H s v∧s.ok∧s.dep≤n∧Dr H d∧∀ (v':V) (s':cV) (H':Hp),bE d H H'→Dr H' d→ie H' s' v'→s'.ok→s'.dep=s.dep→Q v' H'
def FZ (n:Nat):Sp:=fun vs H Q _=>∃ (t d:Addr) (us:List V) (l:List cV),vs=[.ref t,.ref d]∧H t=some (.tup us)∧jZ H l us∧vF l∧ku l≤n∧l.length≤10∧Dr H d∧∀ (r:Addr) (ws:List V) (l':List cV) (H':Hp),bE d H H'→Dr H' d→H' r=some (.tup ws)→jC H' l' ws→vF l'→ku l'=ku l→l'.length=l.length→Q (.ref r) H'
theorem pl0:∀ vs H Q E,¬ Jx 0 vs H Q E:=fun _ _ _ _ ⟨_,_,s,_,_,_,d,_⟩=>by have:=tU s;omega
def vo:Sp:=fun vs H Q _=>∃ (v:V) (d:Addr) (h:Hl),vs=[v,.ref d]∧IW H h v∧h.ok∧Dr H d∧∀ (v':V) (h':Hl) (H':Hp),bE d H H'→Dr H' d→su H' h' v'→h'.ok→h'.nm=h.nm→Q v' H'
def qv (Z:Cz):Sp:=fun vs H Q _=>∃ (p:Addr) (a:Ps) (n:Int),vs=[.ref p]∧eW H p a n∧yb a n∧∀ (r:Addr) (H':Hp),aF H H'→mO Z.s H' r a n→Q (.ref r) H'
def iM (Z:Cz) (n:Nat):Sp:=fun vs H Q _=>∃ (v:V) (c:Cd) (xs:List Str),vs=[v]∧bg H c v∧c.dep≤n∧Gd xs c∧∀ (v':V) (H':Hp),aF H H'→cP Z H' c v'→Q v' H'
theorem Qe (k:Nat):¬ kw k="choose"∧¬ kw k="repeat":=by
 unfold kw
 split <;> exact ⟨by decide +kernel,by decide +kernel⟩
theorem Az (x y:V) (us:List V):oR (x::y::us) none (some 2)=[x,y]:=by
 unfold oR
 have e1:HT.jt (x::y::us).length 0 none=0:=rfl
 have e2:HT.jt (x::y::us).length (x::y::us).length (some 2)=2:=by
  have:=HT.oA (x::y::us).length (x::y::us).length 2
  rw [show (some (2:Int))=some ((2:Nat):Int) from rfl,this]
  show min 2 (us.length+1+1)=2
  omega
 rw [e1,e2]
 rfl
theorem tW {x y:V} {us:List V} (h:1≤us.length):¬ (HT.jt (x::y::us).length 0 none=0∧HT.jt (x::y::us).length (x::y::us).length (some 2)=(x::y::us).length):=by
 have e2:HT.jt (x::y::us).length (x::y::us).length (some 2)=2:=by
  have:=HT.oA (x::y::us).length (x::y::us).length 2
  rw [show (some (2:Int))=some ((2:Nat):Int) from rfl,this]
  show min 2 (us.length+1+1)=2
  omega
 rw [e2]
 intro z
 have z2:2=us.length+1+1:=z.2
 omega
def sM (Z:Cz):Sp:=fun vs H Q _=>∃ (v:V) (hs:List (Int×Cd)),vs=[v]∧Iz H hs v∧hs.length≤10∧(∀ q∈hs,FJ q.2)∧∀ (l:Addr) (us:List V) (H':Hp),aF H H'→H l=none→H' l=some (.lst us)→Paired (fun u (q:Int×Cd)=>∃ r w,u=V.ref r∧H' r=some (.tup [.int q.1,w])∧cP Z H' q.2 w) us hs→Q (.ref l) H'
def nE (Y:Cy) (n:Nat):Sp:=fun vs H Q _=>∃ (t:Addr) (us:List V) (l:List cV),vs=[.ref t]∧H t=some (.tup us)∧jC H l us∧vF l∧ku l≤n∧l.length≤10∧∀ (q:Addr) (ws:List V) (H':Hp),aF H H'→H q=none→H' q=some (.lst ws)→iP Y H' l ws→Q (.ref q) H'
def A0 (Y:Cy) (n:Nat):Sp:=fun vs H Q _=>∃ (v:V) (s:cV),vs=[v]∧ie H s v∧s.ok∧s.dep≤n∧∀ (v':V) (H':Hp),aF H H'→cD Y H' s v'→Q v' H'
theorem a0n (Y:Cy):∀ vs H Q E,¬ A0 Y 0 vs H Q E:=fun _ _ _ _ ⟨_,s,_,_,_,d,_⟩=>by have:=tU s;omega
def vq (Y:Cy):Sp:=fun vs H Q _=>∃ (v:V) (h:Hl),vs=[v]∧su H h v∧h.ok∧∀ (v':V) (H':Hp),aF H H'→vm Y H' h v'→Q v' H'
end Hw
namespace L2
open PySem PySem.Spec PyProof.Rows
def notStar:Expr→Bool
 | .Starred ..=>false
 | _=>true
theorem mS {e:Expr} {es:List Expr} {env:Env} (h:notStar e=true):starEach (e::es) env=(false,eval e env)::starEach es env:=by
 cases e <;> first | rfl | cases h
theorem nO {pos:Pos} {env:Env}:∀ {es:List Expr},es.all notStar=true→(backTo pos (starEach es env)).any (·.1)=false
 | [],_=>rfl
 | e::es,h=>by
  have h:(notStar e && es.all notStar)=true:=h
  rw [Bool.and_eq_true] at h
  rw [mS h.1]
  show (false || (backTo pos (starEach es env)).any (·.1))=false
  rw [nO h.2]
  rfl
theorem AX {pos:Pos} {env:Env}:∀ {es:List Expr},es.all notStar=true→(backTo pos (starEach es env)).all (fun x=>!x.1)=true
 | [],_=>rfl
 | e::es,h=>by
  have h:(notStar e && es.all notStar)=true:=h
  rw [Bool.and_eq_true] at h
  rw [mS h.1]
  show (true && (backTo pos (starEach es env)).all (fun x=>!x.1))=true
  rw [AX h.2]
  rfl
section
variable {X:Cx} {CX:IF} {k:Nat} {f C:Addr} {fd:FuncData} {ps:List Str} {sp:Sp} {uo:List V} {ds:List Value} {E:XK} {x:Str} {p pos:Pos} {e:Expr} {es:List Expr} {te:TE} {t:TA}
theorem aa (ha:PE X e te) (hr:PA X es t) (h:notStar e=true:=by rfl):PA X (e::es) (PX te t):=dN ha hr (mS h)
theorem aq (F:bT X.prog X.w X.K X.mg X.base CX k f fd ps sp) (hr:dZ k X.A) (hg:Gl X x) (hm:X.mg x=some (.ref f)) (hk:PySem.W.keepIn X.K (.ref f)=true) (hb:Binds X.K fd ps ds) (hd:Vals uo ds) (hx:Passes CX X E)
  (ha:PA X (e::es) t) (h1:notStar e=true:=by rfl) (h2:es.all notStar=true:=by rfl) (hdb:(x == ("__debug__":Str))=false:=by decide):PE X (.Call (.Name x p) (e::es) [] pos) (FO sp uo E t) :=
 Oi F hr hg hm hk hb hd hx ha hdb (mS h1) (nO h2)
theorem dM (M:Mk X.K C f) (F:bT X.prog X.w X.K X.mg X.base CX k f fd ps sp) (hr:dZ (k+1) X.A) (hg:Gl X x) (hm:X.mg x=some (.ref C)) (hb:Binds X.K fd ps ds) (hd:Vals uo ds) (hx:Passes CX X E)
  (ha:PA X (e::es) t) (h1:notStar e=true:=by rfl) (h2:es.all notStar=true:=by rfl) (hdb:(x == ("__debug__":Str))=false:=by decide):PE X (.Call (.Name x p) (e::es) [] pos) (PV C sp uo E t) :=
 Gm M F hr hg hm hb hd hx ha hdb (mS h1) (nO h2)
theorem bF {id:String} {r:List V→Hp→VK→Prop} (hc:oW X (.builtin id) r) (hg:Gl X x) (hm:X.mg x=none) (hv:bootBuiltins x=some (.builtin id)) (ha:PA X (e::es) t) (h1:notStar e=true:=by rfl) (h2:es.all notStar=true:=by rfl) (hn:x≠"__name__":=by decide) (hdb:(x == ("__debug__":Str))=false:=by decide) :
  PE X (.Call (.Name x p) (e::es) [] pos) (X0 r t):=Bc hc hg hm hv ha hn hdb (mS h1) (nO h2)
theorem aS {T:String} {r:List V→Hp→VK→Prop} (hc:oW X (.type T) r) (hg:Gl X x) (hm:X.mg x=none) (hv:bootBuiltins x=some (.type T)) (ha:PA X (e::es) t) (h1:notStar e=true:=by rfl) (h2:es.all notStar=true:=by rfl) (hn:x≠"__name__":=by decide) (hdb:(x == ("__debug__":Str))=false:=by decide) :
  PE X (.Call (.Name x p) (e::es) [] pos) (X0 r t):=kc hc hg hm hv ha hn hdb (mS h1) (nO h2)
theorem q9 {T id:String} {name:Str} {r:V→List V→Hp→VK→Prop} {o:Expr} {to:TE} {apos cpos:Pos} (pa:PlainAttrs T) (slot:Slot T name id) (hty:typeOf (.builtin id)=pure (.type "method_descriptor")) (hm:ZW X id r) (ho:PE X o to) (ha:PA X (e::es) t)
  (h1:notStar e=true:=by rfl) (h2:es.all notStar=true:=by rfl) (h3:es.length < 20:=by decide) (hbase:attributeBase o name X.env (eval o X.env)=eval o X.env:=by rfl) (hline:(apos.endLine == cpos.line)=true:=by rfl) :
  PE X (.Call (.Attribute o name apos) (e::es) [] cpos) (tBM X.K T r to t) :=
 UK pa slot hty hm ho ha hbase (by
  rw [AX (show (e::es).all notStar=true by show (notStar e && es.all notStar)=true;rw [h1,h2];rfl)]
  show (true && true && decide (es.length+1+0+0 < 30))=true
  rw [decide_eq_true (by omega)]
  rfl) hline (mS h1) (nO h2)
end
end L2
namespace Hw
open PySem L2
structure Own where
 ws:List Str
 th:List Str
 mr:List Str
 us:List Str
structure Own.ok (o:Own):Prop where
 w1:1≤o.ws.length
 w9:o.ws.length≤20
 t1:1≤o.th.length
 t9:o.th.length≤20
 tl:∀ x∈o.th,x.length≤100
 m9:o.mr.length≤20
 u1:1≤o.us.length
 u9:o.us.length≤20
 ul:∀ x∈o.us,x.length≤50
def xT (H:Hp) (p:Addr) (o:Own):Prop:=∃ a b c e,H p=some (.tup [.ref a,.ref b,.ref c,.ref e])∧H a=some (.lst (o.ws.map V.str))∧H b=some (.lst (o.th.map V.str))∧H c=some (.lst (o.mr.map V.str))∧H e=some (.lst (o.us.map V.str))
theorem aW {H:Hp} {d a:Addr} {xs:List Str} (D:Dr H d) (h:H a=some (.lst (xs.map V.str))):a≠d:=by
 obtain ⟨x,y,ed⟩:=D
 refine yU h ed fun z=>?_
 cases xs with
 | nil=>cases z
 | cons a b=>cases z
theorem xT.next {H H':Hp} {p d:Addr} {o:Own} (h:xT H p o) (D:Dr H d) (b:bE d H H'):xT H' p o:=by
 obtain ⟨a,b',c,e,ep,ea,eb,ec,ee⟩:=h
 exact ⟨a,b',c,e,(D.soft b).t _ _ ep,b _ _ ea (aW D ea),b _ _ eb (aW D eb),b _ _ ec (aW D ec),b _ _ ee (aW D ee)⟩
structure HlG (h:Hl):Prop where
 ok:h.ok
 nm:h.nms
def lJ (H:Hp) (p:Addr) (us:List V) (hs:List Hl):Prop:=H p=some (.lst us)∧Paired (fun u h=>IW H h u) us hs∧(∀ h∈hs,HlG h)∧hs.length≤10
theorem lJ.ne {H:Hp} {p d:Addr} {us:List V} {hs:List Hl} (h:lJ H p us hs) (D:Dr H d):p≠d:=by
 obtain ⟨x,y,ed⟩:=D
 refine yU h.1 ed fun z=>?_
 have z:=HO.lst.inj z
 have hp:=h.2.1
 rw [z] at hp
 cases hp with
 | cons a r=>obtain ⟨_,_,_,_,_,_,_,e,_⟩:=a;cases e
theorem lJ.next {H H':Hp} {p d:Addr} {us:List V} {hs:List Hl} (h:lJ H p us hs) (D:Dr H d) (b:bE d H H'):lJ H' p us hs :=
 ⟨b _ _ h.1 (h.ne D),L2.Paired.dg h.2.1 fun _ _ z=>IW.ao (D.soft b) z,h.2.2.1,h.2.2.2⟩
theorem lJ.same {H H':Hp} {p:Addr} {us:List V} {hs:List Hl} (h:lJ H p us hs) (s:aF H H'):lJ H' p us hs :=
 ⟨s _ _ h.1,L2.Paired.dg h.2.1 fun _ _ z=>IW.ao (av.of s) z,h.2.2.1,h.2.2.2⟩
theorem Jz:Small 1:=⟨by decide,by decide⟩
theorem JA:Small 0:=⟨by decide,by decide⟩
theorem S8:Canon []:=⟨.nil,fun _ h=>nomatch h⟩
theorem S7 {x:Str} {n:Int} (h:n≠0):Canon [(x,n)]:=⟨.cons (fun _ h=>nomatch h) .nil,fun p hp=>by rw [List.mem_singleton.mp hp];exact h⟩
theorem Q0 {n:Int} (h:Small n):yb [] n:=⟨S8,⟨Nat.zero_le _,fun _ h=>nomatch h⟩,h⟩
theorem UA {x:Str} {n m:Int} (h0:n≠0) (h:Small n) (g:Small m):yb [(x,n)] m:=⟨S7 h0,⟨(by show 1≤3;decide),fun p hp=>by rw [List.mem_singleton.mp hp];exact h⟩,g⟩
theorem in2 (r:Nat) (a b:Nat):tQ (.int (r:Int)) [.int (a:Int),.int (b:Int)]=decide (r=a∨r=b):=by
 unfold tQ
 simp only [List.any_cons,List.any_nil,Bool.or_false]
 by_cases h1:r=a
 ·subst h1;simp [BC]
 ·by_cases h2:r=b
  ·subst h2;simp [BC]
  ·have e1:¬ ((a:Int)=(r:Int)):=by omega
   have e2:¬ ((b:Int)=(r:Int)):=by omega
   simp [BC,h1,h2,e1,e2]
def ig:Sp:=fun vs H Q _=>∃ (p:Addr) (us:List V) (hs:List Hl),vs=[.ref p]∧lJ H p us hs∧∀ (l:Addr) (ws:List V) (H':Hp),aF H H'→H' l=some (.lst ws)→Q (.ref l) H'
def ir:Sp:=fun vs H Q _=>∃ (d p:Addr) (v:V) (o:Own) (h:Hl),vs=[.ref d,.ref p,v]∧Dr H d∧xT H p o∧o.ok∧IW H h v∧HlG h∧∀ (v':V) (s:cV) (H':Hp),bE d H H'→Dr H' d→qp H' s v'→s.ok→s.dep=1→Q v' H'
def sO (n:Nat):Sp:=fun vs H Q _=>∃ (d p q:Addr) (k:Nat) (o:Own) (us:List V) (hs:List Hl),vs=[.ref d,.ref p,.int k,.ref q]∧k < n∧Dr H d∧xT H p o∧o.ok∧lJ H q us hs∧∀ (v:V) (s:cV) (H':Hp),bE d H H'→Dr H' d→qp H' s v→s.ok→s.dep≤k+1→Q v H'
def fL (n:Nat):Sp:=fun vs H Q _=>∃ (d p q:Addr) (m k:Nat) (o:Own) (us:List V) (hs:List Hl),vs=[.ref d,.ref p,.int m,.int k,.ref q]∧k < n∧m≤10∧Dr H d∧xT H p o∧o.ok∧lJ H q us hs∧∀ (r:Addr) (ws:List V) (l:List cV) (H':Hp),bE d H H'→Dr H' d→H' r=some (.tup ws)→jZ H' l ws→vF l→ku l≤k+1→l.length=m→Q (.ref r) H'
theorem SQ:∀ vs H Q E,¬ sO 0 vs H Q E:=fun _ _ _ _ ⟨_,_,_,_,_,_,_,_,h,_⟩=>absurd h (by omega)
def uw:Sp:=fun vs H Q _=>∃ (d l q:Addr) (x:Str) (m:Nat) (xs:List Str) (us:List V) (hs:List Hl),vs=[.ref d,.str x,.ref l,.int m,.ref q]∧Dr H d∧sr x∧H l=some (.lst (xs.map V.str))∧xs.length=8∧(∀ x∈xs,sr x)∧xs.Nodup∧m≤10∧lJ H q us hs ∧
 ∀ (v:V) (h:Hl) (H':Hp),bE d H H'→Dr H' d→IW H' h v→HlG h→h.nm=x→Q v H'
def mW:Sp:=fun vs H Q _=>∃ (d:Addr) (m:Nat),vs=[.ref d,.int m]∧Dr H d∧m≤5∧∀ (l:Addr) (us:List V) (hs:List Hl) (H':Hp),bE d H H'→Dr H' d→H l=none→lJ H' l us hs→1≤hs.length→(hs.map (·.nm)).Nodup→Q (.ref l) H'
theorem FU {x:Str} (h:1≤x.length):∃ c,Cm x.cps.toList (0:Int)=some c:=by
 have l:x.cps.toList.length=x.length:=by simp [Str.length]
 cases e:x.cps.toList with
 | nil=>rw [e] at l;simp at l;omega
 | cons a r=>exact ⟨a,bN (j:=0) rfl⟩
theorem GU (xs:List Str) (n:Nat):oR (xs.map V.str) none (some (n:Int))=(xs.take n).map V.str:=by
 unfold oR
 have e1:HT.jt (xs.map V.str).length 0 none=0:=rfl
 have e2:=HT.oA (xs.map V.str).length (xs.map V.str).length n
 rw [e1,e2,List.drop_zero,Nat.sub_zero,List.map_take]
 by_cases h:n≤(xs.map V.str).length
 ·rw [Nat.min_eq_left h]
 ·rw [Nat.min_eq_right (by omega),List.take_length,List.take_of_length_le (by omega)]
theorem Ni (xs:List Str) (a b:Nat):oR (xs.map V.str) (some (a:Int)) (some (b:Int))=((xs.drop a).take (b - a)).map V.str:=by
 unfold oR
 have e1:=HT.oA (xs.map V.str).length 0 a
 have e2:=HT.oA (xs.map V.str).length (xs.map V.str).length b
 rw [e1,e2,List.map_take,List.map_drop]
 have l:(xs.map V.str).length=xs.length:=List.length_map ..
 by_cases h:a≤(xs.map V.str).length
 ·rw [Nat.min_eq_left h]
  by_cases h2:b≤(xs.map V.str).length
  ·rw [Nat.min_eq_left h2]
  ·rw [Nat.min_eq_right (by omega),List.take_of_length_le (by rw [List.length_drop];omega),List.take_of_length_le (by rw [List.length_drop];omega)]
 ·have e3:min a (xs.map V.str).length=(xs.map V.str).length:=Nat.min_eq_right (by omega)
  rw [e3,List.drop_of_length_le (Nat.le_refl _),List.drop_of_length_le (show (xs.map V.str).length≤a by omega),List.take_nil,List.take_nil]
structure W9 (H0 H:Hp) (d p q a1 a2 a3 a4:Addr) (o:Own) (us:List V) (hs:List Hl):Prop where
 f:bE d H0 H
 d:Dr H d
 eo:H p=some (.tup [.ref a1,.ref a2,.ref a3,.ref a4])
 ea:H a1=some (.lst (o.ws.map V.str))
 eb:H a2=some (.lst (o.th.map V.str))
 ec:H a3=some (.lst (o.mr.map V.str))
 ee:H a4=some (.lst (o.us.map V.str))
 hl:lJ H q us hs
section
variable {H0 H H':Hp} {d p q a1 a2 a3 a4:Addr} {o:Own} {us:List V} {hs:List Hl}
theorem W9.own (W:W9 H0 H d p q a1 a2 a3 a4 o us hs):xT H p o:=⟨a1,a2,a3,a4,W.eo,W.ea,W.eb,W.ec,W.ee⟩
theorem W9.next (W:W9 H0 H d p q a1 a2 a3 a4 o us hs) (b:bE d H H') (D:Dr H' d):W9 H0 H' d p q a1 a2 a3 a4 o us hs :=
 ⟨W.f.trans b,D,(W.d.soft b).t _ _ W.eo,b _ _ W.ea (aW W.d W.ea),b _ _ W.eb (aW W.d W.eb),b _ _ W.ec (aW W.d W.ec),b _ _ W.ee (aW W.d W.ee),W.hl.next W.d b⟩
theorem W9.same (W:W9 H0 H d p q a1 a2 a3 a4 o us hs) (s:aF H H'):W9 H0 H' d p q a1 a2 a3 a4 o us hs :=
 ⟨W.f.trans (bE.of s),W.d.same s,s _ _ W.eo,s _ _ W.ea,s _ _ W.eb,s _ _ W.ec,s _ _ W.ee,W.hl.same s⟩
end
theorem z8 {xs:List Str} (h:1≤xs.length):¬ (xs.map V.str=[]):=fun z=>by
 have:=congrArg List.length z
 rw [List.length_map] at this
 simp at this
 rw [this] at h
 exact absurd h (by decide)
theorem Q2 {r:Nat} (h:r < 6):∃ i:Int,([V.int 2,.int 3,.int (-2),.int 1,.int 7,.int 0]:List V)[r]?=some (.int i)∧Small i:=by
 match r,h with
 | 0,_=>exact ⟨2,rfl,by decide,by decide⟩
 | 1,_=>exact ⟨3,rfl,by decide,by decide⟩
 | 2,_=>exact ⟨-2,rfl,by decide,by decide⟩
 | 3,_=>exact ⟨1,rfl,by decide,by decide⟩
 | 4,_=>exact ⟨7,rfl,by decide,by decide⟩
 | 5,_=>exact ⟨0,rfl,by decide,by decide⟩
def Ue (H:Hp) (l:List cV) (v:V):Prop:=∃ t us,v=.ref t∧H t=some (.tup us)∧jZ H l us
theorem Ue.ao {H H':Hp} {l:List cV} {v:V} (h:Ue H l v) (k:av H H'):Ue H' l v:=let ⟨t,us,e,et,r⟩:=h;⟨t,us,e,k.t _ _ et,r.ao k⟩
end Hw
namespace L2
open PySem PySem.Spec PyProof.Rows
theorem qH {X:Cx} {K:PySem.W.Frag} (h:X.K=K):sy X (compareOp .NotIn) (X7 K true):=h ▸ zJ
end L2
namespace Hw
open PySem L2
theorem Nm {K:PySem.W.Frag} {H:Hp} {r1 r2:Addr} {a b:List Str} {Q:VK} (h1:H r1=some (.tup (a.map V.str))) (h2:H r2=some (.tup (b.map V.str))) (hl:a.length+b.length≤1000) (q:∀ (r:Addr) (H':Hp),aF H H'→H' r=some (.tup ((a++b).map V.str))→Q (.ref r) H'):P6 K (.ref r1) (.ref r2) H Q:=by
 refine ⟨r1,r2,_,_,rfl,rfl,aV.of h1,aV.of h2,(by rw [List.length_map,List.length_map];exact Nat.le_of_lt (line _ (by omega))),fun z=>?_,fun _ z=>?_,fun _ _ r hr=>?_⟩
 ·have e:a=[]:=List.map_eq_nil_iff.mp z
  subst e
  exact q _ H (aF.refl _) h2
 ·have e:b=[]:=List.map_eq_nil_iff.mp z
  subst e
  rw [List.append_nil] at q
  exact q _ H (aF.refl _) h1
 ·refine q _ _ (new hr) ?_
  rw [af,List.map_append]
theorem kj {xs:List Str} {i:Nat} {v:V} (h:(xs.map V.str)[i]?=some v):∃ y,xs[i]?=some y∧v=.str y:=by
 rw [List.getElem?_map] at h
 cases q:xs[i]? with
 | none=>rw [q] at h;cases h
 | some y=>rw [q] at h;cases h;exact ⟨y,rfl,rfl⟩
def hsh (x:Str):Str:=("#":Str)++x
theorem GH (x:Str):(hsh x).length=1+x.length:=by unfold hsh;rw [lP];rfl
theorem Mu (x:Str):(cp (hsh x)).head?=some 35:=by
 unfold hsh cp
 rw [qB]
 rfl
end Hw
namespace Hw
open PySem L2
structure Nx (K:PySem.W.Frag) (Y:Cy):Prop where
 ca:∀ j,j < 9→PySem.W.findIn K (.ref (gH Y j)) "__class__"=some (some (.builtin "object.__class__"))
 cm:∀ j,j < 9→PySem.W.mroIn K (gH Y j) (.type "object")=some true
 kk:∀ j i,j < 9→i < 9→PySem.W.kitOne K (.ref (gH Y j)) (.ref (gH Y i))=some (decide (j=i))
 kS:∀ j,j < 9→PySem.W.kitOne K (.ref (gH Y j)) (.ref Y.st)=some true
theorem Ob {K:PySem.W.Frag} {mg:Str→Option Value} {Y:Cy} {fS:Addr} {H:Hp} {s:cV} {p:Addr} (T:Txt K mg Y.z.s) (J:gD K mg Y fS) (W:Nx K Y) (h:cD Y H s (.ref p)):sf K H (.ref p) (.ref (gH Y (kd s))) :=
 let ⟨_,_,e,_⟩:=AW h pU
 .ins e (J.cl _ (nU h)) (W.ca _ (nU h)) T.cg T.ct (W.cm _ (nU h))
theorem cJ {K:PySem.W.Frag} {H:Hp} {n:Nat} {a b:Addr} {xs ys:List V} (h:H a=some (.tup xs)) (g:H b=some (.tup ys)) (p:Paired (j4 K H n) xs ys):j4 K H (n+1) (.ref a) (.ref b):=.inr ⟨a,b,xs,ys,rfl,rfl,.inr ⟨aV.of h,aV.of g⟩,p⟩
theorem dH {K:PySem.W.Frag} {H:Hp} {n:Nat} {x:V} (h:mG x=true):j4 K H n x x:=cu (n:=0) ⟨h,rfl⟩ (Nat.zero_le _)
theorem rj {α:Type} {F G:V→α→Prop} {R:V→V→Prop} (f:∀ u v a,F u a→G v a→R u v):∀ {us vs:List V} {l:List α},Paired F us l→Paired G vs l→Paired R us vs
 | _,_,_,.nil,.nil=>.nil
 | _,_,_,.cons a p,.cons b q=>.cons (f _ _ _ a b) (rj f p q)
theorem kW {α:Type} {F G:V→α→Prop} {R:V→V→Prop}:∀ {us vs:List V} {l:List α},(∀ u v a,a∈l→F u a→G v a→R u v)→Paired F us l→Paired G vs l→Paired R us vs
 | _,_,_,_,.nil,.nil=>.nil
 | _,_,_,f,.cons a p,.cons b q=>.cons (f _ _ _ (List.mem_cons_self ..) a b) (kW (fun u v a m=>f u v a (List.mem_cons_of_mem _ m)) p q)
theorem lS {K:PySem.W.Frag} {H:Hp} {n:Nat} (l:List Str):Paired (j4 K H n) (l.map V.str) (l.map V.str):=uV (i0 _)
theorem Nu {K:PySem.W.Frag} {H:Hp}:∀ {a:Ar} {x y:V},a.ok→NL H a x→NL H a y→j4 K H 6 x y
 | .tx s,x,y,_,h,g=>by
  have h:x=V.str s:=h
  have g:y=V.str s:=g
  subst h g
  exact dH rfl
 | .sm a n,x,y,_,⟨r,e,d⟩,⟨r',e',d'⟩=>by
  subst e e'
  exact cu (gW d d') (by decide)
 | .N3 l,x,y,_,⟨r,e,d⟩,⟨r',e',d'⟩=>by
  subst e e'
  exact cJ d d' (lS l)
 | .Oc l,x,y,_,⟨r,us,e,d,p⟩,⟨r',us',e',d',p'⟩=>by
  subst e e'
  refine cJ d d' (rj (fun u v a h g=>?_) p p')
  obtain ⟨q,rfl,hd⟩:=h
  obtain ⟨q',rfl,hd'⟩:=g
  exact cu (gW hd hd') (by decide)
 | .cd c,x,y,o,h,g=>cu (jy h g) (by have:c.dep≤3:=o.2;omega)
theorem pQ {K:PySem.W.Frag} {H:Hp} {hs:List (Int×Cd)} {x y:V} (ok:∀ q∈hs,q.2.dep≤3) (h:Iz H hs x) (g:Iz H hs y):j4 K H 8 x y:=by
 obtain ⟨t,us,rfl,et,p⟩:=h
 obtain ⟨t',us',rfl,et',p'⟩:=g
 refine cJ et et' (kW (fun u v a m h g=>?_) p p')
 obtain ⟨r,w,rfl,er,hd⟩:=h
 obtain ⟨r',w',rfl,nZ,hd'⟩:=g
 exact cJ er nZ (.cons (dH rfl) (.cons (cu (jy hd hd') (by have:=ok a m;omega)) .nil))
theorem Bx {K:PySem.W.Frag} {H:Hp}:∀ {f:Option (Int×Ps×Int)} {x y:V},Qw H f x→Qw H f y→j4 K H 6 x y
 | none,x,y,h,g=>by
  have h:x=V.eT:=h
  have g:y=V.eT:=g
  subst h g
  exact dH rfl
 | some q,x,y,⟨r,d,e,er,dd⟩,⟨r',d',e',nZ,SS⟩=>by
  subst e e'
  exact cJ er nZ (.cons (dH rfl) (.cons (cu (gW dd SS) (by decide)) .nil))
mutual
theorem tE {K:PySem.W.Frag} {H:Hp}:∀ {s:cV} {n:Nat} {x y:V},s.ok→s.dep≤n→ie H s x→ie H s y→j4 K H (2*n+7) x y
 | .flat k at_ as,n,x,y,o,l,h,g=>by
  unfold ie at h g
  unfold cV.ok at o
  obtain ⟨r,us,rfl,er,p⟩:=h
  obtain ⟨r',us',rfl,nZ,p'⟩:=g
  exact cJ er nZ (.cons (dH rfl) (.cons (dH rfl) (kW (fun u v a m h g=>cu (Nu (o.2 a m) h g) (by omega)) p p')))
 | .ny at_ c t e,n,x,y,o,l,h,g=>by
  unfold ie at h g
  unfold cV.ok at o
  unfold cV.dep at l
  obtain ⟨r,uc,t1,t2,us,ws,rfl,er,hc,e1,h1,e2,h2⟩:=h
  obtain ⟨r',Z4,t1',vP,us',PK,rfl,nZ,hc',SO,Cj,IT,h2'⟩:=g
  obtain ⟨m,rfl⟩:∃ m,n=m+1:=⟨n - 1,by omega⟩
  have d3:=o.1.2
  refine cu (n:=(2*m+7+1)+1) (cJ er nZ (.cons (dH rfl) (.cons (dH rfl) (.cons (cu (jy hc hc') (by omega)) (.cons (cJ e1 SO (nQ o.2.2.2.1 (by omega) h1 Cj)) (.cons (cJ e2 IT (nQ o.2.2.2.2 (by omega) h2 h2')) .nil)))))) (by omega)
 | .rep at_ c hs f b,n,x,y,o,l,h,g=>by
  unfold ie at h g
  unfold cV.ok at o
  unfold cV.dep at l
  obtain ⟨r,uc,uh,uf,t2,ws,rfl,er,hc,hh,hf,e2,h2⟩:=h
  obtain ⟨r',Z4,uh',uf',vP,PK,rfl,nZ,hc',Y4,hf',IT,h2'⟩:=g
  obtain ⟨m,rfl⟩:∃ m,n=m+1:=⟨n - 1,by omega⟩
  have d3:=o.1.2
  refine cu (n:=(2*m+7+1)+1) (cJ er nZ (.cons (dH rfl) (.cons (dH rfl) (.cons (cu (jy hc hc') (by omega)) (.cons (cu (pQ (fun q hq=>(o.2.2.1 q hq).2) hh Y4) (by omega)) (.cons (cu (Bx hf hf') (by omega)) (.cons (cJ e2 IT (nQ o.2.2.2.2.2 (by omega) h2 h2')) .nil))))))) (by omega)
theorem nQ {K:PySem.W.Frag} {H:Hp}:∀ {l:List cV} {n:Nat} {us ws:List V},vF l→ku l≤n→jC H l us→jC H l ws→Paired (j4 K H (2*n+7)) us ws
 | [],n,us,ws,o,d,h,g=>by
  unfold jC at h g
  subst h g
  exact .nil
 | s::l,n,us,ws,o,d,h,g=>by
  unfold jC at h g
  unfold vF at o
  unfold ku at d
  obtain ⟨u,r,rfl,d1,d2⟩:=h
  obtain ⟨u',r',rfl,O1,Wd⟩:=g
  exact .cons (tE o.1 (by omega) d1 O1) (nQ o.2 (by omega) d2 Wd)
end
theorem Br {K:PySem.W.Frag} {H:Hp} {h:Hl} {x y:V} (o:h.ok) (a:su H h x) (b:su H h y):j4 K H 15 x y:=by
 obtain ⟨r,t1,t2,v1,v2,t3,us,rfl,er,e1,e2,h1,h2,e3,hs⟩:=a
 obtain ⟨r',t1',vP,v1',v2',t3',us',rfl,nZ,SO,IT,Cj,h2',OY,hs'⟩:=b
 exact cJ er nZ (.cons (dH rfl) (.cons (dH rfl) (.cons (dH rfl) (.cons (cJ e1 SO (lS _)) (.cons (cJ e2 IT (lS _)) (.cons (cu (pQ (fun q hq=>(o.nd q hq).2) h1 Cj) (by decide)) (.cons (cu (pQ (fun q hq=>(o.gv q hq).2) h2 h2') (by decide)) (.cons (cJ e3 OY (nQ (n:=3) o.st o.dp hs hs')) .nil))))))))
theorem gz {K:PySem.W.Frag} {H:Hp} {n:Nat} {k:Bool} {a b:Addr} {Q:VK} (h:j4 K H (n+1) (.ref a) (.ref b)) (q:Q (.bl k) H):A9 K n k (.ref a) (.ref b) H Q:=by
 rcases h with ⟨f,_⟩ | ⟨a',b',xs,ys,e,e',s,p⟩
 ·cases f
 ·cases e;cases e';exact ⟨a,b,xs,ys,rfl,rfl,s,p,q⟩
def wF (H:Hp) (u:V) (q:Int×Cd):Prop:=∃ r w,u=V.ref r∧H r=some (.tup [.int q.1,w])∧bg H q.2 w
theorem wF.ao {H H':Hp} {u:V} {q:Int×Cd} (k:av H H') (h:wF H u q):wF H' u q:=let ⟨r,w,e,e',d⟩:=h;⟨r,w,e,k.t _ _ e',d.ao k⟩
theorem wF.all {H H':Hp} {us:List V} {l:List (Int×Cd)} (k:av H H') (h:Paired (wF H) us l):Paired (wF H') us l:=L2.Paired.dg h fun _ _ z=>z.ao k
theorem KN {K:PySem.W.Frag} {H:Hp} {us vs:List V} {l:List (Int×Cd)} (ok:∀ q∈l,q.2.dep≤3) (h:Paired (wF H) us l) (g:Paired (wF H) vs l):Paired (j4 K H 8) us vs:=by
 refine kW (fun u v a m h g=>?_) h g
 obtain ⟨r',w',rfl,e',d'⟩:=h
 obtain ⟨r9,w9,rfl,e9,d9⟩:=g
 have:=ok a m
 exact cJ e' e9 (.cons (dH rfl) (.cons (cu (jy d' d9) (by omega)) .nil))
def o6 (Y:Cy) (n:Nat):Sp:=fun vs H Q _=>∃ (p:Addr) (v:V) (s:cV),vs=[.ref p,v]∧cD Y H s (.ref p)∧ie H s v∧s.ok∧s.dep≤n∧s.dep≤3∧∀ H',aF H H'→Q (.bl true) H'
def jF (Y:Cy) (n:Nat):Sp:=fun vs H Q _=>∃ (p:Addr) (v:V) (s:cV),vs=[.ref p,v]∧(kd s=5∨7≤kd s)∧cD Y H s (.ref p)∧ie H s v∧s.ok∧s.dep≤n∧s.dep≤3∧∀ H',aF H H'→Q (.bl true) H'
def zq (Y:Cy) (n:Nat):Sp:=fun vs H Q _=>∃ (t r:Addr) (us ws:List V) (l:List cV),vs=[.ref t,.ref r]∧H t=some (.tup us)∧iP Y H l us∧H r=some (.tup ws)∧jC H l ws∧vF l∧ku l≤n∧ku l≤3∧l.length≤10∧∀ H',aF H H'→Q (.bl true) H'
theorem OR (Y:Cy):∀ vs H Q E,¬ o6 Y 0 vs H Q E:=fun _ _ _ _ ⟨_,_,s,_,_,_,_,d,_⟩=>by have:=tU s;omega
def kR (Y:Cy):Sp:=fun vs H Q _=>∃ (p:Addr) (v:V) (h:Hl),vs=[.ref p,v]∧vm Y H h (.ref p)∧su H h v∧h.ok∧∀ H',aF H H'→Q (.bl true) H'
def Jr:Nat→Str
 | 7=>"choose" | 8=>"repeat" | k=>kw k
def LR:List Str:=["let","divide","fetch","put","make","claim","choose","repeat","call"]
theorem LS {j:Nat} (h:j < 9):LR.map (fun w=>V.bl (decide (V.str w=V.str (Jr j))))=([0,1,2,3,4,5,7,8,6]:List Nat).map (fun i=>V.bl (decide (j=i))):=by
 match j,h with
 | 0,_=>decide +kernel
 | 1,_=>decide +kernel
 | 2,_=>decide +kernel
 | 3,_=>decide +kernel
 | 4,_=>decide +kernel
 | 5,_=>decide +kernel
 | 6,_=>decide +kernel
 | 7,_=>decide +kernel
 | 8,_=>decide +kernel
theorem uu {j k:Nat} (hj:j < 9) (hk:k < 9) (h:¬ j=k):¬ Jr j=Jr k:=by
 have a:∀ j,j < 9→∀ k,k < 9→¬ j=k→¬ Jr j=Jr k:=by decide +kernel
 exact a j hj k hk h
theorem Ui {j:Nat} (hj:j < 9) (h0:¬ j=0) (h1:¬ j=1) (h2:¬ j=2):¬ Jr j∈([("let":Str),"divide","fetch"]:List Str):=by
 match j,hj with
 | 0,_=>exact absurd rfl h0
 | 1,_=>exact absurd rfl h1
 | 2,_=>exact absurd rfl h2
 | 3,_=>decide +kernel
 | 4,_=>decide +kernel
 | 5,_=>decide +kernel
 | 6,_=>decide +kernel
 | 7,_=>decide +kernel
 | 8,_=>decide +kernel
def cV.pl:cV→Int
 | .flat _ a _=>a
 | .ny a _ _ _=>a
 | .rep a _ _ _ _=>a
theorem QO {k:Nat} {as:List Ar} (h:ZU k as):Jr k=kw k:=by
 match k,h with
 | 0,_=>rfl
 | 1,_=>rfl
 | 2,_=>rfl
 | 3,_=>rfl
 | 4,_=>rfl
 | 5,_=>rfl
 | 6,_=>rfl
theorem iC {H:Hp} {s:cV} {v:V} (o:s.ok) (h:ie H s v):∃ r us,v=.ref r∧H r=some (.tup (.str (Jr (kd s))::.int s.pl::us)):=by
 cases s with
 | flat k at_ as =>
  unfold cV.ok at o
  unfold ie at h
  obtain ⟨r,us,rfl,er,_⟩:=h
  refine ⟨r,us,rfl,?_⟩
  show H r=some (.tup (.str (Jr k)::.int at_::us))
  rw [QO o.1]
  exact er
 | ny at_ c t e =>
  unfold ie at h
  obtain ⟨r,uc,t1,t2,us,ws,rfl,er,_⟩:=h
  exact ⟨r,_,rfl,er⟩
 | rep at_ c hs f b =>
  unfold ie at h
  obtain ⟨r,uc,uh,uf,t2,ws,rfl,er,_⟩:=h
  exact ⟨r,_,rfl,er⟩
theorem step_at {Y:Cy} {H:Hp} {s:cV} {p:Addr} (h:cD Y H s (.ref p)):∃ dx fs,H p=some (.ins (gH Y (kd s)) dx fs)∧fs.lookup ("at":Str)=some (V.int s.pl):=by
 cases s with
 | flat k at_ as =>
  unfold cD at h
  obtain ⟨q,dx,us,e,sh,ep,pp⟩:=h
  cases e
  refine ⟨dx,_,ep,?_⟩
  match k,sh with
  | 0,⟨_,_,_,e⟩=>subst e;cases pp with | cons a r=>cases r with | cons b r=>cases r;exact cG (by decide +kernel) (cG (by decide +kernel) eu)
  | 1,⟨_,_,_,_,_,_,e⟩=>subst e;cases pp with | cons a r=>cases r with | cons b r=>cases r with | cons c r=>cases r with | cons d r=>cases r;exact cG (by decide +kernel) (cG (by decide +kernel) (cG (by decide +kernel) (cG (by decide +kernel) eu)))
  | 2,⟨_,_,_,_,e⟩=>subst e;cases pp with | cons a r=>cases r with | cons b r=>cases r with | cons c r=>cases r;exact cG (by decide +kernel) (cG (by decide +kernel) (cG (by decide +kernel) eu))
  | 3,⟨_,_,_,_,_,e⟩=>subst e;cases pp with | cons a r=>cases r with | cons b r=>cases r with | cons c r=>cases r;exact cG (by decide +kernel) (cG (by decide +kernel) (cG (by decide +kernel) eu))
  | 4,⟨_,_,_,e⟩=>subst e;cases pp with | cons a r=>cases r with | cons b r=>cases r;exact cG (by decide +kernel) (cG (by decide +kernel) eu)
  | 5,⟨_,e⟩=>subst e;cases pp with | cons a r=>cases r;exact cG (by decide +kernel) eu
  | 6,⟨_,_,_,e⟩=>subst e;cases pp with | cons a r=>cases r with | cons b r=>cases r with | cons c r=>cases r;exact cG (by decide +kernel) (cG (by decide +kernel) (cG (by decide +kernel) eu))
 | ny at_ c t e =>
  unfold cD at h
  obtain ⟨q,dx,uc,t1,t2,us,ws,e0,ep,_⟩:=h
  cases e0
  exact ⟨dx,_,ep,cG (by decide +kernel) (cG (by decide +kernel) (cG (by decide +kernel) eu))⟩
 | rep at_ c hs f b =>
  unfold cD at h
  obtain ⟨q,dx,uc,uh,uf,t2,ws,e0,ep,_⟩:=h
  cases e0
  exact ⟨dx,_,ep,cG (by decide +kernel) (cG (by decide +kernel) (cG (by decide +kernel) (cG (by decide +kernel) eu)))⟩
theorem Od {k:Nat} {as:List Ar} (h:ZU k as):k < 7:=by
 match k,h with
 | 0,_=>decide
 | 1,_=>decide
 | 2,_=>decide
 | 3,_=>decide
 | 4,_=>decide
 | 5,_=>decide
 | 6,_=>decide
theorem Xn {j:Nat} (h:j < 9):("at":Str)∈fN j:=by
 match j,h with
 | 0,_=>decide +kernel
 | 1,_=>decide +kernel
 | 2,_=>decide +kernel
 | 3,_=>decide +kernel
 | 4,_=>decide +kernel
 | 5,_=>decide +kernel
 | 6,_=>decide +kernel
 | 7,_=>decide +kernel
 | 8,_=>decide +kernel
end Hw
namespace PySem
open Sem (wp)
open Builtin
section
variable {prog:Program} {w:World} {A:Around} {E:Value→Shared→Prop} {h:Heap} {g:Array GenState} {d:Drawn} {t:Nat} {os:OsState} {K:W.Frag} {C x:Addr} {o:Obj}
theorem a0q {M:Model} {name:Str} {r:Option Value} {Q:Option Value→Shared→Prop} (X:K.In h) (hx:h.get? x=some o) (hc:o.cls=.ref C) (hf:W.findIn K (.ref C) name=some r) (hq:Q r ⟨h,g,d,t,os⟩) :
  wpAny M A (specialOf (.ref x) name) Q E ⟨h,g,d,t,os⟩:=by
 unfold specialOf
 repeat (first | (with_reducible refine wpAny_loadPart_at hx ?_;rw [hc]) | (with_reducible refine W.Looks.at (W.looks_findIn X hf) ?_) | wp_step)
 exact hq
theorem Nk {M:Model} {B:String} {name:Str} {id:String} {args:List Value} {Q:Option Value→Shared→Prop} (X:K.In h) (hx:h.get? x=some o) (hc:o.cls=.ref C) (hf:W.findIn K (.ref C) name=some (some (.builtin id))) (S:Slot B name id)
  (hcall:wpAny M A (call (.builtin id) (.ref x::args)) (fun v=>Q (some v)) E ⟨h,g,d,t,os⟩):wpAny M A (callSpecialIfBound? (.ref x) name args) Q E ⟨h,g,d,t,os⟩:=by
 simp only [callSpecialIfBound?,bindSpecialIfBound?]
 refine wpAny_holding (wpAny_bind (wpAny_bind (a0q X hx hc hf ?_)))
 simp only [S.bind]
 refine wpAny_bind (wpAny_askSetting (wpAny_ite ?_))
 have fin:wpAny M A (call (.builtin id) ([.ref x]++args) >>= fun v=>pure (some v)) Q E ⟨h,g,d,t,os⟩ :=
  wpAny_bind (wpAny_mono hcall (fun v s' h'=>wpAny_pure h') fun _ _ h'=>h')
 split
 ·exact wpAny_bind (wpAny_pure (wpAny_pure fin))
 ·exact wpAny_tryCatch (wpAny_bind (wpAny_pure (wpAny_pure fin)))
theorem Qn {M:Model} {id owner n:String} {rest:List Value} {Q:Unit→Shared→Prop} (hk:builtinKind id=some .slot) (hs:splitId id=some (owner,n))
  (ha:argsOk id ⟨.ref x::rest,[]⟩) (X:K.In h) (hx:h.get? x=some o) (hc:o.cls=.ref C) (hm:W.mroIn K C (.type owner)=some true) (hq:Q () ⟨h,g,d,t,os⟩) :
  wpAny M A (checkBuiltinCall id ⟨.ref x::rest,[]⟩) Q E ⟨h,g,d,t,os⟩:=by
 simp only [checkBuiltinCall,hk,hs]
 refine wpAny_bind ?_
 ·unfold isInstance
  repeat (first | (with_reducible refine wpAny_loadPart_at hx ?_;rw [hc]) | (with_reducible refine W.Looks.at (W.looks_mroIn X hm) ?_) | wp_step)
  cases a75:Manifest.signature? id with
  | none=>exact wpAny_pure hq
  | some sig =>
   simp only [argsOk,a75] at ha
   have h2:Bind.checkArgs id sig ⟨.ref x::rest,[]⟩=pure ():=ha
   show wpAny M A (Bind.checkArgs id sig ⟨.ref x::rest,[]⟩) Q E _
   rw [h2];exact wpAny_pure hq
theorem VX (X:K.In h) (hx:h.get? x=some o) (hc:o.cls=.ref C) (he:W.findIn K (.ref C) "__eq__"=some (some (.builtin "object.__eq__"))) (hm:W.mroIn K C (.type "object")=some true) {Q:Option Value→Shared→Prop} (hq:Q (some (.bool true)) ⟨h,g,d,t,os⟩) :
  wpAny (model prog w) A (callSpecialIfBound? (.ref x) "__eq__" [.ref x]) Q E ⟨h,g,d,t,os⟩ :=
 Nk X hx hc he F.cmp_object.eq (wpAny_call (codeAny_call_builtin F.cmp_object.eq.plain F.cmpEntry_eq (Qn F.cmpKind_eq F.cmpSplit_eq (F.cmpArgs_eq _ _) X hx hc hm (objEq_entry_same hq))))
theorem UX (X:K.In h) (hx:h.get? x=some o) (hc:o.cls=.ref C) (he:W.findIn K (.ref C) "__eq__"=some (some (.builtin "object.__eq__"))) (hm:W.mroIn K C (.type "object")=some true) (hu:A.units < cLine) {Q:Fin→Shared→Prop} (hq:Q (.done (.ret (.bool false))) ⟨h,g,d,t,os⟩) :
  wpAny (model prog w) A (Builtin.«object.__ne__» ⟨[.ref x,.ref x],[]⟩) Q E ⟨h,g,d,t,os⟩:=by
 unfold Builtin.«object.__ne__»
 repeat (first | with_reducible refine wpAny_cRoomFor hu ?_ | with_reducible refine VX X hx hc he hm ?_ | wp_step)
 exact hq
theorem N5 (X:K.In h) (hx:h.get? x=some o) (hc:o.cls=.ref C) (hn:W.findIn K (.ref C) "__ne__"=some (some (.builtin "object.__ne__"))) (he:W.findIn K (.ref C) "__eq__"=some (some (.builtin "object.__eq__"))) (hm:W.mroIn K C (.type "object")=some true) (hu:A.units+1 < cLine) {Q:Option Value→Shared→Prop} (hq:Q (some (.bool false)) ⟨h,g,d,t,os⟩) :
  wpAny (model prog w) A (tryCompare (.ref x) "__ne__" (.ref x)) Q E ⟨h,g,d,t,os⟩:=by
 simp only [tryCompare]
 refine wpAny_bind (Nk X hx hc hn F.cmp_object.ne (wpAny_call (codeAny_call_builtin F.cmp_object.ne.plain F.cmpEntry_ne (Qn F.cmpKind_ne F.cmpSplit_ne (F.cmpArgs_ne _ _) X hx hc hm (UX (A:=A.in1) X hx hc he hm hu ?_)))))
 exact wpAny_pure hq
theorem Q6 (X:K.In h) (hx:h.get? x=some o) (hc:o.cls=.ref C) (hn:W.findIn K (.ref C) "__ne__"=some (some (.builtin "object.__ne__"))) (he:W.findIn K (.ref C) "__eq__"=some (some (.builtin "object.__eq__"))) (hm:W.mroIn K C (.type "object")=some true) (hu:A.units+1 < cLine) {Q:Value→Shared→Prop} (hq:Q (.bool false) ⟨h,g,d,t,os⟩) :
  wpAny (model prog w) A (compareOp .NotEq (.ref x) (.ref x)) Q E ⟨h,g,d,t,os⟩:=by
 have hu0:A.units < cLine:=Nat.lt_of_succ_lt hu
 show wpAny (model prog w) A (richCompare .NotEq (.ref x) (.ref x)) Q E ⟨h,g,d,t,os⟩
 simp only [richCompare,cmpInfo_NotEq,oneThing_ref]
 have nb:∀ {α:Type} {k:Bool→Sem α} {Q:α→Shared→Prop},wpAny (model prog w) A (k false) Q E ⟨h,g,d,t,os⟩→wpAny (model prog w) A (if Value.ref C != Value.ref C then isSubtype (.ref C) (.ref C) >>= k else pure false >>= k) Q E ⟨h,g,d,t,os⟩:=fun hq=>by
  rw [if_neg (by simp)]
  exact wpAny_bind (wpAny_pure hq)
 repeat (first | with_reducible refine wpAny_cRoomFor hu0 ?_ | (with_reducible refine wpAny_loadPart_at hx ?_;rw [hc]) | with_reducible refine nb ?_ | with_reducible refine N5 X hx hc hn he hm hu ?_ | wp_step)
 exact hq
end
end PySem
namespace L2
open PySem PySem.Spec PyProof.Rows
def a1u (K:PySem.W.Frag):R2:=fun x y H Q=>∃ a C dx fs,x=.ref a∧y=.ref a∧H a=some (.ins C dx fs)∧PySem.W.findIn K (.ref C) "__ne__"=some (some (.builtin "object.__ne__"))∧PySem.W.findIn K (.ref C) "__eq__"=some (some (.builtin "object.__eq__"))∧PySem.W.mroIn K C (.type "object")=some true∧Q (.bl false) H
theorem yP {X:Cx} (hu:X.A.units+1 < cLine):sy X (compareOp .NotEq) (a1u X.K):=by
 intro pins s σ H x y v u Q I rx ry h
 obtain ⟨a,C,dx,fs,rfl,rfl,e,hn,he,hm,q⟩:=h
 obtain rfl:v=Value.ref a:=rx
 obtain rfl:u=Value.ref a:=ry
 obtain ⟨_,O,_,_,_,_⟩:=tP I.hok e
 obtain ⟨h,g,d,t,os⟩:=s
 exact Q6 I.qJ O.obj rfl hn he hm hu ⟨.bl false,H,I,rfl,q⟩
theorem Oj {X:Cx} (n:Nat) (hu:X.A.units+1+n < cLine):sy X (compareOp .Eq) (fun x y H Q=>(x=.eT∧y=.eT∧Q (.bl true) H)∨A9 X.K n true x y H Q):=by
 intro pins s σ H x y v u Q I rx ry h
 rcases h with ⟨rfl,rfl,q⟩ | h
 ·exact di pins s σ H .eT .eT v u Q I rx ry ⟨rfl,by simpa using q⟩
 ·exact pT n hu pins s σ H x y v u Q I rx ry h
end L2
namespace Hw
open PySem L2
theorem yS {H G:Hp} {x:Addr} (s:aF H G) (h:G x=none):H x=none:=by
 cases e:H x with
 | none=>rfl
 | some o=>rw [s _ _ e] at h;cases h
theorem u5 {H:Hp} {l:Addr} {xs ys:List V} (h:H l=some (.lst xs)):av H (upd H l (.lst ys)):=av.soft (z:=l) bE.upd h zx
theorem uE {H G:Hp} {l:Addr} {o:HO} (s:aF H G) (h:H l=none):aF H (upd G l o):=fun b u e=>by rw [aX (aB e h)];exact s b u e
structure FA (K:PySem.W.Frag) (Y:Cy):Prop where
 ne:PySem.W.findIn K (.ref Y.hp) "__ne__"=some (some (.builtin "object.__ne__"))
 eq:PySem.W.findIn K (.ref Y.hp) "__eq__"=some (some (.builtin "object.__eq__"))
 om:PySem.W.mroIn K Y.hp (.type "object")=some true
structure WL (Y:Cy) (G:Hp) (tt pg pc pb pl:Addr) (us ws:List V) (hs:List Hl) (c:Cd) (h0:Hl) (u0:V):Prop where
 et:G tt=some (.tup ws)
 pt:Paired (fun u h=>su G h u) ws hs
 pg:v8 Y G pg us hs
 ok:∀ h∈hs,h.ok
 nd:(hs.map (·.nm)).Nodup
 nm:∀ h∈hs,sr h.nm
 lh:hs.length≤10
 hz:hs[0]?=some h0
 uz:us[0]?=some u0
 cg:FJ c
 cc:cP Y.z G c (.ref pc)
 sb:cD Y G (.ny 7 c h0.st h0.st) (.ref pb)
 sl:cD Y G (.rep 8 c [(9,c)] none h0.st) (.ref pl)
theorem v8.same {Y:Cy} {H H':Hp} {p:Addr} {us:List V} {l:List Hl} (h:v8 Y H p us l) (s:aF H H'):v8 Y H' p us l :=
 let ⟨dx,t,e,et,ll,pp⟩:=h;⟨dx,t,s _ _ e,s _ _ et,ll,L2.Paired.dg pp fun _ _ z=>z.ao (av.of s)⟩
theorem v8.ao {Y:Cy} {H H':Hp} {p:Addr} {us:List V} {l:List Hl} (h:v8 Y H p us l) (k:av H H'):v8 Y H' p us l :=
 let ⟨dx,t,e,et,ll,pp⟩:=h;⟨dx,t,k.i _ _ _ _ e,k.t _ _ et,ll,L2.Paired.dg pp fun _ _ z=>z.ao k⟩
section
variable {Y:Cy} {G G':Hp} {tt pg pc pb pl:Addr} {us ws:List V} {hs:List Hl} {c:Cd} {h0:Hl} {u0:V}
theorem WL.same (W:WL Y G tt pg pc pb pl us ws hs c h0 u0) (s:aF G G'):WL Y G' tt pg pc pb pl us ws hs c h0 u0 :=
 ⟨s _ _ W.et,L2.Paired.dg W.pt fun _ _ z=>z.ao (av.of s),W.pg.same s,W.ok,W.nd,W.nm,W.lh,W.hz,W.uz,W.cg,W.cc.ao (av.of s),cD.ao (av.of s) W.sb,cD.ao (av.of s) W.sl⟩
theorem WL.first (W:WL Y G tt pg pc pb pl us ws hs c h0 u0):∃ r t1 t2 v1 v2 t3 xs,ws[0]?=some (.ref r)∧G r=some (.tup [.str "helper",.int h0.at_,.str h0.nm,.ref t1,.ref t2,v1,v2,.ref t3])∧G t3=some (.tup xs)∧jC G h0.st xs∧su G h0 (.ref r)∧h0∈hs:=by
 have lw:=aA W.pt
 have hm:=List.mem_of_getElem? W.hz
 have l0:=(List.getElem?_eq_some_iff.mp W.hz).1
 have hx:ws[0]?=some ws[0]:=List.getElem?_eq_getElem (by omega)
 obtain ⟨c',hc',hT⟩:=bH W.pt hx
 rw [W.hz] at hc'
 cases hc'
 obtain ⟨r,t1,t2,v1,v2,t3,xs,e,er,e1,e2,n1,n2,e3,h3⟩:=id hT
 rw [e] at hx hT
 exact ⟨r,t1,t2,v1,v2,t3,xs,hx,er,e3,h3,hT,hm⟩
theorem WL.xR (W:WL Y G tt pg pc pb pl us ws hs c h0 u0):(cV.ny 7 c h0.st h0.st).ok∧(cV.ny 7 c h0.st h0.st).dep≤4:=by
 have o:=W.ok _ (List.mem_of_getElem? W.hz)
 have:=o.dp
 exact ⟨by unfold cV.ok;exact ⟨W.cg,o.sl,o.sl,o.st,o.st⟩,by unfold cV.dep;omega⟩
theorem WL.xq (W:WL Y G tt pg pc pb pl us ws hs c h0 u0):(cV.rep 8 c [(9,c)] none h0.st).ok∧(cV.rep 8 c [(9,c)] none h0.st).dep≤4:=by
 have o:=W.ok _ (List.mem_of_getElem? W.hz)
 have:=o.dp
 exact ⟨by unfold cV.ok;exact ⟨W.cg,by show 1≤10;decide,fun q hq=>by rw [List.mem_singleton.mp hq];exact W.cg,(fun q h=>by cases h),o.sl,o.st⟩,by unfold cV.dep;omega⟩
end
theorem MS {x:Str}:∀ {us:List V} {l:List Hl} {i:Nat} {u:V} {h:Hl},(l.map (·.nm)).Nodup→us[i]?=some u→l[i]?=some h→h.nm=x→nv x us l=u
 | v::us,g::l,0,u,h,nd,e,e',hx=>by
  have e:v=u:=by simpa using e
  have e':g=h:=by simpa using e'
  subst e e'
  unfold nv
  rw [if_pos hx]
 | v::us,g::l,i+1,u,h,nd,e,e',hx=>by
  have e:us[i]?=some u:=by simpa using e
  have e':l[i]?=some h:=by simpa using e'
  have NP:(g.nm::l.map (·.nm)).Nodup:=nd
  obtain ⟨n1,n2⟩:=List.nodup_cons.mp NP
  unfold nv
  rw [if_neg,MS n2 e e' hx]
  intro z
  refine n1 ?_
  rw [z,← hx]
  exact List.mem_map.mpr ⟨h,List.mem_of_getElem? e',rfl⟩
 | [],l,i,u,h,nd,e,e',hx=>by simp at e
 | _::_,[],i,u,h,nd,e,e',hx=>by simp at e'
theorem Bu {x:Str}:∀ {us:List V} {l:List Hl},(∀ h∈l,¬ h.nm=x)→nv x us l=.eT
 | [],l,h=>by cases l <;> rfl
 | _::_,[],h=>rfl
 | v::us,g::l,h=>by
  unfold nv
  rw [if_neg (h g (List.mem_cons_self ..)),Bu fun a m=>h a (List.mem_cons_of_mem _ m)]
theorem RM {x:Str} (h:sr x):¬ x="nobodyatall":=fun e=>by
 have:=h.le
 rw [e] at this
 exact absurd this (by decide)
end Hw
set_option maxHeartbeats 8000000
namespace Hw
open PySem L2 PyProof.Rows
def top (i:Nat):Stmt:=PySem.Challenge.pw_holdwright_k10_steps_tell.main.body.getD i (.Pass ⟨0,0,0,0⟩)
end Hw
namespace Hw
open PySem L2 PyProof.Rows
section
variable {P:Program} {w:World} {K:PySem.W.Frag} {mg:Str→Option Value} {base:Heap}
abbrev xo:Stmt:=inClass (top 19) 0
theorem yg:aO ["self","terms","number"] ["self","terms","number"] (ak xo):=⟨rfl,rfl,rfl,by decide +kernel,rfl,by decide +kernel,by decide +kernel⟩
theorem Ot {f C:Addr} {fd:FuncData} (F:fG K "__init__" "Sum.__init__" xo f fd) (T:Txt K mg C) :bT P w K mg base dX 1 f fd ["self","terms","number"] (EB C):=by
 refine F.ok yg (fun vs H Q E h=>?_) (fun cdv A outer s H vs Q E hr h=>?_)
 ·obtain ⟨p,dx,l,n,ps,rfl,hp,hs,hz,k⟩:=h
  rfl
 ·obtain ⟨p,dx,l,n,ps,rfl,hp,hs,hz,k⟩:=h
  have hu:=bq hr
  rw [show au xo=[_,_] from rfl]
  refine ⟨_,(ai (cE (pv 0) (kc aI (by rfl) T.tuple boot_tuple (dN (cS (bu ["pair"] [] [] rfl (by decide +kernel) (by decide +kernel) (by with_unfolding_all rfl) (by exact trivial) (by rfl) rfl (by rfl)) rfl (Km (pv 1)) (fun _ _ _ _=>(aN (i:=0) (show List.Nodup (["pair"]:List Str) by decide +kernel) rfl (Or.inl rfl) (Or.inr rfl))) (fun _ _ _ _=>cI) (fun _ _ _ _=>(kc (qo (K:=K) rfl) (by rfl) T.tuple boot_tuple (dN (pv 0) ah)))) ah)) rfl)
   (ay (cE (pv 0) (pv 2) rfl))),?_⟩
  refine ⟨_,rfl,l,rfl,O3 hs (fun i ys H'=>H'=H∧BU H ys (ps.take i)) ⟨rfl,.nil⟩ (fun i ys H' q=>q.1 ▸ Kp.refl) ?_ ?_⟩
  ·rintro i v pr ys H' hi ⟨a,rfl,ha⟩ ⟨rfl,hy⟩
   refine ⟨Ext.one,jd ⟨_,rfl,a,_,rfl,.inr ⟨aV.of ha,?_,rfl,?_⟩⟩⟩
   ·rw [oF hy,List.length_take]
    exact line _ (by omega)
   ·rw [take_snoc hi]
    exact wo hy (tD ⟨a,rfl,ha⟩)
  ·rintro ys H' ⟨rfl,hy⟩ q hq
   rw [List.take_length] at hy
   refine ⟨q,_,rfl,.inl ⟨ck.of af,fun t ht=>?_⟩⟩
   have npq:p≠q:=aB hp hq
   have h1:upd H' q (.lst ys) p=some (.ins C dx []):=by rw [aX npq];exact hp
   have Ln:p≠t:=aB h1 ht
   refine ⟨_,rfl,p,C,dx,[],rfl,(by rw [aX Ln];exact h1),T.cl,T.nT,(by show 0 < 1000;decide),?_⟩
   refine ⟨_,rfl,_,rfl,p,C,dx,_,rfl,af,T.cl,T.nN,(by show 1 < 1000;decide),?_⟩
   have b:bE p H' (upd (upd (upd (upd H' q (.lst ys)) t (.tup ys)) p (.ins C dx (bw "terms" (.ref t) []))) p (.ins C dx (vA t n))) :=
    (((bE.of (new hq)).new ht).trans bE.upd).trans bE.upd
   refine k _ b ⟨dx,t,af,⟨ys,?_,hy.keep ?_⟩,hz⟩
   ·rw [aX Ln.symm,aX Ln.symm,af]
   ·exact (Kp.but b (by intro xs;rw [hp];intro z;cases z) (by intro xs;rw [hp];intro z;cases z)).t
abbrev qS:Stmt:=inClass (top 19) 7
theorem A5:aO ["self"] ["self"] (ak qS):=⟨rfl,rfl,rfl,by decide +kernel,rfl,by decide +kernel,by decide +kernel⟩
theorem KS {f:Addr} {fd:FuncData} {Z:Cz} {n:Nat} (F:fG K "told" "Sum.told" qS f fd) (T:Txt K mg Z.s) (U:fB K mg Z) :bT P w K mg base dX 1 f fd ["self"] (ly Z.s):=by
 refine F.ok A5 (fun vs H Q E h=>?_) (fun cdv A outer s H vs Q E hr h=>?_)
 ·obtain ⟨p,ts,n,rfl,S0,k⟩:=h
  rfl
 ·obtain ⟨p,ts,n,rfl,S0,k⟩:=h
  have hu:=bq hr
  rw [show au qS=[_] from rfl]
  refine ⟨_,(ay (aJ (aQ (dN (aE (pv 0) rfl) (dN (aE (pv 0) rfl) ah))))),?_⟩
  obtain ⟨dx,t,hp,ht,hz⟩:=id S0
  exact ⟨_,rfl,p,Z.s,dx,_,_,rfl,hp,T.cl,T.nT,fj _ _,_,rfl,p,Z.s,dx,_,_,rfl,hp,T.cl,T.nN,eF _ _,Nat.le_of_lt (line 2 (by decide)),fun r hr'=>k r _ (new hr') ⟨t,af,ht.same (new hr')⟩⟩
abbrev qX:Stmt:=inClass (top 23) 0
theorem sV:aO ["self","one","sign","other"] ["self","one","sign","other"] (ak qX):=⟨rfl,rfl,rfl,by decide +kernel,rfl,by decide +kernel,by decide +kernel⟩
theorem Lm {f:Addr} {fd:FuncData} {Z:Cz} {n:Nat} (F:fG K "__init__" "Compare.__init__" qX f fd) (T:Txt K mg Z.s) (U:fB K mg Z) :bT P w K mg base dX 1 f fd ["self","one","sign","other"] (wm Z):=by
 refine F.ok sV (fun vs H Q E h=>?_) (fun cdv A outer s H vs Q E hr h=>?_)
 ·obtain ⟨p,dx,u,w,s,rfl,hp,k⟩:=h
  rfl
 ·obtain ⟨p,dx,u,w,s,rfl,hp,k⟩:=h
  have hu:=bq hr
  rw [show au qX=[_,_,_] from rfl]
  refine ⟨_,(ai (cE (pv 0) (pv 1) rfl)
   (ai (cE (pv 0) (pv 2) rfl)
   (ay (cE (pv 0) (pv 3) rfl)))),?_⟩
  refine ⟨_,rfl,_,rfl,p,Z.c,dx,_,rfl,hp,U.cl 0 (by decide),U.n1,(by show 0 < 1000;decide),?_⟩
  refine ⟨_,rfl,_,rfl,p,Z.c,dx,_,rfl,af,U.cl 0 (by decide),U.n2,(by show 1 < 1000;decide),?_⟩
  refine ⟨_,rfl,_,rfl,p,Z.c,dx,_,rfl,af,U.cl 0 (by decide),U.n3,(by show 2 < 1000;decide),?_⟩
  exact k _ ((bE.upd.trans bE.upd).trans bE.upd) af
abbrev qQ:Stmt:=inClass (top 24) 0
theorem uy:aO ["self","condition"] ["self","condition"] (ak qQ):=⟨rfl,rfl,rfl,by decide +kernel,rfl,by decide +kernel,by decide +kernel⟩
theorem KR {f:Addr} {fd:FuncData} {Z:Cz} {n:Nat} (F:fG K "__init__" "Turned.__init__" qQ f fd) (T:Txt K mg Z.s) (U:fB K mg Z) :bT P w K mg base dX 1 f fd ["self","condition"] (wg Z):=by
 refine F.ok uy (fun vs H Q E h=>?_) (fun cdv A outer s H vs Q E hr h=>?_)
 ·obtain ⟨p,dx,u,rfl,hp,k⟩:=h
  rfl
 ·obtain ⟨p,dx,u,rfl,hp,k⟩:=h
  have hu:=bq hr
  rw [show au qQ=[_] from rfl]
  refine ⟨_,(ay (cE (pv 0) (pv 1) rfl)),?_⟩
  refine ⟨_,rfl,_,rfl,p,Z.t,dx,_,rfl,hp,U.cl 1 (by decide),U.n4,(by show 0 < 1000;decide),?_⟩
  exact k _ bE.upd af
abbrev j7:Stmt:=inClass (top 25) 0
theorem mY:aO ["self","conditions"] ["self","conditions"] (ak j7):=⟨rfl,rfl,rfl,by decide +kernel,rfl,by decide +kernel,by decide +kernel⟩
theorem Lh {f:Addr} {fd:FuncData} {Z:Cz} {n:Nat} (F:fG K "__init__" "Several.__init__" j7 f fd) (T:Txt K mg Z.s) (U:fB K mg Z) :bT P w K mg base dX 1 f fd ["self","conditions"] (mT Z.e):=by
 refine F.ok mY (fun vs H Q E h=>?_) (fun cdv A outer s H vs Q E hr h=>?_)
 ·obtain ⟨p,dx,l,us,rfl,hp,hl,k⟩:=h
  rfl
 ·obtain ⟨p,dx,l,us,rfl,hp,hl,k⟩:=h
  have hu:=bq hr
  rw [show au j7=[_] from rfl]
  refine ⟨_,(ay (cE (pv 0) (kc aI (by rfl) T.tuple boot_tuple (dN (pv 1) ah)) rfl)),?_⟩
  refine ⟨_,rfl,l,_,rfl,.inl ⟨ck.of hl,fun t ht=>?_⟩⟩
  have Ln:p≠t:=aB hp ht
  refine ⟨_,rfl,p,Z.e,dx,_,rfl,(by rw [aX Ln];exact hp),U.cl 2 (by decide),U.n5,(by show 0 < 1000;decide),?_⟩
  exact k t _ ((bE.of (new ht)).trans bE.upd) af (by rw [aX Ln.symm];exact af)
theorem K4 {f:Addr} {fd:FuncData} {Z:Cz} {n:Nat} (F:fG K "__init__" "Several.__init__" j7 f fd) (T:Txt K mg Z.s) (U:fB K mg Z) :bT P w K mg base dX 1 f fd ["self","conditions"] (mT Z.o):=by
 refine F.ok mY (fun vs H Q E h=>?_) (fun cdv A outer s H vs Q E hr h=>?_)
 ·obtain ⟨p,dx,l,us,rfl,hp,hl,k⟩:=h
  rfl
 ·obtain ⟨p,dx,l,us,rfl,hp,hl,k⟩:=h
  have hu:=bq hr
  rw [show au j7=[_] from rfl]
  refine ⟨_,(ay (cE (pv 0) (kc aI (by rfl) T.tuple boot_tuple (dN (pv 1) ah)) rfl)),?_⟩
  refine ⟨_,rfl,l,_,rfl,.inl ⟨ck.of hl,fun t ht=>?_⟩⟩
  have Ln:p≠t:=aB hp ht
  refine ⟨_,rfl,p,Z.o,dx,_,rfl,(by rw [aX Ln];exact hp),U.cl 3 (by decide),U.n6,(by show 0 < 1000;decide),?_⟩
  exact k t _ ((bE.of (new ht)).trans bE.upd) af (by rw [aX Ln.symm];exact af)
abbrev pP:Stmt:=inClass (top 23) 4
theorem vU:aO ["self"] ["self"] (ak pP):=⟨rfl,rfl,rfl,by decide +kernel,rfl,by decide +kernel,by decide +kernel⟩
theorem Ll {f:Addr} {fd:FuncData} {Z:Cz} {n:Nat} (F:fG K "told" "Compare.told" pP f fd) (T:Txt K mg Z.s) (U:fB K mg Z) (fh:Mt P w K mg base 1 Z.s "told" ["self"] (ly Z.s)):bT P w K mg base dX (n+2) f fd ["self"] (dJ Z (n+1) 0):=by
 obtain ⟨r8,oN,cR,iK,cQ⟩:=fh
 refine F.ok vU (fun vs H Q E h=>?_) (fun cdv A outer s H vs Q E hr h=>?_)
 ·obtain ⟨p,c,rfl,sj,hc,hd,k⟩:=h
  rfl
 ·obtain ⟨p,c,rfl,sj,hc,hd,k⟩:=h
  have hu:=bq hr
  rw [show au pP=[_] from rfl]
  refine ⟨_,(ay (aJ (aQ (dN aY (dN (fP (aE (pv 0) rfl) T.cl iK cR (hr.mono (by first | decide | omega)) cQ .nil az) (dN (aE (pv 0) rfl) (dN (fP (aE (pv 0) rfl) T.cl iK cR (hr.mono (by first | decide | omega)) cQ .nil az) ah))))))),?_⟩
  cases c with
  | neg c=>exact absurd sj (by show ¬ (1=0);decide)
  | con b cs=>cases b <;> exact absurd sj (by first | (show ¬ (2=0);decide) | (show ¬ (3=0);decide))
  | cmp a i s b m =>
  unfold cP at hc
  obtain ⟨q,dx,u,w,e,ep,s1,s2⟩:=hc
  cases e
  obtain ⟨du,tu,hu',_⟩:=id s1
  obtain ⟨dw,tw,hw',_⟩:=id s2
  refine ⟨_,rfl,p,Z.c,dx,_,_,rfl,ep,U.cl 0 (by decide),U.n1,U6 _ _ _,u,du,_,rfl,hu',iS _ _ (by decide +kernel) (by decide +kernel),u,a,i,rfl,s1,fun r1 H1 yM D1=>?_⟩
  refine ⟨_,rfl,p,Z.c,dx,_,_,rfl,yM _ _ ep,U.cl 0 (by decide),U.n2,U5 _ _ _,?_⟩
  refine ⟨_,rfl,p,Z.c,dx,_,_,rfl,yM _ _ ep,U.cl 0 (by decide),U.n3,U4 _ _ _,w,dw,_,rfl,yM _ _ hw',iS _ _ (by decide +kernel) (by decide +kernel),w,b,m,rfl,s2.same yM,fun r2 H2 X5 D2=>?_⟩
  refine ⟨Nat.le_of_lt (line 4 (by decide)),fun r hr'=>k (.ref r) _ ((yM.trans X5).trans (new hr')) ?_⟩
  unfold bg
  exact ⟨r,r1,r2,rfl,af,(D1.same X5).same (new hr'),D2.same (new hr')⟩
abbrev pA:Stmt:=inClass (top 24) 4
theorem wU:aO ["self"] ["self"] (ak pA):=⟨rfl,rfl,rfl,by decide +kernel,rfl,by decide +kernel,by decide +kernel⟩
theorem KQ {f:Addr} {fd:FuncData} {Z:Cz} {n:Nat} (F:fG K "told" "Turned.told" pA f fd) (T:Txt K mg Z.s) (U:fB K mg Z) (bU:M4 P w K mg base (n+1) Z "told" ["self"] (dJ Z n)):bT P w K mg base dX (n+2) f fd ["self"] (dJ Z (n+1) 1):=by
 refine F.ok wU (fun vs H Q E h=>?_) (fun cdv A outer s H vs Q E hr h=>?_)
 ·obtain ⟨p,c,rfl,sj,hc,hd,k⟩:=h
  rfl
 ·obtain ⟨p,c,rfl,sj,hc,hd,k⟩:=h
  have hu:=bq hr
  rw [show au pA=[_] from rfl]
  refine ⟨_,(ay (aJ (aQ (dN aY (dN (jI (Z:=Z) (aE (pv 0) rfl) U.cl iN bU (hr.mono (by first | decide | omega)) az) ah))))),?_⟩
  cases c with
  | cmp a i s b m=>exact absurd sj (by show ¬ (0=1);decide)
  | con b cs=>cases b <;> exact absurd sj (by first | (show ¬ (2=1);decide) | (show ¬ (3=1);decide))
  | neg c =>
  unfold cP at hc
  obtain ⟨q,dx,u,e,ep,hc⟩:=hc
  cases e
  obtain ⟨pu,rfl⟩:=gA hc
  refine ⟨_,rfl,p,Z.t,dx,_,_,rfl,ep,U.cl 1 (by decide),U.n4,a5s _,pu,c,rfl,hc,pu,c,rfl,rfl,hc,(by unfold Cd.dep at hd;omega),fun v H1 sm d=>?_⟩
  refine ⟨Nat.le_of_lt (line 2 (by decide)),fun r hr'=>k (.ref r) _ (sm.trans (new hr')) ?_⟩
  unfold bg
  exact ⟨r,v,rfl,af,d.ao (av.of (new hr'))⟩
abbrev pN:Stmt:=inClass (top 26) 2
theorem yk:aO ["self"] ["self"] (ak pN):=⟨rfl,rfl,rfl,by decide +kernel,rfl,by decide +kernel,by decide +kernel⟩
theorem Lg {f:Addr} {fd:FuncData} {Z:Cz} {n:Nat} (F:fG K "told" "Every.told" pN f fd) (T:Txt K mg Z.s) (U:fB K mg Z) (bU:M4 P w K mg base (n+1) Z "told" ["self"] (dJ Z n)):bT P w K mg base dX (n+2) f fd ["self"] (dJ Z (n+1) 2):=by
 refine F.ok yk (fun vs H Q E h=>?_) (fun cdv A outer s H vs Q E hr h=>?_)
 ·obtain ⟨p,c,rfl,sj,hc,hd,k⟩:=h
  rfl
 ·obtain ⟨p,c,rfl,sj,hc,hd,k⟩:=h
  have hu:=bq hr
  rw [show au pN=[_] from rfl]
  refine ⟨_,(ay (aJ (bX oG (aQ (dN aY ah)) (kc aI (by rfl) T.tuple boot_tuple (dN (cS (bu ["condition"] [] [] rfl (by decide +kernel) (by decide +kernel) (by with_unfolding_all rfl) (by exact trivial) (by rfl) rfl (by rfl)) rfl (gF (aE (pv 0) rfl)) (fun _ _ _ _=>(aN (i:=0) (show List.Nodup (["condition"]:List Str) by decide +kernel) rfl (Or.inl rfl) (Or.inr rfl))) (fun _ _ _ _=>cI) (fun _ _ _ _=>(jI (Z:=Z) (pv 0) U.cl iN bU (hr.mono (by first | decide | omega)) az))) ah))))),?_⟩
  cases c with
  | cmp a i s b m=>exact absurd sj (by show ¬ (0=2);decide)
  | neg c=>exact absurd sj (by show ¬ (1=2);decide)
  | con b cs =>
  cases b with
  | false=>exact absurd sj (by first | (show ¬ (2=2);decide) | (show ¬ (3=2);decide))
  | true =>
  unfold cP at hc
  obtain ⟨q,dx,t,us,e,ep,et,l,hcs⟩:=hc
  cases e
  have ep:H p=some (.ins Z.e dx (wK t)):=ep
  have Ic:=dO.mp hcs
  have rV:us.length=cs.length:=aA Ic
  refine ⟨(szl 1),fun r1 hr1=>?_⟩
  have s1:=new (o:=.tup [.str (IJ true)]) hr1
  refine ⟨_,rfl,p,Z.e,dx,_,_,rfl,s1 _ _ ep,U.cl 2 (by decide),U.n5,U3 _,t,rfl,⟨us,aV.of (s1 _ _ et)⟩,dj (xs:=us) (fun i ys H'=>aF (upd H r1 (.tup [.str (IJ true)])) H'∧dY H' (cs.take i) ys) ⟨fun _ _ z=>z,(by unfold dY;rfl)⟩ (fun i ys H' _ q=>aV.of (q.1 _ _ (s1 _ _ et))) ?_ ?_⟩
  ·rintro i x ys H' hi ⟨sm,ht⟩
   obtain ⟨c,iH,OP⟩:=bH Ic hi
   obtain ⟨pu,rfl⟩:=gA OP
   have MO:=OP.ao (av.of (s1.trans sm))
   have Af:=(List.getElem?_eq_some_iff.mp iH).1
   have qI:ys.length≤i:=by
    have z:=aA (cL.mp ht)
    rw [List.length_take] at z
    omega
   have dd:c.dep≤n:=by
    have z:=wC (List.mem_of_getElem? iH)
    unfold Cd.dep at hd
    omega
   refine ⟨Ext.one,jd ⟨_,rfl,pu,c,rfl,MO,pu,c,rfl,rfl,MO,dd,fun v H1 yM d=>⟨line _ (by omega),sm.trans yM,?_⟩⟩⟩
   rw [take_snoc iH]
   exact cL.mpr (bB (cL.mp (ht.ao (av.of yM))) d)
  ·rintro ys H' ⟨sm,ht⟩ q hq
   rw [rV,List.take_length] at ht
   have qI:ys.length=cs.length:=aA (cL.mp ht)
   refine ⟨q,_,rfl,.inl ⟨ck.of af,fun r2 hr2=>?_⟩⟩
   have s3:aF H' (upd (upd H' q (.lst ys)) r2 (.tup ys)):=aF.new (new hq) hr2
   refine ⟨r1,r2,_,_,rfl,rfl,aV.of (s3 _ _ (sm _ _ af)),aV.of af,(by show 1+ys.length≤sizeLine;exact Nat.le_of_lt (line _ (by omega))),?_,?_,?_⟩
   ·intro z;cases z
   ·intro _ z
    subst z
    refine k _ _ ((s1.trans sm).trans s3) ?_
    unfold bg
    exact ⟨r1,[],rfl,s3 _ _ (sm _ _ af),ht.ao (av.of s3)⟩
   ·intro _ _ r hr'
    refine k _ _ (((s1.trans sm).trans s3).trans (new hr')) ?_
    unfold bg
    exact ⟨r,ys,rfl,af,(ht.ao (av.of s3)).ao (av.of (new hr'))⟩
abbrev pC:Stmt:=inClass (top 27) 2
theorem zB:aO ["self"] ["self"] (ak pC):=⟨rfl,rfl,rfl,by decide +kernel,rfl,by decide +kernel,by decide +kernel⟩
theorem K1 {f:Addr} {fd:FuncData} {Z:Cz} {n:Nat} (F:fG K "told" "Some.told" pC f fd) (T:Txt K mg Z.s) (U:fB K mg Z) (bU:M4 P w K mg base (n+1) Z "told" ["self"] (dJ Z n)):bT P w K mg base dX (n+2) f fd ["self"] (dJ Z (n+1) 3):=by
 refine F.ok zB (fun vs H Q E h=>?_) (fun cdv A outer s H vs Q E hr h=>?_)
 ·obtain ⟨p,c,rfl,sj,hc,hd,k⟩:=h
  rfl
 ·obtain ⟨p,c,rfl,sj,hc,hd,k⟩:=h
  have hu:=bq hr
  rw [show au pC=[_] from rfl]
  refine ⟨_,(ay (aJ (bX oG (aQ (dN aY ah)) (kc aI (by rfl) T.tuple boot_tuple (dN (cS (bu ["condition"] [] [] rfl (by decide +kernel) (by decide +kernel) (by with_unfolding_all rfl) (by exact trivial) (by rfl) rfl (by rfl)) rfl (gF (aE (pv 0) rfl)) (fun _ _ _ _=>(aN (i:=0) (show List.Nodup (["condition"]:List Str) by decide +kernel) rfl (Or.inl rfl) (Or.inr rfl))) (fun _ _ _ _=>cI) (fun _ _ _ _=>(jI (Z:=Z) (pv 0) U.cl iN bU (hr.mono (by first | decide | omega)) az))) ah))))),?_⟩
  cases c with
  | cmp a i s b m=>exact absurd sj (by show ¬ (0=3);decide)
  | neg c=>exact absurd sj (by show ¬ (1=3);decide)
  | con b cs =>
  cases b with
  | true=>exact absurd sj (by first | (show ¬ (2=3);decide) | (show ¬ (3=3);decide))
  | false =>
  unfold cP at hc
  obtain ⟨q,dx,t,us,e,ep,et,l,hcs⟩:=hc
  cases e
  have ep:H p=some (.ins Z.o dx (wK t)):=ep
  have Ic:=dO.mp hcs
  have rV:us.length=cs.length:=aA Ic
  refine ⟨(szl 1),fun r1 hr1=>?_⟩
  have s1:=new (o:=.tup [.str (IJ false)]) hr1
  refine ⟨_,rfl,p,Z.o,dx,_,_,rfl,s1 _ _ ep,U.cl 3 (by decide),U.n6,U3 _,t,rfl,⟨us,aV.of (s1 _ _ et)⟩,dj (xs:=us) (fun i ys H'=>aF (upd H r1 (.tup [.str (IJ false)])) H'∧dY H' (cs.take i) ys) ⟨fun _ _ z=>z,(by unfold dY;rfl)⟩ (fun i ys H' _ q=>aV.of (q.1 _ _ (s1 _ _ et))) ?_ ?_⟩
  ·rintro i x ys H' hi ⟨sm,ht⟩
   obtain ⟨c,iH,OP⟩:=bH Ic hi
   obtain ⟨pu,rfl⟩:=gA OP
   have MO:=OP.ao (av.of (s1.trans sm))
   have Af:=(List.getElem?_eq_some_iff.mp iH).1
   have qI:ys.length≤i:=by
    have z:=aA (cL.mp ht)
    rw [List.length_take] at z
    omega
   have dd:c.dep≤n:=by
    have z:=wC (List.mem_of_getElem? iH)
    unfold Cd.dep at hd
    omega
   refine ⟨Ext.one,jd ⟨_,rfl,pu,c,rfl,MO,pu,c,rfl,rfl,MO,dd,fun v H1 yM d=>⟨line _ (by omega),sm.trans yM,?_⟩⟩⟩
   rw [take_snoc iH]
   exact cL.mpr (bB (cL.mp (ht.ao (av.of yM))) d)
  ·rintro ys H' ⟨sm,ht⟩ q hq
   rw [rV,List.take_length] at ht
   have qI:ys.length=cs.length:=aA (cL.mp ht)
   refine ⟨q,_,rfl,.inl ⟨ck.of af,fun r2 hr2=>?_⟩⟩
   have s3:aF H' (upd (upd H' q (.lst ys)) r2 (.tup ys)):=aF.new (new hq) hr2
   refine ⟨r1,r2,_,_,rfl,rfl,aV.of (s3 _ _ (sm _ _ af)),aV.of af,(by show 1+ys.length≤sizeLine;exact Nat.le_of_lt (line _ (by omega))),?_,?_,?_⟩
   ·intro z;cases z
   ·intro _ z
    subst z
    refine k _ _ ((s1.trans sm).trans s3) ?_
    unfold bg
    exact ⟨r1,[],rfl,s3 _ _ (sm _ _ af),ht.ao (av.of s3)⟩
   ·intro _ _ r hr'
    refine k _ _ (((s1.trans sm).trans s3).trans (new hr')) ?_
    unfold bg
    exact ⟨r,ys,rfl,af,(ht.ao (av.of s3)).ao (av.of (new hr'))⟩
abbrev EE:Stmt:=inClass (top 2) 0
theorem wV:aO ["self","at"] ["self","at"] (ak EE):=⟨rfl,rfl,rfl,by decide +kernel,rfl,by decide +kernel,by decide +kernel⟩
theorem Rp {f:Addr} {fd:FuncData} {Y:Cy} {fS:Addr} {n:Nat} (F:fG K "__init__" "Step.__init__" EE f fd) (T:Txt K mg Y.z.s) (U:fB K mg Y.z) (J:gD K mg Y fS) :bT P w K mg base dX 1 f fd ["self","at"] (o4 Y):=by
 refine F.ok wV (fun vs H Q E h=>?_) (fun cdv A outer s H vs Q E hr h=>?_)
 ·obtain ⟨p,dx,a,j,rfl,hj,hm,hp,k⟩:=h
  rfl
 ·obtain ⟨p,dx,a,j,rfl,hj,hm,hp,k⟩:=h
  have hu:=bq hr
  rw [show au EE=[_] from rfl]
  refine ⟨_,(ay (cE (pv 0) (pv 1) rfl)),?_⟩
  refine ⟨_,rfl,_,rfl,p,_,dx,_,rfl,hp,J.cl j hj,J.na j _ hj hm,(by show 0 < 1000;decide),?_⟩
  exact k _ bE.upd af
abbrev EJ:Stmt:=inClass (top 3) 0
theorem yi:aO ["self","at","name","total"] ["self","at","name","total"] (ak EJ):=⟨rfl,rfl,rfl,by decide +kernel,rfl,by decide +kernel,by decide +kernel⟩
theorem Ry {f:Addr} {fd:FuncData} {Y:Cy} {fS:Addr} {n:Nat} (F:fG K "__init__" "Let.__init__" EJ f fd) (T:Txt K mg Y.z.s) (U:fB K mg Y.z) (J:gD K mg Y fS) (kY:∃ fd,bT P w K mg base dX 1 fS fd ["self","at"] (o4 Y)∧Binds K fd ["self","at"] []):bT P w K mg base dX 2 f fd ["self","at","name","total"] (vz Y 0):=by
 obtain ⟨vK,lg,kZ⟩:=kY
 refine F.ok yi (fun vs H Q E h=>?_) (fun cdv A outer s H vs Q E hr h=>?_)
 ·obtain ⟨p,dx,a,v1,v2,rfl,hp,k⟩:=h
  rfl
 ·obtain ⟨p,dx,a,v1,v2,rfl,hp,k⟩:=h
  have hu:=bq hr
  rw [show au EJ=[_,_,_] from rfl]
  refine ⟨_,(ai (gO (lK rfl J.NQ J.g1 J.g2 J.g3 J.g4 J.g5 lg (hr.mono (by first | decide | omega)) kZ az (aa (pv 0) (aa (pv 1) ah))))
   (ai (cE (pv 0) (pv 2) rfl)
   (ay (cE (pv 0) (pv 3) rfl)))),?_⟩
  refine ⟨_,rfl,_,rfl,p,dx,a,0,rfl,(by decide),(by decide +kernel),hp,fun H1 b1 e1=>?_⟩
  refine ⟨_,rfl,_,rfl,p,_,dx,_,rfl,e1,J.cl 0 (by decide),J.na 0 _ (by decide) (by decide +kernel),(by show 1 < 1000;decide),?_⟩
  refine ⟨_,rfl,_,rfl,p,_,dx,_,rfl,af,J.cl 0 (by decide),J.na 0 _ (by decide) (by decide +kernel),(by show 2 < 1000;decide),?_⟩
  exact k _ ((b1.trans bE.upd).trans bE.upd) af
abbrev EM:Stmt:=inClass (top 4) 0
theorem uC:aO ["self","at","name","word","total","by"] ["self","at","name","word","total","by"] (ak EM):=⟨rfl,rfl,rfl,by decide +kernel,rfl,by decide +kernel,by decide +kernel⟩
theorem RD {f:Addr} {fd:FuncData} {Y:Cy} {fS:Addr} {n:Nat} (F:fG K "__init__" "Divide.__init__" EM f fd) (T:Txt K mg Y.z.s) (U:fB K mg Y.z) (J:gD K mg Y fS) (kY:∃ fd,bT P w K mg base dX 1 fS fd ["self","at"] (o4 Y)∧Binds K fd ["self","at"] []):bT P w K mg base dX 2 f fd ["self","at","name","word","total","by"] (Gb Y 1):=by
 obtain ⟨vK,lg,kZ⟩:=kY
 refine F.ok uC (fun vs H Q E h=>?_) (fun cdv A outer s H vs Q E hr h=>?_)
 ·obtain ⟨p,dx,a,v1,v2,v3,v4,rfl,hp,k⟩:=h
  rfl
 ·obtain ⟨p,dx,a,v1,v2,v3,v4,rfl,hp,k⟩:=h
  have hu:=bq hr
  rw [show au EM=[_,_,_,_,_] from rfl]
  refine ⟨_,(ai (gO (lK rfl J.NQ J.g1 J.g2 J.g3 J.g4 J.g5 lg (hr.mono (by first | decide | omega)) kZ az (aa (pv 0) (aa (pv 1) ah))))
   (ai (cE (pv 0) (pv 2) rfl)
   (ai (cE (pv 0) (pv 3) rfl)
   (ai (cE (pv 0) (pv 4) rfl)
   (ay (cE (pv 0) (pv 5) rfl)))))),?_⟩
  refine ⟨_,rfl,_,rfl,p,dx,a,1,rfl,(by decide),(by decide +kernel),hp,fun H1 b1 e1=>?_⟩
  refine ⟨_,rfl,_,rfl,p,_,dx,_,rfl,e1,J.cl 1 (by decide),J.na 1 _ (by decide) (by decide +kernel),(by show 1 < 1000;decide),?_⟩
  refine ⟨_,rfl,_,rfl,p,_,dx,_,rfl,af,J.cl 1 (by decide),J.na 1 _ (by decide) (by decide +kernel),(by show 2 < 1000;decide),?_⟩
  refine ⟨_,rfl,_,rfl,p,_,dx,_,rfl,af,J.cl 1 (by decide),J.na 1 _ (by decide) (by decide +kernel),(by show 3 < 1000;decide),?_⟩
  refine ⟨_,rfl,_,rfl,p,_,dx,_,rfl,af,J.cl 1 (by decide),J.na 1 _ (by decide) (by decide +kernel),(by show 4 < 1000;decide),?_⟩
  exact k _ ((((b1.trans bE.upd).trans bE.upd).trans bE.upd).trans bE.upd) af
abbrev EL:Stmt:=inClass (top 5) 0
theorem vS:aO ["self","at","name","row","place"] ["self","at","name","row","place"] (ak EL):=⟨rfl,rfl,rfl,by decide +kernel,rfl,by decide +kernel,by decide +kernel⟩
theorem RC {f:Addr} {fd:FuncData} {Y:Cy} {fS:Addr} {n:Nat} (F:fG K "__init__" "Fetch.__init__" EL f fd) (T:Txt K mg Y.z.s) (U:fB K mg Y.z) (J:gD K mg Y fS) (kY:∃ fd,bT P w K mg base dX 1 fS fd ["self","at"] (o4 Y)∧Binds K fd ["self","at"] []):bT P w K mg base dX 2 f fd ["self","at","name","row","place"] (vv Y 2):=by
 obtain ⟨vK,lg,kZ⟩:=kY
 refine F.ok vS (fun vs H Q E h=>?_) (fun cdv A outer s H vs Q E hr h=>?_)
 ·obtain ⟨p,dx,a,v1,v2,v3,rfl,hp,k⟩:=h
  rfl
 ·obtain ⟨p,dx,a,v1,v2,v3,rfl,hp,k⟩:=h
  have hu:=bq hr
  rw [show au EL=[_,_,_,_] from rfl]
  refine ⟨_,(ai (gO (lK rfl J.NQ J.g1 J.g2 J.g3 J.g4 J.g5 lg (hr.mono (by first | decide | omega)) kZ az (aa (pv 0) (aa (pv 1) ah))))
   (ai (cE (pv 0) (pv 2) rfl)
   (ai (cE (pv 0) (pv 3) rfl)
   (ay (cE (pv 0) (pv 4) rfl))))),?_⟩
  refine ⟨_,rfl,_,rfl,p,dx,a,2,rfl,(by decide),(by decide +kernel),hp,fun H1 b1 e1=>?_⟩
  refine ⟨_,rfl,_,rfl,p,_,dx,_,rfl,e1,J.cl 2 (by decide),J.na 2 _ (by decide) (by decide +kernel),(by show 1 < 1000;decide),?_⟩
  refine ⟨_,rfl,_,rfl,p,_,dx,_,rfl,af,J.cl 2 (by decide),J.na 2 _ (by decide) (by decide +kernel),(by show 2 < 1000;decide),?_⟩
  refine ⟨_,rfl,_,rfl,p,_,dx,_,rfl,af,J.cl 2 (by decide),J.na 2 _ (by decide) (by decide +kernel),(by show 3 < 1000;decide),?_⟩
  exact k _ (((b1.trans bE.upd).trans bE.upd).trans bE.upd) af
abbrev EG:Stmt:=inClass (top 6) 0
theorem yh:aO ["self","at","row","place","total"] ["self","at","row","place","total"] (ak EG):=⟨rfl,rfl,rfl,by decide +kernel,rfl,by decide +kernel,by decide +kernel⟩
theorem Rr {f:Addr} {fd:FuncData} {Y:Cy} {fS:Addr} {n:Nat} (F:fG K "__init__" "Put.__init__" EG f fd) (T:Txt K mg Y.z.s) (U:fB K mg Y.z) (J:gD K mg Y fS) (kY:∃ fd,bT P w K mg base dX 1 fS fd ["self","at"] (o4 Y)∧Binds K fd ["self","at"] []):bT P w K mg base dX 2 f fd ["self","at","row","place","total"] (vv Y 3):=by
 obtain ⟨vK,lg,kZ⟩:=kY
 refine F.ok yh (fun vs H Q E h=>?_) (fun cdv A outer s H vs Q E hr h=>?_)
 ·obtain ⟨p,dx,a,v1,v2,v3,rfl,hp,k⟩:=h
  rfl
 ·obtain ⟨p,dx,a,v1,v2,v3,rfl,hp,k⟩:=h
  have hu:=bq hr
  rw [show au EG=[_,_,_,_] from rfl]
  refine ⟨_,(ai (gO (lK rfl J.NQ J.g1 J.g2 J.g3 J.g4 J.g5 lg (hr.mono (by first | decide | omega)) kZ az (aa (pv 0) (aa (pv 1) ah))))
   (ai (cE (pv 0) (pv 2) rfl)
   (ai (cE (pv 0) (pv 3) rfl)
   (ay (cE (pv 0) (pv 4) rfl))))),?_⟩
  refine ⟨_,rfl,_,rfl,p,dx,a,3,rfl,(by decide),(by decide +kernel),hp,fun H1 b1 e1=>?_⟩
  refine ⟨_,rfl,_,rfl,p,_,dx,_,rfl,e1,J.cl 3 (by decide),J.na 3 _ (by decide) (by decide +kernel),(by show 1 < 1000;decide),?_⟩
  refine ⟨_,rfl,_,rfl,p,_,dx,_,rfl,af,J.cl 3 (by decide),J.na 3 _ (by decide) (by decide +kernel),(by show 2 < 1000;decide),?_⟩
  refine ⟨_,rfl,_,rfl,p,_,dx,_,rfl,af,J.cl 3 (by decide),J.na 3 _ (by decide) (by decide +kernel),(by show 3 < 1000;decide),?_⟩
  exact k _ (((b1.trans bE.upd).trans bE.upd).trans bE.upd) af
abbrev EI:Stmt:=inClass (top 7) 0
theorem wW:aO ["self","at","row","size"] ["self","at","row","size"] (ak EI):=⟨rfl,rfl,rfl,by decide +kernel,rfl,by decide +kernel,by decide +kernel⟩
theorem Rx {f:Addr} {fd:FuncData} {Y:Cy} {fS:Addr} {n:Nat} (F:fG K "__init__" "Make.__init__" EI f fd) (T:Txt K mg Y.z.s) (U:fB K mg Y.z) (J:gD K mg Y fS) (kY:∃ fd,bT P w K mg base dX 1 fS fd ["self","at"] (o4 Y)∧Binds K fd ["self","at"] []):bT P w K mg base dX 2 f fd ["self","at","row","size"] (vz Y 4):=by
 obtain ⟨vK,lg,kZ⟩:=kY
 refine F.ok wW (fun vs H Q E h=>?_) (fun cdv A outer s H vs Q E hr h=>?_)
 ·obtain ⟨p,dx,a,v1,v2,rfl,hp,k⟩:=h
  rfl
 ·obtain ⟨p,dx,a,v1,v2,rfl,hp,k⟩:=h
  have hu:=bq hr
  rw [show au EI=[_,_,_] from rfl]
  refine ⟨_,(ai (gO (lK rfl J.NQ J.g1 J.g2 J.g3 J.g4 J.g5 lg (hr.mono (by first | decide | omega)) kZ az (aa (pv 0) (aa (pv 1) ah))))
   (ai (cE (pv 0) (pv 2) rfl)
   (ay (cE (pv 0) (pv 3) rfl)))),?_⟩
  refine ⟨_,rfl,_,rfl,p,dx,a,4,rfl,(by decide),(by decide +kernel),hp,fun H1 b1 e1=>?_⟩
  refine ⟨_,rfl,_,rfl,p,_,dx,_,rfl,e1,J.cl 4 (by decide),J.na 4 _ (by decide) (by decide +kernel),(by show 1 < 1000;decide),?_⟩
  refine ⟨_,rfl,_,rfl,p,_,dx,_,rfl,af,J.cl 4 (by decide),J.na 4 _ (by decide) (by decide +kernel),(by show 2 < 1000;decide),?_⟩
  exact k _ ((b1.trans bE.upd).trans bE.upd) af
abbrev EN:Stmt:=inClass (top 8) 0
theorem vV:aO ["self","at","condition"] ["self","at","condition"] (ak EN):=⟨rfl,rfl,rfl,by decide +kernel,rfl,by decide +kernel,by decide +kernel⟩
theorem RE {f:Addr} {fd:FuncData} {Y:Cy} {fS:Addr} {n:Nat} (F:fG K "__init__" "Claim.__init__" EN f fd) (T:Txt K mg Y.z.s) (U:fB K mg Y.z) (J:gD K mg Y fS) (kY:∃ fd,bT P w K mg base dX 1 fS fd ["self","at"] (o4 Y)∧Binds K fd ["self","at"] []):bT P w K mg base dX 2 f fd ["self","at","condition"] (qF Y 5):=by
 obtain ⟨vK,lg,kZ⟩:=kY
 refine F.ok vV (fun vs H Q E h=>?_) (fun cdv A outer s H vs Q E hr h=>?_)
 ·obtain ⟨p,dx,a,v1,rfl,hp,k⟩:=h
  rfl
 ·obtain ⟨p,dx,a,v1,rfl,hp,k⟩:=h
  have hu:=bq hr
  rw [show au EN=[_,_] from rfl]
  refine ⟨_,(ai (gO (lK rfl J.NQ J.g1 J.g2 J.g3 J.g4 J.g5 lg (hr.mono (by first | decide | omega)) kZ az (aa (pv 0) (aa (pv 1) ah))))
   (ay (cE (pv 0) (pv 2) rfl))),?_⟩
  refine ⟨_,rfl,_,rfl,p,dx,a,5,rfl,(by decide),(by decide +kernel),hp,fun H1 b1 e1=>?_⟩
  refine ⟨_,rfl,_,rfl,p,_,dx,_,rfl,e1,J.cl 5 (by decide),J.na 5 _ (by decide) (by decide +kernel),(by show 1 < 1000;decide),?_⟩
  exact k _ (b1.trans bE.upd) af
abbrev EO:Stmt:=inClass (top 11) 0
theorem w4:aO ["self","at","names","helper","given"] ["self","at","names","helper","given"] (ak EO):=⟨rfl,rfl,rfl,by decide +kernel,rfl,by decide +kernel,by decide +kernel⟩
theorem RG {f:Addr} {fd:FuncData} {Y:Cy} {fS:Addr} {n:Nat} (F:fG K "__init__" "Call.__init__" EO f fd) (T:Txt K mg Y.z.s) (U:fB K mg Y.z) (J:gD K mg Y fS) (kY:∃ fd,bT P w K mg base dX 1 fS fd ["self","at"] (o4 Y)∧Binds K fd ["self","at"] []):bT P w K mg base dX 2 f fd ["self","at","names","helper","given"] (Ge Y):=by
 obtain ⟨vK,lg,kZ⟩:=kY
 refine F.ok w4 (fun vs H Q E h=>?_) (fun cdv A outer s H vs Q E hr h=>?_)
 ·obtain ⟨p,dx,l1,l2,a,v,us,ws,rfl,hp,h1,h2,k⟩:=h
  rfl
 ·obtain ⟨p,dx,l1,l2,a,v,us,ws,rfl,hp,h1,h2,k⟩:=h
  have hu:=bq hr
  rw [show au EO=[_,_,_,_] from rfl]
  refine ⟨_,(ai (gO (lK rfl J.NQ J.g1 J.g2 J.g3 J.g4 J.g5 lg (hr.mono (by first | decide | omega)) kZ az (aa (pv 0) (aa (pv 1) ah))))
   (ai (cE (pv 0) (aS aI (by rfl) T.tuple boot_tuple (aa (pv 2) ah)) rfl)
   (ai (cE (pv 0) (pv 3) rfl)
   (ay (cE (pv 0) (aS aI (by rfl) T.tuple boot_tuple (aa (pv 4) ah)) rfl))))),?_⟩
  have RO:l1≠p:=fun z=>by rw [z,hp] at h1;cases h1
  have RN:l2≠p:=fun z=>by rw [z,hp] at h2;cases h2
  refine ⟨_,rfl,_,rfl,p,dx,a,6,rfl,(by decide),(by decide +kernel),hp,fun H1 b1 e1=>?_⟩
  have hp1:H1 p=some (.ins Y.cl dx (bw "at" (.int a) [])):=e1
  refine ⟨_,rfl,l1,_,rfl,.inl ⟨ck.of (b1 _ _ h1 RO),fun t1 ht1=>?_⟩⟩
  have UQ:p≠t1:=aB hp1 ht1
  refine ⟨_,rfl,p,_,dx,_,rfl,(new ht1 _ _ hp1),J.cl 6 (by decide),J.na 6 _ (by decide) (by decide +kernel),(by show 1 < 1000;decide),?_⟩
  refine ⟨_,rfl,_,rfl,p,_,dx,_,rfl,af,J.cl 6 (by decide),J.na 6 _ (by decide) (by decide +kernel),(by show 2 < 1000;decide),?_⟩
  refine ⟨_,rfl,l2,_,rfl,.inl ⟨ck.of ((((b1.trans (bE.of (new ht1))).trans bE.upd).trans bE.upd) _ _ h2 RN),fun t2 Ag=>?_⟩⟩
  refine ⟨_,rfl,p,_,dx,_,rfl,(new Ag _ _ af),J.cl 6 (by decide),J.na 6 _ (by decide) (by decide +kernel),(by show 3 < 1000;decide),?_⟩
  have n2:p≠t2:=aB af Ag
  exact k t1 t2 _ (((((b1.trans (bE.of (new ht1))).trans bE.upd).trans bE.upd).trans (bE.of (new Ag))).trans bE.upd) af ((((bE.upd.trans bE.upd).trans (bE.of (new Ag))).trans bE.upd) _ _ af UQ.symm) (bE.upd _ _ af n2.symm)
abbrev ER:Stmt:=inClass (top 9) 0
theorem uD:aO ["self","at","condition","then","other"] ["self","at","condition","then","other"] (ak ER):=⟨rfl,rfl,rfl,by decide +kernel,rfl,by decide +kernel,by decide +kernel⟩
theorem RH {f:Addr} {fd:FuncData} {Y:Cy} {fS:Addr} {n:Nat} (F:fG K "__init__" "Choose.__init__" ER f fd) (T:Txt K mg Y.z.s) (U:fB K mg Y.z) (J:gD K mg Y fS) (kY:∃ fd,bT P w K mg base dX 1 fS fd ["self","at"] (o4 Y)∧Binds K fd ["self","at"] []):bT P w K mg base dX 2 f fd ["self","at","condition","then","other"] (qG Y):=by
 obtain ⟨vK,lg,kZ⟩:=kY
 refine F.ok uD (fun vs H Q E h=>?_) (fun cdv A outer s H vs Q E hr h=>?_)
 ·obtain ⟨p,dx,l1,l2,a,v,us,ws,rfl,hp,h1,h2,k⟩:=h
  rfl
 ·obtain ⟨p,dx,l1,l2,a,v,us,ws,rfl,hp,h1,h2,k⟩:=h
  have hu:=bq hr
  rw [show au ER=[_,_,_,_] from rfl]
  refine ⟨_,(ai (gO (lK rfl J.NQ J.g1 J.g2 J.g3 J.g4 J.g5 lg (hr.mono (by first | decide | omega)) kZ az (aa (pv 0) (aa (pv 1) ah))))
   (ai (cE (pv 0) (pv 2) rfl)
   (ai (cE (pv 0) (aS aI (by rfl) T.tuple boot_tuple (aa (pv 3) ah)) rfl)
   (ay (cE (pv 0) (aS aI (by rfl) T.tuple boot_tuple (aa (pv 4) ah)) rfl))))),?_⟩
  have RO:l1≠p:=fun z=>by rw [z,hp] at h1;cases h1
  have RN:l2≠p:=fun z=>by rw [z,hp] at h2;cases h2
  refine ⟨_,rfl,_,rfl,p,dx,a,7,rfl,(by decide),(by decide +kernel),hp,fun H1 b1 e1=>?_⟩
  refine ⟨_,rfl,_,rfl,p,_,dx,_,rfl,e1,J.cl 7 (by decide),J.na 7 _ (by decide) (by decide +kernel),(by show 1 < 1000;decide),?_⟩
  refine ⟨_,rfl,l1,_,rfl,.inl ⟨ck.of ((b1.trans bE.upd) _ _ h1 RO),fun t1 ht1=>?_⟩⟩
  have UQ:p≠t1:=aB af ht1
  refine ⟨_,rfl,p,_,dx,_,rfl,(new ht1 _ _ af),J.cl 7 (by decide),J.na 7 _ (by decide) (by decide +kernel),(by show 2 < 1000;decide),?_⟩
  refine ⟨_,rfl,l2,_,rfl,.inl ⟨ck.of ((((b1.trans bE.upd).trans (bE.of (new ht1))).trans bE.upd) _ _ h2 RN),fun t2 Ag=>?_⟩⟩
  have n2:p≠t2:=aB af Ag
  refine ⟨_,rfl,p,_,dx,_,rfl,(new Ag _ _ af),J.cl 7 (by decide),J.na 7 _ (by decide) (by decide +kernel),(by show 3 < 1000;decide),?_⟩
  exact k t1 t2 _ (((((b1.trans bE.upd).trans (bE.of (new ht1))).trans bE.upd).trans (bE.of (new Ag))).trans bE.upd) af (((bE.upd.trans (bE.of (new Ag))).trans bE.upd) _ _ af UQ.symm) (bE.upd _ _ af n2.symm)
abbrev ES:Stmt:=top 12
theorem A4:aO ["pairs"] ["pairs"] (ak ES):=⟨rfl,rfl,rfl,by decide +kernel,rfl,by decide +kernel,by decide +kernel⟩
theorem RI {f:Addr} {fd:FuncData} {Y:Cy} {fS:Addr} {n:Nat} (F:fG K "as_pairs" "as_pairs" ES f fd) (T:Txt K mg Y.z.s) (U:fB K mg Y.z) (J:gD K mg Y fS) :bT P w K mg base dX 1 f fd ["pairs"] Gg:=by
 refine F.ok A4 (fun vs H Q E h=>?_) (fun cdv A outer s H vs Q E hr h=>?_)
 ·obtain ⟨l,us,rfl,hl,hz,ht,k⟩:=h
  rfl
 ·obtain ⟨l,us,rfl,hl,hz,ht,k⟩:=h
  have hu:=bq hr
  rw [show au ES=[_] from rfl]
  refine ⟨_,(ay (aJ (aS aI (by rfl) T.tuple boot_tuple (aa (cS (bu ["pair"] [] [] rfl (by decide +kernel) (by decide +kernel) (by with_unfolding_all rfl) (by exact trivial) (by rfl) rfl (by rfl)) rfl (jj (pv 0)) (fun _ _ _ _=>(aN (i:=0) (show List.Nodup (["pair"]:List Str) by decide +kernel) rfl (Or.inl rfl) (Or.inr rfl))) (fun _ _ _ _=>cI) (fun _ _ _ _=>(aS (qo (K:=K) rfl) (by rfl) T.tuple boot_tuple (aa (pv 0) ah)))) ah)))),?_⟩
  refine ⟨_,rfl,l,rfl,⟨us,ck.of hl⟩,gu (xs:=us) (fun i ys H'=>H'=H∧ys=us.take i) ⟨rfl,rfl⟩ (fun i ys H' _ q=>by rw [q.1];exact ck.of hl) ?_ ?_⟩
  ·rintro i x ys H' hix ⟨rfl,rfl⟩
   obtain ⟨r,xs,rfl,er⟩:=ht x (List.mem_of_getElem? hix)
   refine ⟨Ext.one,jd ⟨_,rfl,r,_,rfl,.inr ⟨aV.of er,?_,rfl,?_⟩⟩⟩
   ·rw [List.length_take];exact line _ (by omega)
   ·rw [take_snoc hix]
  ·rintro ys H' ⟨rfl,rfl⟩ q hq
   rw [List.take_length]
   exact ⟨q,_,rfl,.inl ⟨ck.of af,fun t ht'=>k t _ (aF.new (new hq) ht') af⟩⟩
abbrev EF:Stmt:=inClass (top 10) 0
theorem uA:aO ["self","at","condition","keeps","falls","body"] ["self","at","condition","keeps","falls","body"] (ak EF):=⟨rfl,rfl,rfl,by decide +kernel,rfl,by decide +kernel,by decide +kernel⟩
theorem Rq {f:Addr} {fd:FuncData} {Y:Cy} {fS:Addr} {n:Nat} (F:fG K "__init__" "Repeat.__init__" EF f fd) (T:Txt K mg Y.z.s) (U:fB K mg Y.z) (J:gD K mg Y fS) (kY:∃ fd,bT P w K mg base dX 1 fS fd ["self","at"] (o4 Y)∧Binds K fd ["self","at"] []) (Nh:Dn P w K mg base 1 "as_pairs" ["pairs"] Gg):bT P w K mg base dX 2 f fd ["self","at","condition","keeps","falls","body"] (qE Y):=by
 obtain ⟨vK,lg,kZ⟩:=kY
 obtain ⟨VA,SD,oU,ni,nk,oS⟩:=Nh
 refine F.ok uA (fun vs H Q E h=>?_) (fun cdv A outer s H vs Q E hr h=>?_)
 ·obtain ⟨p,dx,l1,l2,a,v,ff,us,ws,rfl,hp,h1,hz,ht,h2,k⟩:=h
  rfl
 ·obtain ⟨p,dx,l1,l2,a,v,ff,us,ws,rfl,hp,h1,hz,ht,h2,k⟩:=h
  have hu:=bq hr
  rw [show au EF=[_,_,_,_,_] from rfl]
  refine ⟨_,(ai (gO (lK rfl J.NQ J.g1 J.g2 J.g3 J.g4 J.g5 lg (hr.mono (by first | decide | omega)) kZ az (aa (pv 0) (aa (pv 1) ah))))
   (ai (cE (pv 0) (pv 2) rfl)
   (ai (cE (pv 0) (aq oU (hr.mono (by first | decide | omega)) rfl ni nk oS .nil az (aa (pv 3) ah)) rfl)
   (ai (cE (pv 0) (pv 4) rfl)
   (ay (cE (pv 0) (aS aI (by rfl) T.tuple boot_tuple (aa (pv 5) ah)) rfl)))))),?_⟩
  have RO:l1≠p:=fun z=>by rw [z,hp] at h1;cases h1
  have RN:l2≠p:=fun z=>by rw [z,hp] at h2;cases h2
  refine ⟨_,rfl,_,rfl,p,dx,a,8,rfl,(by decide),(by decide +kernel),hp,fun H1 b1 e1=>?_⟩
  refine ⟨_,rfl,_,rfl,p,_,dx,_,rfl,e1,J.cl 8 (by decide),J.na 8 _ (by decide) (by decide +kernel),(by show 1 < 1000;decide),?_⟩
  have tp:∀ u∈us,∃ r xs,u=V.ref r∧upd H1 p (.ins Y.rp dx (bw "condition" v (bw "at" (.int a) []))) r=some (.tup xs):=fun u hu=>by
   obtain ⟨r,xs,e,er⟩:=ht u hu
   exact ⟨r,xs,e,(b1.trans bE.upd) _ _ er (fun z=>by rw [z,hp] at er;cases er)⟩
  refine ⟨_,rfl,l1,us,rfl,(b1.trans bE.upd) _ _ h1 RO,hz,tp,fun t1 H2 s2 T8=>?_⟩
  have e2:H2 p=some (.ins Y.rp dx (bw "condition" v (bw "at" (.int a) []))):=s2 _ _ af
  have UQ:t1≠p:=fun z=>by rw [z,e2] at T8;cases T8
  refine ⟨_,rfl,p,_,dx,_,rfl,e2,J.cl 8 (by decide),J.na 8 _ (by decide) (by decide +kernel),(by show 2 < 1000;decide),?_⟩
  refine ⟨_,rfl,_,rfl,p,_,dx,_,rfl,af,J.cl 8 (by decide),J.na 8 _ (by decide) (by decide +kernel),(by show 3 < 1000;decide),?_⟩
  have B2:bE p H H2:=(b1.trans bE.upd).trans (bE.of s2)
  refine ⟨_,rfl,l2,_,rfl,.inl ⟨ck.of (((B2.trans bE.upd).trans bE.upd) _ _ h2 RN),fun t2 Ag=>?_⟩⟩
  have n2:p≠t2:=aB af Ag
  refine ⟨_,rfl,p,_,dx,_,rfl,(new Ag _ _ af),J.cl 8 (by decide),J.na 8 _ (by decide) (by decide +kernel),(by show 4 < 1000;decide),?_⟩
  exact k t1 t2 _ ((((B2.trans bE.upd).trans bE.upd).trans (bE.of (new Ag))).trans bE.upd) af ((((bE.upd.trans bE.upd).trans (bE.of (new Ag))).trans bE.upd) _ _ T8 UQ) (bE.upd _ _ af n2.symm)
abbrev vW:Stmt:=top 13
theorem oi:aO ["parts"] ["parts"] (ak vW):=⟨rfl,rfl,rfl,by decide +kernel,rfl,by decide +kernel,by decide +kernel⟩
theorem Rl {f:Addr} {fd:FuncData} {Y:Cy} {fS:Addr} {n:Nat} (F:fG K "told_each" "told_each" vW f fd) (T:Txt K mg Y.z.s) (U:fB K mg Y.z) (J:gD K mg Y fS) (fh:Mt P w K mg base 1 Y.z.s "told" ["self"] (ly Y.z.s)):bT P w K mg base dX 2 f fd ["parts"] (FY Y.z):=by
 obtain ⟨r8,oN,cR,iK,cQ⟩:=fh
 refine F.ok oi (fun vs H Q E h=>?_) (fun cdv A outer s H vs Q E hr h=>?_)
 ·obtain ⟨t,us,l,rfl,et,hz,hp,k⟩:=h
  rfl
 ·obtain ⟨t,us,l,rfl,et,hz,hp,k⟩:=h
  have hu:=bq hr
  rw [show au vW=[_] from rfl]
  refine ⟨_,(ay (aJ (aS aI (by rfl) T.tuple boot_tuple (aa (cS (bu ["part"] [] [] rfl (by decide +kernel) (by decide +kernel) (by with_unfolding_all rfl) (by exact trivial) (by rfl) rfl (by rfl)) rfl (gF (pv 0)) (fun _ _ _ _=>(aN (i:=0) (show List.Nodup (["part"]:List Str) by decide +kernel) rfl (Or.inl rfl) (Or.inr rfl))) (fun _ _ _ _=>cI) (fun _ _ _ _=>(fP (pv 0) T.cl iK cR (hr.mono (by first | decide | omega)) cQ .nil az))) ah)))),?_⟩
  have rV:=aA hp
  refine ⟨_,rfl,t,rfl,⟨us,aV.of et⟩,dj (xs:=us) (fun i ys H'=>aF H H'∧Paired (ua H') ys (l.take i)) ⟨aF.refl _,.nil⟩ (fun i ys H' _ q=>aV.of (q.1 _ _ et)) ?_ ?_⟩
  ·rintro i x ys H' hix ⟨sm,py⟩
   obtain ⟨c,iH,hx⟩:=bH hp hix
   have tR:=List.mem_of_getElem? iH
   have Af:=(List.getElem?_eq_some_iff.mp iH).1
   have qI:ys.length≤i:=by
    rw [aA py,List.length_take]
    omega
   have fin:∀ (v:V) (H1:Hp),aF H' H1→ua H1 v c→(ys.length < sizeLine∧aF H H1∧Paired (ua H1) (ys++[v]) (l.take (i+1))):=fun v H1 s1 hv=>by
    refine ⟨line _ (by omega),sm.trans s1,?_⟩
    rw [take_snoc iH]
    exact bB (L2.Paired.dg py fun _ _ z=>z.ao (av.of s1)) hv
   obtain ⟨pp,rfl,S0⟩:=hx.ao (av.of sm)
   obtain ⟨dx,tt,ep,_⟩:=id S0
   exact ⟨Ext.one,jd ⟨_,rfl,pp,dx,_,rfl,ep,iS _ _ (by decide +kernel) (by decide +kernel),pp,c.1,c.2,rfl,S0,fun r H1 s1 D=>fin (.ref r) H1 s1 ⟨r,rfl,D⟩⟩⟩
  ·rintro ys H' ⟨sm,py⟩ q hq
   rw [rV,List.take_length] at py
   refine ⟨q,_,rfl,.inl ⟨ck.of af,fun r hr'=>?_⟩⟩
   have s3:aF H' (upd (upd H' q (.lst ys)) r (.tup ys)):=aF.new (new hq) hr'
   exact k r ys _ (sm.trans s3) af (L2.Paired.dg py fun _ _ z=>z.ao (av.of s3))
theorem EX {f:Addr} {fd:FuncData} {Y:Cy} {fS:Addr} {n:Nat} (F:fG K "told_each" "told_each" vW f fd) (T:Txt K mg Y.z.s) (U:fB K mg Y.z) (J:gD K mg Y fS) (gR:M9 P w K mg base (2*n+6) Y "told" ["self"] (eE Y n)):bT P w K mg base dX (2*n+7) f fd ["parts"] (AZ Y n):=by
 refine F.ok oi (fun vs H Q E h=>?_) (fun cdv A outer s H vs Q E hr h=>?_)
 ·obtain ⟨t,us,l,rfl,et,hz,hs,hd,ho,k⟩:=h
  rfl
 ·obtain ⟨t,us,l,rfl,et,hz,hs,hd,ho,k⟩:=h
  have hu:=bq hr
  rw [show au vW=[_] from rfl]
  refine ⟨_,(ay (aJ (aS aI (by rfl) T.tuple boot_tuple (aa (cS (bu ["part"] [] [] rfl (by decide +kernel) (by decide +kernel) (by with_unfolding_all rfl) (by exact trivial) (by rfl) rfl (by rfl)) rfl (gF (pv 0)) (fun _ _ _ _=>(aN (i:=0) (show List.Nodup (["part"]:List Str) by decide +kernel) rfl (Or.inl rfl) (Or.inr rfl))) (fun _ _ _ _=>cI) (fun _ _ _ _=>(zG (Y:=Y) (pv 0) J.cl pU gR (hr.mono (by first | decide | omega)) az))) ah)))),?_⟩
  have hp:=eg.mp hs
  have rV:=aA hp
  refine ⟨_,rfl,t,rfl,⟨us,aV.of et⟩,dj (xs:=us) (fun i ys H'=>aF H H'∧Paired ((fun H0 u s=>ie H0 s u) H') ys (l.take i)) ⟨aF.refl _,.nil⟩ (fun i ys H' _ q=>aV.of (q.1 _ _ et)) ?_ ?_⟩
  ·rintro i x ys H' hix ⟨sm,py⟩
   obtain ⟨c,iH,hx⟩:=bH hp hix
   have tR:=List.mem_of_getElem? iH
   have Af:=(List.getElem?_eq_some_iff.mp iH).1
   have qI:ys.length≤i:=by
    rw [aA py,List.length_take]
    omega
   have fin:∀ (v:V) (H1:Hp),aF H' H1→(fun H0 u s=>ie H0 s u) H1 v c→(ys.length < sizeLine∧aF H H1∧Paired ((fun H0 u s=>ie H0 s u) H1) (ys++[v]) (l.take (i+1))):=fun v H1 s1 hv=>by
    refine ⟨line _ (by omega),sm.trans s1,?_⟩
    rw [take_snoc iH]
    exact bB (L2.Paired.dg py fun _ _ z=>ie.ao (av.of s1) z) hv
   have hx':=cD.ao (av.of sm) hx
   obtain ⟨pp,rfl⟩:=AV hx
   have dd:=qj tR
   exact ⟨Ext.one,jd ⟨_,rfl,pp,c,rfl,hx',pp,c,rfl,rfl,hx',by omega,tM ho tR,fun v H1 s1 hv=>fin v H1 s1 hv⟩⟩
  ·rintro ys H' ⟨sm,py⟩ q hq
   rw [rV,List.take_length] at py
   refine ⟨q,_,rfl,.inl ⟨ck.of af,fun r hr'=>?_⟩⟩
   have s3:aF H' (upd (upd H' q (.lst ys)) r (.tup ys)):=aF.new (new hq) hr'
   exact k r ys _ (sm.trans s3) af (iT.mpr (L2.Paired.dg py fun _ _ z=>ie.ao (av.of s3) z))
theorem Rm {f:Addr} {fd:FuncData} {Y:Cy} {fS:Addr} {n:Nat} (F:fG K "told_each" "told_each" vW f fd) (T:Txt K mg Y.z.s) (U:fB K mg Y.z) (J:gD K mg Y fS) (Av:Mt P w K mg base 15 Y.hp "told" ["self"] (wk Y)):bT P w K mg base dX 16 f fd ["parts"] (Jw Y):=by
 obtain ⟨a8Q,Vv,AH,z9,AB⟩:=Av
 refine F.ok oi (fun vs H Q E h=>?_) (fun cdv A outer s H vs Q E hr h=>?_)
 ·obtain ⟨t,us,l,rfl,et,hz,hp,ho,k⟩:=h
  rfl
 ·obtain ⟨t,us,l,rfl,et,hz,hp,ho,k⟩:=h
  have hu:=bq hr
  rw [show au vW=[_] from rfl]
  refine ⟨_,(ay (aJ (aS aI (by rfl) T.tuple boot_tuple (aa (cS (bu ["part"] [] [] rfl (by decide +kernel) (by decide +kernel) (by with_unfolding_all rfl) (by exact trivial) (by rfl) rfl (by rfl)) rfl (gF (pv 0)) (fun _ _ _ _=>(aN (i:=0) (show List.Nodup (["part"]:List Str) by decide +kernel) rfl (Or.inl rfl) (Or.inr rfl))) (fun _ _ _ _=>cI) (fun _ _ _ _=>(fP (pv 0) J.ch z9 AH (hr.mono (by first | decide | omega)) AB .nil az))) ah)))),?_⟩
  have rV:=aA hp
  refine ⟨_,rfl,t,rfl,⟨us,aV.of et⟩,dj (xs:=us) (fun i ys H'=>aF H H'∧Paired ((fun H0 u h=>su H0 h u) H') ys (l.take i)) ⟨aF.refl _,.nil⟩ (fun i ys H' _ q=>aV.of (q.1 _ _ et)) ?_ ?_⟩
  ·rintro i x ys H' hix ⟨sm,py⟩
   obtain ⟨c,iH,hx⟩:=bH hp hix
   have tR:=List.mem_of_getElem? iH
   have Af:=(List.getElem?_eq_some_iff.mp iH).1
   have qI:ys.length≤i:=by
    rw [aA py,List.length_take]
    omega
   have fin:∀ (v:V) (H1:Hp),aF H' H1→(fun H0 u h=>su H0 h u) H1 v c→(ys.length < sizeLine∧aF H H1∧Paired ((fun H0 u h=>su H0 h u) H1) (ys++[v]) (l.take (i+1))):=fun v H1 s1 hv=>by
    refine ⟨line _ (by omega),sm.trans s1,?_⟩
    rw [take_snoc iH]
    exact bB (L2.Paired.dg py fun _ _ z=>su.ao (av.of s1) z) hv
   have hx':=vm.ao (av.of sm) hx
   obtain ⟨pp,dx,t1,t2,v1,v2,t3,Z3,rfl,ep,_⟩:=id hx'
   exact ⟨Ext.one,jd ⟨_,rfl,pp,dx,_,rfl,ep,(by unfold Aj;exact kX (by decide +kernel) (kX (by decide +kernel) (kX (by decide +kernel) (kX (by decide +kernel) (kX (by decide +kernel) (kX (by decide +kernel) (kX (by decide +kernel) (rfl)))))))),pp,c,rfl,hx',ho c tR,fun v H1 s1 hv=>fin v H1 s1 hv⟩⟩
  ·rintro ys H' ⟨sm,py⟩ q hq
   rw [rV,List.take_length] at py
   refine ⟨q,_,rfl,.inl ⟨ck.of af,fun r hr'=>?_⟩⟩
   have s3:aF H' (upd (upd H' q (.lst ys)) r (.tup ys)):=aF.new (new hq) hr'
   exact k r ys _ (sm.trans s3) af (L2.Paired.dg py fun _ _ z=>su.ao (av.of s3) z)
abbrev ED:Stmt:=top 14
theorem yf:aO ["pairs"] ["pairs"] (ak ED):=⟨rfl,rfl,rfl,by decide +kernel,rfl,by decide +kernel,by decide +kernel⟩
theorem Rk {f:Addr} {fd:FuncData} {Y:Cy} {fS:Addr} {n:Nat} (F:fG K "told_pairs" "told_pairs" ED f fd) (T:Txt K mg Y.z.s) (U:fB K mg Y.z) (J:gD K mg Y fS) (bU:M4 P w K mg base 4 Y.z "told" ["self"] (dJ Y.z 3)):bT P w K mg base dX 5 f fd ["pairs"] (AY Y.z):=by
 refine F.ok yf (fun vs H Q E h=>?_) (fun cdv A outer s H vs Q E hr h=>?_)
 ·obtain ⟨v,hs,rfl,hP,hd,k⟩:=h
  rfl
 ·obtain ⟨v,hs,rfl,hP,hd,k⟩:=h
  have hu:=bq hr
  rw [show au ED=[_] from rfl]
  refine ⟨_,(ay (aJ (aS aI (by rfl) T.tuple boot_tuple (aa (cS (bu ["at","condition"] [] [] rfl (by decide +kernel) (by decide +kernel) (by with_unfolding_all rfl) (by exact trivial) (by rfl) rfl (by rfl)) rfl (gF (pv 0)) (fun _ _ _ _=>(tF (K:=K) (n:=2) rfl rfl (cC (aN (i:=0) (show List.Nodup (["at","condition"]:List Str) by decide +kernel) rfl (Or.inl rfl) (Or.inr rfl)) (cC (aN (i:=1) (show List.Nodup (["at","condition"]:List Str) by decide +kernel) rfl (Or.inl rfl) (Or.inr rfl)) kI)))) (fun _ _ _ _=>cI) (fun _ _ _ _=>(aQ (aa (pv 0) (aa (jI (Z:=Y.z) (pv 1) U.cl iN bU (hr.mono (by first | decide | omega)) az) ah))))) ah)))),?_⟩
  obtain ⟨t,us,rfl,et,hz,hp⟩:=hP
  have rV:=aA hp
  refine ⟨_,rfl,t,rfl,⟨us,aV.of et⟩,dj (xs:=us) (fun i ys H'=>aF H H'∧Paired (fun u (q:Int×Cd)=>∃ r w,u=V.ref r∧H' r=some (.tup [.int q.1,w])∧bg H' q.2 w) ys (hs.take i)) ⟨aF.refl _,.nil⟩ (fun i ys H' _ q=>aV.of (q.1 _ _ et)) ?_ ?_⟩
  ·rintro i x ys H' hix ⟨sm,py⟩
   obtain ⟨c,iH,r,w,rfl,er,hc⟩:=bH hp hix
   have tR:=List.mem_of_getElem? iH
   have Af:=(List.getElem?_eq_some_iff.mp iH).1
   have qI:ys.length≤i:=by
    rw [aA py,List.length_take]
    omega
   have hc':=hc.ao (av.of sm)
   obtain ⟨pu,rfl⟩:=gA hc
   refine ⟨r,_,rfl,aV.of (sm _ _ er),rfl,_,_,rfl,_,_,rfl,rfl,Ext.two,jd ⟨_,rfl,_,rfl,pu,c.2,rfl,hc',pu,c.2,rfl,rfl,hc',hd c tR,fun v H1 s1 d=>⟨(szl 2),fun q hq=>⟨line _ (by omega),(sm.trans s1).trans (new hq),?_⟩⟩⟩⟩
   rw [take_snoc iH]
   exact bB (L2.Paired.dg py fun _ _ ⟨r',w',e,e',d'⟩=>⟨r',w',e,new hq _ _ (s1 _ _ e'),(d'.ao (av.of s1)).ao (av.of (new hq))⟩) ⟨q,v,rfl,af,d.ao (av.of (new hq))⟩
  ·rintro ys H' ⟨sm,py⟩ q hq
   rw [rV,List.take_length] at py
   refine ⟨q,_,rfl,.inl ⟨ck.of af,fun r hr'=>?_⟩⟩
   have s3:aF H' (upd (upd H' q (.lst ys)) r (.tup ys)):=aF.new (new hq) hr'
   exact k (.ref r) _ (sm.trans s3) ⟨r,ys,rfl,af,L2.Paired.dg py fun _ _ ⟨r',w',e,e',d'⟩=>⟨r',w',e,s3 _ _ e',d'.ao (av.of s3)⟩⟩
abbrev pH:Stmt:=inClass (top 3) 1
theorem A7:aO ["self"] ["self"] (ak pH):=⟨rfl,rfl,rfl,by decide +kernel,rfl,by decide +kernel,by decide +kernel⟩
theorem K9 {f:Addr} {fd:FuncData} {Y:Cy} {fS:Addr} {n:Nat} (F:fG K "told" "Let.told" pH f fd) (T:Txt K mg Y.z.s) (U:fB K mg Y.z) (J:gD K mg Y fS) (fh:Mt P w K mg base 1 Y.z.s "told" ["self"] (ly Y.z.s)):bT P w K mg base dX (2*n+8) f fd ["self"] (eE Y (n+1) 0):=by
 obtain ⟨r8,oN,cR,iK,cQ⟩:=fh
 refine F.ok A7 (fun vs H Q E h=>?_) (fun cdv A outer s H vs Q E hr h=>?_)
 ·obtain ⟨p,s,rfl,sj,hs,hd,ho,k⟩:=h
  rfl
 ·obtain ⟨p,s,rfl,sj,hs,hd,ho,k⟩:=h
  have hu:=bq hr
  rw [show au pH=[_] from rfl]
  refine ⟨_,(ay (aJ (aQ (aa aY (aa (aE (pv 0) rfl) (aa (aE (pv 0) rfl) (aa (fP (aE (pv 0) rfl) T.cl iK cR (hr.mono (by first | decide | omega)) cQ .nil az) ah))))))),?_⟩
  cases s with
  | ny at_ c t e=>exact absurd sj (by show ¬ (7=0);decide)
  | rep at_ c hs f b=>exact absurd sj (by show ¬ (8=0);decide)
  | flat kk at_ as =>
  have sj:kk=0:=sj
  subst sj
  unfold cD at hs
  obtain ⟨q,dx,us,e,sh,ep,pp⟩:=hs
  cases e
  obtain ⟨x0,a1,m1,rfl⟩:=sh
  cases pp with
  | cons h0 pp =>
   cases pp with
   | cons h1 pp =>
   cases pp
   unfold cV.ok at ho
   have hok:=ho.2
   have h0:_=V.str x0:=h0
   subst h0
   obtain ⟨r1,rfl,S1⟩:=h1
   obtain ⟨d1,yd,es1,_⟩:=id S1
   refine ⟨_,rfl,p,_,dx,_,_,rfl,ep,J.cl 0 (by decide),J.na 0 _ (by decide) (by decide +kernel),cG (by decide +kernel) (cG (by decide +kernel) (eu)),?_⟩
   refine ⟨_,rfl,p,_,dx,_,_,rfl,ep,J.cl 0 (by decide),J.na 0 _ (by decide) (by decide +kernel),cG (by decide +kernel) (eu),?_⟩
   refine ⟨_,rfl,p,_,dx,_,_,rfl,ep,J.cl 0 (by decide),J.na 0 _ (by decide) (by decide +kernel),eu,r1,d1,_,rfl,es1,iS _ _ (by decide +kernel) (by decide +kernel),r1,a1,m1,rfl,S1,fun v1 H1 s1 D1=>?_⟩
   refine ⟨(szl 4),fun r hr'=>k (.ref r) _ (s1.trans (new hr')) ?_⟩
   unfold ie
   exact ⟨r,_,rfl,af,(.cons (rfl) (.cons (⟨v1,rfl,D1.same (new hr')⟩) .nil))⟩
abbrev pO:Stmt:=inClass (top 4) 1
theorem wY:aO ["self"] ["self"] (ak pO):=⟨rfl,rfl,rfl,by decide +kernel,rfl,by decide +kernel,by decide +kernel⟩
theorem Li {f:Addr} {fd:FuncData} {Y:Cy} {fS:Addr} {n:Nat} (F:fG K "told" "Divide.told" pO f fd) (T:Txt K mg Y.z.s) (U:fB K mg Y.z) (J:gD K mg Y fS) (fh:Mt P w K mg base 1 Y.z.s "told" ["self"] (ly Y.z.s)):bT P w K mg base dX (2*n+8) f fd ["self"] (eE Y (n+1) 1):=by
 obtain ⟨r8,oN,cR,iK,cQ⟩:=fh
 refine F.ok wY (fun vs H Q E h=>?_) (fun cdv A outer s H vs Q E hr h=>?_)
 ·obtain ⟨p,s,rfl,sj,hs,hd,ho,k⟩:=h
  rfl
 ·obtain ⟨p,s,rfl,sj,hs,hd,ho,k⟩:=h
  have hu:=bq hr
  rw [show au pO=[_] from rfl]
  refine ⟨_,(ay (aJ (aQ (aa aY (aa (aE (pv 0) rfl) (aa (aE (pv 0) rfl) (aa (aE (pv 0) rfl) (aa (fP (aE (pv 0) rfl) T.cl iK cR (hr.mono (by first | decide | omega)) cQ .nil az) (aa (fP (aE (pv 0) rfl) T.cl iK cR (hr.mono (by first | decide | omega)) cQ .nil az) ah))))))))),?_⟩
  cases s with
  | ny at_ c t e=>exact absurd sj (by show ¬ (7=1);decide)
  | rep at_ c hs f b=>exact absurd sj (by show ¬ (8=1);decide)
  | flat kk at_ as =>
  have sj:kk=1:=sj
  subst sj
  unfold cD at hs
  obtain ⟨q,dx,us,e,sh,ep,pp⟩:=hs
  cases e
  obtain ⟨x0,x1,a2,m2,a3,m3,rfl⟩:=sh
  cases pp with
  | cons h0 pp =>
   cases pp with
   | cons h1 pp =>
    cases pp with
    | cons h2 pp =>
     cases pp with
     | cons h3 pp =>
     cases pp
     unfold cV.ok at ho
     have hok:=ho.2
     have h0:_=V.str x0:=h0
     subst h0
     have h1:_=V.str x1:=h1
     subst h1
     obtain ⟨r2,rfl,S2⟩:=h2
     obtain ⟨d2,we,Ck,_⟩:=id S2
     obtain ⟨r3,rfl,S3⟩:=h3
     obtain ⟨d3,QS,VV,_⟩:=id S3
     refine ⟨_,rfl,p,_,dx,_,_,rfl,ep,J.cl 1 (by decide),J.na 1 _ (by decide) (by decide +kernel),cG (by decide +kernel) (cG (by decide +kernel) (cG (by decide +kernel) (cG (by decide +kernel) (eu)))),?_⟩
     refine ⟨_,rfl,p,_,dx,_,_,rfl,ep,J.cl 1 (by decide),J.na 1 _ (by decide) (by decide +kernel),cG (by decide +kernel) (cG (by decide +kernel) (cG (by decide +kernel) (eu))),?_⟩
     refine ⟨_,rfl,p,_,dx,_,_,rfl,ep,J.cl 1 (by decide),J.na 1 _ (by decide) (by decide +kernel),cG (by decide +kernel) (cG (by decide +kernel) (eu)),?_⟩
     refine ⟨_,rfl,p,_,dx,_,_,rfl,ep,J.cl 1 (by decide),J.na 1 _ (by decide) (by decide +kernel),cG (by decide +kernel) (eu),r2,d2,_,rfl,Ck,iS _ _ (by decide +kernel) (by decide +kernel),r2,a2,m2,rfl,S2,fun v2 H1 s1 D2=>?_⟩
     refine ⟨_,rfl,p,_,dx,_,_,rfl,(s1 _ _ ep),J.cl 1 (by decide),J.na 1 _ (by decide) (by decide +kernel),eu,r3,d3,_,rfl,(s1 _ _ VV),iS _ _ (by decide +kernel) (by decide +kernel),r3,a3,m3,rfl,S3.same s1,fun v3 H2 s2 D3=>?_⟩
     refine ⟨(szl 6),fun r hr'=>k (.ref r) _ ((s1.trans s2).trans (new hr')) ?_⟩
     unfold ie
     exact ⟨r,_,rfl,af,(.cons (rfl) (.cons (rfl) (.cons (⟨v2,rfl,D2.same ((s2).trans (new hr'))⟩) (.cons (⟨v3,rfl,D3.same (new hr')⟩) .nil))))⟩
abbrev pM:Stmt:=inClass (top 5) 1
theorem yj:aO ["self"] ["self"] (ak pM):=⟨rfl,rfl,rfl,by decide +kernel,rfl,by decide +kernel,by decide +kernel⟩
theorem Le {f:Addr} {fd:FuncData} {Y:Cy} {fS:Addr} {n:Nat} (F:fG K "told" "Fetch.told" pM f fd) (T:Txt K mg Y.z.s) (U:fB K mg Y.z) (J:gD K mg Y fS) (fh:Mt P w K mg base 1 Y.z.s "told" ["self"] (ly Y.z.s)):bT P w K mg base dX (2*n+8) f fd ["self"] (eE Y (n+1) 2):=by
 obtain ⟨r8,oN,cR,iK,cQ⟩:=fh
 refine F.ok yj (fun vs H Q E h=>?_) (fun cdv A outer s H vs Q E hr h=>?_)
 ·obtain ⟨p,s,rfl,sj,hs,hd,ho,k⟩:=h
  rfl
 ·obtain ⟨p,s,rfl,sj,hs,hd,ho,k⟩:=h
  have hu:=bq hr
  rw [show au pM=[_] from rfl]
  refine ⟨_,(ay (aJ (aQ (aa aY (aa (aE (pv 0) rfl) (aa (aE (pv 0) rfl) (aa (aE (pv 0) rfl) (aa (fP (aE (pv 0) rfl) T.cl iK cR (hr.mono (by first | decide | omega)) cQ .nil az) ah)))))))),?_⟩
  cases s with
  | ny at_ c t e=>exact absurd sj (by show ¬ (7=2);decide)
  | rep at_ c hs f b=>exact absurd sj (by show ¬ (8=2);decide)
  | flat kk at_ as =>
  have sj:kk=2:=sj
  subst sj
  unfold cD at hs
  obtain ⟨q,dx,us,e,sh,ep,pp⟩:=hs
  cases e
  obtain ⟨x0,x1,a2,m2,rfl⟩:=sh
  cases pp with
  | cons h0 pp =>
   cases pp with
   | cons h1 pp =>
    cases pp with
    | cons h2 pp =>
    cases pp
    unfold cV.ok at ho
    have hok:=ho.2
    have h0:_=V.str x0:=h0
    subst h0
    have h1:_=V.str x1:=h1
    subst h1
    obtain ⟨r2,rfl,S2⟩:=h2
    obtain ⟨d2,we,Ck,_⟩:=id S2
    refine ⟨_,rfl,p,_,dx,_,_,rfl,ep,J.cl 2 (by decide),J.na 2 _ (by decide) (by decide +kernel),cG (by decide +kernel) (cG (by decide +kernel) (cG (by decide +kernel) (eu))),?_⟩
    refine ⟨_,rfl,p,_,dx,_,_,rfl,ep,J.cl 2 (by decide),J.na 2 _ (by decide) (by decide +kernel),cG (by decide +kernel) (cG (by decide +kernel) (eu)),?_⟩
    refine ⟨_,rfl,p,_,dx,_,_,rfl,ep,J.cl 2 (by decide),J.na 2 _ (by decide) (by decide +kernel),cG (by decide +kernel) (eu),?_⟩
    refine ⟨_,rfl,p,_,dx,_,_,rfl,ep,J.cl 2 (by decide),J.na 2 _ (by decide) (by decide +kernel),eu,r2,d2,_,rfl,Ck,iS _ _ (by decide +kernel) (by decide +kernel),r2,a2,m2,rfl,S2,fun v2 H1 s1 D2=>?_⟩
    refine ⟨(szl 5),fun r hr'=>k (.ref r) _ (s1.trans (new hr')) ?_⟩
    unfold ie
    exact ⟨r,_,rfl,af,(.cons (rfl) (.cons (rfl) (.cons (⟨v2,rfl,D2.same (new hr')⟩) .nil)))⟩
abbrev pB:Stmt:=inClass (top 6) 1
theorem A6:aO ["self"] ["self"] (ak pB):=⟨rfl,rfl,rfl,by decide +kernel,rfl,by decide +kernel,by decide +kernel⟩
theorem KY {f:Addr} {fd:FuncData} {Y:Cy} {fS:Addr} {n:Nat} (F:fG K "told" "Put.told" pB f fd) (T:Txt K mg Y.z.s) (U:fB K mg Y.z) (J:gD K mg Y fS) (fh:Mt P w K mg base 1 Y.z.s "told" ["self"] (ly Y.z.s)):bT P w K mg base dX (2*n+8) f fd ["self"] (eE Y (n+1) 3):=by
 obtain ⟨r8,oN,cR,iK,cQ⟩:=fh
 refine F.ok A6 (fun vs H Q E h=>?_) (fun cdv A outer s H vs Q E hr h=>?_)
 ·obtain ⟨p,s,rfl,sj,hs,hd,ho,k⟩:=h
  rfl
 ·obtain ⟨p,s,rfl,sj,hs,hd,ho,k⟩:=h
  have hu:=bq hr
  rw [show au pB=[_] from rfl]
  refine ⟨_,(ay (aJ (aQ (aa aY (aa (aE (pv 0) rfl) (aa (aE (pv 0) rfl) (aa (fP (aE (pv 0) rfl) T.cl iK cR (hr.mono (by first | decide | omega)) cQ .nil az) (aa (fP (aE (pv 0) rfl) T.cl iK cR (hr.mono (by first | decide | omega)) cQ .nil az) ah)))))))),?_⟩
  cases s with
  | ny at_ c t e=>exact absurd sj (by show ¬ (7=3);decide)
  | rep at_ c hs f b=>exact absurd sj (by show ¬ (8=3);decide)
  | flat kk at_ as =>
  have sj:kk=3:=sj
  subst sj
  unfold cD at hs
  obtain ⟨q,dx,us,e,sh,ep,pp⟩:=hs
  cases e
  obtain ⟨x0,a1,m1,a2,m2,rfl⟩:=sh
  cases pp with
  | cons h0 pp =>
   cases pp with
   | cons h1 pp =>
    cases pp with
    | cons h2 pp =>
    cases pp
    unfold cV.ok at ho
    have hok:=ho.2
    have h0:_=V.str x0:=h0
    subst h0
    obtain ⟨r1,rfl,S1⟩:=h1
    obtain ⟨d1,yd,es1,_⟩:=id S1
    obtain ⟨r2,rfl,S2⟩:=h2
    obtain ⟨d2,we,Ck,_⟩:=id S2
    refine ⟨_,rfl,p,_,dx,_,_,rfl,ep,J.cl 3 (by decide),J.na 3 _ (by decide) (by decide +kernel),cG (by decide +kernel) (cG (by decide +kernel) (cG (by decide +kernel) (eu))),?_⟩
    refine ⟨_,rfl,p,_,dx,_,_,rfl,ep,J.cl 3 (by decide),J.na 3 _ (by decide) (by decide +kernel),cG (by decide +kernel) (cG (by decide +kernel) (eu)),?_⟩
    refine ⟨_,rfl,p,_,dx,_,_,rfl,ep,J.cl 3 (by decide),J.na 3 _ (by decide) (by decide +kernel),cG (by decide +kernel) (eu),r1,d1,_,rfl,es1,iS _ _ (by decide +kernel) (by decide +kernel),r1,a1,m1,rfl,S1,fun v1 H1 s1 D1=>?_⟩
    refine ⟨_,rfl,p,_,dx,_,_,rfl,(s1 _ _ ep),J.cl 3 (by decide),J.na 3 _ (by decide) (by decide +kernel),eu,r2,d2,_,rfl,(s1 _ _ Ck),iS _ _ (by decide +kernel) (by decide +kernel),r2,a2,m2,rfl,S2.same s1,fun v2 H2 s2 D2=>?_⟩
    refine ⟨(szl 5),fun r hr'=>k (.ref r) _ ((s1.trans s2).trans (new hr')) ?_⟩
    unfold ie
    exact ⟨r,_,rfl,af,(.cons (rfl) (.cons (⟨v1,rfl,D1.same ((s2).trans (new hr'))⟩) (.cons (⟨v2,rfl,D2.same (new hr')⟩) .nil)))⟩
abbrev pG:Stmt:=inClass (top 7) 1
theorem zC:aO ["self"] ["self"] (ak pG):=⟨rfl,rfl,rfl,by decide +kernel,rfl,by decide +kernel,by decide +kernel⟩
theorem K7 {f:Addr} {fd:FuncData} {Y:Cy} {fS:Addr} {n:Nat} (F:fG K "told" "Make.told" pG f fd) (T:Txt K mg Y.z.s) (U:fB K mg Y.z) (J:gD K mg Y fS) (fh:Mt P w K mg base 1 Y.z.s "told" ["self"] (ly Y.z.s)):bT P w K mg base dX (2*n+8) f fd ["self"] (eE Y (n+1) 4):=by
 obtain ⟨r8,oN,cR,iK,cQ⟩:=fh
 refine F.ok zC (fun vs H Q E h=>?_) (fun cdv A outer s H vs Q E hr h=>?_)
 ·obtain ⟨p,s,rfl,sj,hs,hd,ho,k⟩:=h
  rfl
 ·obtain ⟨p,s,rfl,sj,hs,hd,ho,k⟩:=h
  have hu:=bq hr
  rw [show au pG=[_] from rfl]
  refine ⟨_,(ay (aJ (aQ (aa aY (aa (aE (pv 0) rfl) (aa (aE (pv 0) rfl) (aa (fP (aE (pv 0) rfl) T.cl iK cR (hr.mono (by first | decide | omega)) cQ .nil az) ah))))))),?_⟩
  cases s with
  | ny at_ c t e=>exact absurd sj (by show ¬ (7=4);decide)
  | rep at_ c hs f b=>exact absurd sj (by show ¬ (8=4);decide)
  | flat kk at_ as =>
  have sj:kk=4:=sj
  subst sj
  unfold cD at hs
  obtain ⟨q,dx,us,e,sh,ep,pp⟩:=hs
  cases e
  obtain ⟨x0,a1,m1,rfl⟩:=sh
  cases pp with
  | cons h0 pp =>
   cases pp with
   | cons h1 pp =>
   cases pp
   unfold cV.ok at ho
   have hok:=ho.2
   have h0:_=V.str x0:=h0
   subst h0
   obtain ⟨r1,rfl,S1⟩:=h1
   obtain ⟨d1,yd,es1,_⟩:=id S1
   refine ⟨_,rfl,p,_,dx,_,_,rfl,ep,J.cl 4 (by decide),J.na 4 _ (by decide) (by decide +kernel),cG (by decide +kernel) (cG (by decide +kernel) (eu)),?_⟩
   refine ⟨_,rfl,p,_,dx,_,_,rfl,ep,J.cl 4 (by decide),J.na 4 _ (by decide) (by decide +kernel),cG (by decide +kernel) (eu),?_⟩
   refine ⟨_,rfl,p,_,dx,_,_,rfl,ep,J.cl 4 (by decide),J.na 4 _ (by decide) (by decide +kernel),eu,r1,d1,_,rfl,es1,iS _ _ (by decide +kernel) (by decide +kernel),r1,a1,m1,rfl,S1,fun v1 H1 s1 D1=>?_⟩
   refine ⟨(szl 4),fun r hr'=>k (.ref r) _ (s1.trans (new hr')) ?_⟩
   unfold ie
   exact ⟨r,_,rfl,af,(.cons (rfl) (.cons (⟨v1,rfl,D1.same (new hr')⟩) .nil))⟩
abbrev m6:Stmt:=inClass (top 8) 1
theorem ym:aO ["self"] ["self"] (ak m6):=⟨rfl,rfl,rfl,by decide +kernel,rfl,by decide +kernel,by decide +kernel⟩
theorem Hz {f:Addr} {fd:FuncData} {Y:Cy} {fS:Addr} {n:Nat} (F:fG K "told" "Claim.told" m6 f fd) (T:Txt K mg Y.z.s) (U:fB K mg Y.z) (J:gD K mg Y fS) (bU:M4 P w K mg base 4 Y.z "told" ["self"] (dJ Y.z 3)):bT P w K mg base dX (2*n+8) f fd ["self"] (eE Y (n+1) 5):=by
 refine F.ok ym (fun vs H Q E h=>?_) (fun cdv A outer s H vs Q E hr h=>?_)
 ·obtain ⟨p,s,rfl,sj,hs,hd,ho,k⟩:=h
  rfl
 ·obtain ⟨p,s,rfl,sj,hs,hd,ho,k⟩:=h
  have hu:=bq hr
  rw [show au m6=[_] from rfl]
  refine ⟨_,(ay (aJ (aQ (aa aY (aa (aE (pv 0) rfl) (aa (jI (Z:=Y.z) (aE (pv 0) rfl) U.cl iN bU (hr.mono (by first | decide | omega)) az) ah)))))),?_⟩
  cases s with
  | ny at_ c t e=>exact absurd sj (by show ¬ (7=5);decide)
  | rep at_ c hs f b=>exact absurd sj (by show ¬ (8=5);decide)
  | flat kk at_ as =>
  have sj:kk=5:=sj
  subst sj
  unfold cD at hs
  obtain ⟨q,dx,us,e,sh,ep,pp⟩:=hs
  cases e
  obtain ⟨c0,rfl⟩:=sh
  cases pp with
  | cons h0 pp =>
  cases pp
  unfold cV.ok at ho
  have hok:=ho.2
  obtain ⟨p0,rfl⟩:=gA h0
  have h0:cP Y.z H c0 (.ref p0):=h0
  have hd0:c0.dep≤3:=(hok (.cd c0) (List.mem_cons_self ..)).2
  refine ⟨_,rfl,p,_,dx,_,_,rfl,ep,J.cl 5 (by decide),J.na 5 _ (by decide) (by decide +kernel),cG (by decide +kernel) (eu),?_⟩
  refine ⟨_,rfl,p,_,dx,_,_,rfl,ep,J.cl 5 (by decide),J.na 5 _ (by decide) (by decide +kernel),eu,p0,c0,rfl,h0,p0,c0,rfl,rfl,h0,hd0,fun v0 H1 s1 D0=>?_⟩
  refine ⟨(szl 3),fun r hr'=>k (.ref r) _ (s1.trans (new hr')) ?_⟩
  unfold ie
  exact ⟨r,_,rfl,af,(.cons (D0.ao (av.of (new hr'))) .nil)⟩
abbrev m7:Stmt:=inClass (top 11) 1
theorem zD:aO ["self"] ["self"] (ak m7):=⟨rfl,rfl,rfl,by decide +kernel,rfl,by decide +kernel,by decide +kernel⟩
theorem HA {f:Addr} {fd:FuncData} {Y:Cy} {fS:Addr} {n:Nat} (F:fG K "told" "Call.told" m7 f fd) (T:Txt K mg Y.z.s) (U:fB K mg Y.z) (J:gD K mg Y fS) (M5:Dn P w K mg base 2 "told_each" ["parts"] (FY Y.z)):bT P w K mg base dX (2*n+8) f fd ["self"] (eE Y (n+1) 6):=by
 obtain ⟨OT,GK,fD,eK,eO,fq⟩:=M5
 refine F.ok zD (fun vs H Q E h=>?_) (fun cdv A outer s H vs Q E hr h=>?_)
 ·obtain ⟨p,s,rfl,sj,hs,hd,ho,k⟩:=h
  rfl
 ·obtain ⟨p,s,rfl,sj,hs,hd,ho,k⟩:=h
  have hu:=bq hr
  rw [show au m7=[_] from rfl]
  refine ⟨_,(ay (aJ (aQ (aa aY (aa (aE (pv 0) rfl) (aa (aE (pv 0) rfl) (aa (aE (pv 0) rfl) (aa (aq fD (hr.mono (by first | decide | omega)) rfl eK eO fq .nil az (aa (aE (pv 0) rfl) ah)) ah)))))))),?_⟩
  cases s with
  | ny at_ c t e=>exact absurd sj (by show ¬ (7=6);decide)
  | rep at_ c hs f b=>exact absurd sj (by show ¬ (8=6);decide)
  | flat kk at_ as =>
  have sj:kk=6:=sj
  subst sj
  unfold cD at hs
  obtain ⟨q,dx,us,e,sh,ep,pp⟩:=hs
  cases e
  obtain ⟨l0,x1,q2,rfl⟩:=sh
  cases pp with
  | cons h0 pp =>
   cases pp with
   | cons h1 pp =>
    cases pp with
    | cons h2 pp =>
    cases pp
    unfold cV.ok at ho
    have hok:=ho.2
    obtain ⟨r0,rfl,VU⟩:=h0
    have h1:_=V.str x1:=h1
    subst h1
    obtain ⟨r2,PJ,rfl,NX,lz2,Rb⟩:=h2
    refine ⟨_,rfl,p,_,dx,_,_,rfl,ep,J.cl 6 (by decide),J.na 6 _ (by decide) (by decide +kernel),cG (by decide +kernel) (cG (by decide +kernel) (cG (by decide +kernel) (eu))),?_⟩
    refine ⟨_,rfl,p,_,dx,_,_,rfl,ep,J.cl 6 (by decide),J.na 6 _ (by decide) (by decide +kernel),cG (by decide +kernel) (cG (by decide +kernel) (eu)),?_⟩
    refine ⟨_,rfl,p,_,dx,_,_,rfl,ep,J.cl 6 (by decide),J.na 6 _ (by decide) (by decide +kernel),cG (by decide +kernel) (eu),?_⟩
    refine ⟨_,rfl,p,_,dx,_,_,rfl,ep,J.cl 6 (by decide),J.na 6 _ (by decide) (by decide +kernel),eu,r2,PJ,q2,rfl,NX,lz2,Rb,fun v2 us2 H1 s1 OW D2=>?_⟩
    refine ⟨(szl 5),fun r hr'=>k (.ref r) _ (s1.trans (new hr')) ?_⟩
    unfold ie
    exact ⟨r,_,rfl,af,(.cons (⟨r0,rfl,(s1.trans (new hr')) _ _ VU⟩) (.cons (rfl) (.cons (⟨v2,us2,rfl,(new hr') _ _ OW,L2.Paired.dg D2 fun _ _ z=>z.ao (av.of (new hr'))⟩) .nil)))⟩
abbrev m8:Stmt:=inClass (top 9) 1
theorem wZ:aO ["self"] ["self"] (ak m8):=⟨rfl,rfl,rfl,by decide +kernel,rfl,by decide +kernel,by decide +kernel⟩
theorem HB {f:Addr} {fd:FuncData} {Y:Cy} {fS:Addr} {n:Nat} (F:fG K "told" "Choose.told" m8 f fd) (T:Txt K mg Y.z.s) (U:fB K mg Y.z) (J:gD K mg Y fS) (bU:M4 P w K mg base 4 Y.z "told" ["self"] (dJ Y.z 3)) (BH:Dn P w K mg base (2*n+7) "told_each" ["parts"] (AZ Y n)):bT P w K mg base dX (2*n+8) f fd ["self"] (eE Y (n+1) 7):=by
 obtain ⟨OT,GK,fD,eK,eO,fq⟩:=BH
 refine F.ok wZ (fun vs H Q E h=>?_) (fun cdv A outer s H vs Q E hr h=>?_)
 ·obtain ⟨p,s,rfl,sj,hs,hd,ho,k⟩:=h
  rfl
 ·obtain ⟨p,s,rfl,sj,hs,hd,ho,k⟩:=h
  have hu:=bq hr
  rw [show au m8=[_] from rfl]
  refine ⟨_,(ay (aJ (aQ (aa aY (aa (aE (pv 0) rfl) (aa (jI (Z:=Y.z) (aE (pv 0) rfl) U.cl iN bU (hr.mono (by first | decide | omega)) az) (aa (aq fD (hr.mono (by first | decide | omega)) rfl eK eO fq .nil az (aa (aE (pv 0) rfl) ah)) (aa (aq fD (hr.mono (by first | decide | omega)) rfl eK eO fq .nil az (aa (aE (pv 0) rfl) ah)) ah)))))))),?_⟩
  cases s with
  | flat kk at_ as =>
   have sj:kk=7:=sj
   subst sj
   unfold cD at hs
   obtain ⟨_,_,_,_,sh,_⟩:=hs
   exact sh.elim
  | rep at_ c hs f b=>exact absurd sj (by show ¬ (8=7);decide)
  | ny at_ c t e =>
  unfold cD at hs
  obtain ⟨q,dx,uc,t1,t2,us,ws,e0,ep,hc,e1,l1,h1,e2,l2,h2⟩:=hs
  cases e0
  obtain ⟨pc,rfl⟩:=gA hc
  unfold cV.ok at ho
  unfold cV.dep at hd
  refine ⟨_,rfl,p,_,dx,_,_,rfl,ep,J.cl 7 (by decide),J.na 7 _ (by decide) (by decide +kernel),cG (by decide +kernel) (cG (by decide +kernel) (cG (by decide +kernel) (eu))),?_⟩
  refine ⟨_,rfl,p,_,dx,_,_,rfl,ep,J.cl 7 (by decide),J.na 7 _ (by decide) (by decide +kernel),cG (by decide +kernel) (cG (by decide +kernel) (eu)),pc,c,rfl,hc,pc,c,rfl,rfl,hc,ho.1.2,fun v1 H1 s1 D1=>?_⟩
  refine ⟨_,rfl,p,_,dx,_,_,rfl,(s1 _ _ ep),J.cl 7 (by decide),J.na 7 _ (by decide) (by decide +kernel),cG (by decide +kernel) (eu),t1,us,t,rfl,s1 _ _ e1,l1,h1.ao (av.of s1),by omega,ho.2.2.2.1,fun r1 AQ H2 s2 E1 P1=>?_⟩
  refine ⟨_,rfl,p,_,dx,_,_,rfl,((s1.trans s2) _ _ ep),J.cl 7 (by decide),J.na 7 _ (by decide) (by decide +kernel),eu,t2,ws,e,rfl,(s1.trans s2) _ _ e2,l2,h2.ao (av.of (s1.trans s2)),by omega,ho.2.2.2.2,fun r2 ur H3 s3 E2 P2=>?_⟩
  refine ⟨(szl 5),fun r hr'=>k (.ref r) _ (((s1.trans s2).trans s3).trans (new hr')) ?_⟩
  unfold ie
  exact ⟨r,v1,r1,r2,AQ,ur,rfl,af,D1.ao (av.of ((s2.trans s3).trans (new hr'))),(s3.trans (new hr')) _ _ E1,P1.ao (av.of (s3.trans (new hr'))),new hr' _ _ E2,P2.ao (av.of (new hr'))⟩
abbrev mZ:Stmt:=inClass (top 10) 1
theorem lY:aO ["self","falls"] ["self"] (ak mZ):=⟨rfl,rfl,rfl,by decide +kernel,rfl,by decide +kernel,by decide +kernel⟩
theorem Hu {f:Addr} {fd:FuncData} {Y:Cy} {fS:Addr} {n:Nat} (F:fG K "told" "Repeat.told" mZ f fd) (T:Txt K mg Y.z.s) (U:fB K mg Y.z) (J:gD K mg Y fS) (bU:M4 P w K mg base 4 Y.z "told" ["self"] (dJ Y.z 3)) (fh:Mt P w K mg base 1 Y.z.s "told" ["self"] (ly Y.z.s)) (BG:Dn P w K mg base 5 "told_pairs" ["pairs"] (AY Y.z)) (BH:Dn P w K mg base (2*n+7) "told_each" ["parts"] (AZ Y n)):bT P w K mg base dX (2*n+8) f fd ["self"] (eE Y (n+1) 8):=by
 obtain ⟨r8,oN,cR,iK,cQ⟩:=fh
 obtain ⟨Vw,SA,lQ,kK,kM,lM⟩:=BG
 obtain ⟨OT,GK,fD,eK,eO,fq⟩:=BH
 refine F.ok lY (fun vs H Q E h=>?_) (fun cdv A outer s H vs Q E hr h=>?_)
 ·obtain ⟨p,s,rfl,sj,hs,hd,ho,k⟩:=h
  rfl
 ·obtain ⟨p,s,rfl,sj,hs,hd,ho,k⟩:=h
  have hu:=bq hr
  rw [show au mZ=[_,_,_] from rfl]
  refine ⟨_,(ai (aR (i:=1) lY.nd rfl (Or.inl rfl) j9)
   (ai (cO (aK tH (aE (pv 0) rfl) j9 (aP _)) (ay (aR (i:=1) lY.nd rfl (Or.inl rfl) (aQ (aa (aH aG (aE (pv 0) rfl) aj (fun _ _=>rfl)) (aa (fP (aH aG (aE (pv 0) rfl) aj (fun _ _=>rfl)) T.cl iK cR (hr.mono (by first | decide | omega)) cQ .nil az) ah))))) bx)
   (ay (aJ (aQ (aa aY (aa (aE (pv 0) rfl) (aa (jI (Z:=Y.z) (aE (pv 0) rfl) U.cl iN bU (hr.mono (by first | decide | omega)) az) (aa (aq lQ (hr.mono (by first | decide | omega)) rfl kK kM lM .nil az (aa (aE (pv 0) rfl) ah)) (aa (pv 1) (aa (aq fD (hr.mono (by first | decide | omega)) rfl eK eO fq .nil az (aa (aE (pv 0) rfl) ah)) ah))))))))))),?_⟩
  cases s with
  | flat kk at_ as =>
   have sj:kk=8:=sj
   subst sj
   unfold cD at hs
   obtain ⟨_,_,_,_,sh,_⟩:=hs
   exact sh.elim
  | ny at_ c t e=>exact absurd sj (by show ¬ (7=8);decide)
  | rep at_ c hh ff b =>
  unfold cD at hs
  obtain ⟨q,dx,uc,uh,uf,t2,ws,e0,ep,hc,hP,hF,e2,l2,h2⟩:=hs
  cases e0
  obtain ⟨pc,rfl⟩:=gA hc
  unfold cV.ok at ho
  unfold cV.dep at hd
  cases ff with
  | none =>
   have hF:uf=V.eT:=hF
   subst hF
   refine ⟨_,rfl,p,_,dx,_,_,rfl,ep,J.cl 8 (by decide),J.na 8 _ (by decide) (by decide +kernel),cG (by decide +kernel) (eu),rfl,_,rfl,nu rfl ?_⟩
   refine ⟨_,rfl,p,_,dx,_,_,rfl,ep,J.cl 8 (by decide),J.na 8 _ (by decide) (by decide +kernel),cG (by decide +kernel) (cG (by decide +kernel) (cG (by decide +kernel) (cG (by decide +kernel) (eu)))),?_⟩
   refine ⟨_,rfl,p,_,dx,_,_,rfl,ep,J.cl 8 (by decide),J.na 8 _ (by decide) (by decide +kernel),cG (by decide +kernel) (cG (by decide +kernel) (cG (by decide +kernel) (eu))),pc,c,rfl,hc,pc,c,rfl,rfl,hc,ho.1.2,fun v1 H1 s1 D1=>?_⟩
   refine ⟨_,rfl,p,_,dx,_,_,rfl,(s1 _ _ ep),J.cl 8 (by decide),J.na 8 _ (by decide) (by decide +kernel),cG (by decide +kernel) (cG (by decide +kernel) (eu)),uh,hh,rfl,hP.ao (av.of s1),(fun q hq=>(ho.2.2.1 q hq).2),fun v2 H2 s2 D2=>?_⟩
   refine ⟨_,rfl,?_⟩
   refine ⟨_,rfl,p,_,dx,_,_,rfl,((s1.trans s2) _ _ ep),J.cl 8 (by decide),J.na 8 _ (by decide) (by decide +kernel),eu,t2,ws,b,rfl,(s1.trans s2) _ _ e2,l2,h2.ao (av.of (s1.trans s2)),by omega,ho.2.2.2.2.2,fun r2 ur H3 s3 E2 P2=>?_⟩
   refine ⟨(szl 6),fun r hr'=>k (.ref r) _ (((s1.trans s2).trans s3).trans (new hr')) ?_⟩
   unfold ie
   exact ⟨r,v1,v2,.eT,r2,ur,rfl,af,D1.ao (av.of ((s2.trans s3).trans (new hr'))),D2.ao (av.of (s3.trans (new hr'))),rfl,new hr' _ _ E2,P2.ao (av.of (new hr'))⟩
  | some q =>
   obtain ⟨rf,df,rfl,OV,Sf⟩:=hF
   obtain ⟨dd,tt,es,_⟩:=id Sf
   refine ⟨_,rfl,p,_,dx,_,_,rfl,ep,J.cl 8 (by decide),J.na 8 _ (by decide) (by decide +kernel),cG (by decide +kernel) (eu),rfl,_,rfl,pZ (fun z=>by cases z) ?_⟩
   refine ⟨_,rfl,p,_,dx,_,_,rfl,ep,J.cl 8 (by decide),J.na 8 _ (by decide) (by decide +kernel),cG (by decide +kernel) (eu),rf,_,0,_,rfl,rfl,aV.of OV,rfl,?_⟩
   refine ⟨_,rfl,p,_,dx,_,_,rfl,ep,J.cl 8 (by decide),J.na 8 _ (by decide) (by decide +kernel),cG (by decide +kernel) (eu),rf,_,1,_,rfl,rfl,aV.of OV,rfl,df,dd,_,rfl,es,iS _ _ (by decide +kernel) (by decide +kernel),df,q.2.1,q.2.2,rfl,Sf,fun rv H0 s0 D0=>?_⟩
   refine ⟨(szl 2),fun rq hrq=>?_⟩
   have sq:=s0.trans (new (o:=.tup [.int q.1,.ref rv]) hrq)
   refine ⟨_,rfl,p,_,dx,_,_,rfl,(sq _ _ ep),J.cl 8 (by decide),J.na 8 _ (by decide) (by decide +kernel),cG (by decide +kernel) (cG (by decide +kernel) (cG (by decide +kernel) (cG (by decide +kernel) (eu)))),?_⟩
   refine ⟨_,rfl,p,_,dx,_,_,rfl,(sq _ _ ep),J.cl 8 (by decide),J.na 8 _ (by decide) (by decide +kernel),cG (by decide +kernel) (cG (by decide +kernel) (cG (by decide +kernel) (eu))),pc,c,rfl,hc.ao (av.of sq),pc,c,rfl,rfl,hc.ao (av.of sq),ho.1.2,fun v1 H1 s1 D1=>?_⟩
   refine ⟨_,rfl,p,_,dx,_,_,rfl,((sq.trans s1) _ _ ep),J.cl 8 (by decide),J.na 8 _ (by decide) (by decide +kernel),cG (by decide +kernel) (cG (by decide +kernel) (eu)),uh,hh,rfl,hP.ao (av.of (sq.trans s1)),(fun q hq=>(ho.2.2.1 q hq).2),fun v2 H2 s2 D2=>?_⟩
   refine ⟨_,rfl,?_⟩
   refine ⟨_,rfl,p,_,dx,_,_,rfl,(((sq.trans s1).trans s2) _ _ ep),J.cl 8 (by decide),J.na 8 _ (by decide) (by decide +kernel),eu,t2,ws,b,rfl,((sq.trans s1).trans s2) _ _ e2,l2,h2.ao (av.of ((sq.trans s1).trans s2)),by omega,ho.2.2.2.2.2,fun r2 ur H3 s3 E2 P2=>?_⟩
   refine ⟨(szl 6),fun r hr'=>k (.ref r) _ ((((sq.trans s1).trans s2).trans s3).trans (new hr')) ?_⟩
   unfold ie
   exact ⟨r,v1,v2,(.ref rq),r2,ur,rfl,af,D1.ao (av.of ((s2.trans s3).trans (new hr'))),D2.ao (av.of (s3.trans (new hr'))),⟨rq,rv,rfl,(((s1.trans s2).trans s3).trans (new hr')) _ _ af,(D0.same (new hrq)).same (((s1.trans s2).trans s3).trans (new hr'))⟩,new hr' _ _ E2,P2.ao (av.of (new hr'))⟩
abbrev EK:Stmt:=inClass (top 16) 0
theorem uB:aO ["self","at","name","params","answers","needs","gives","steps"] ["self","at","name","params","answers","needs","gives","steps"] (ak EK):=⟨rfl,rfl,rfl,by decide +kernel,rfl,by decide +kernel,by decide +kernel⟩
theorem RA {f:Addr} {fd:FuncData} {Y:Cy} {fS:Addr} {n:Nat} (F:fG K "__init__" "Helper.__init__" EK f fd) (T:Txt K mg Y.z.s) (U:fB K mg Y.z) (J:gD K mg Y fS) (Nh:Dn P w K mg base 1 "as_pairs" ["pairs"] Gg):bT P w K mg base dX 2 f fd ["self","at","name","params","answers","needs","gives","steps"] (Jy Y):=by
 obtain ⟨VA,SD,oU,ni,nk,oS⟩:=Nh
 refine F.ok uB (fun vs H Q E h=>?_) (fun cdv A outer s H vs Q E hr h=>?_)
 ·obtain ⟨p,dx,l1,l2,l3,l4,l5,h,ns,gs,ws,rfl,hp,h1,h2,h3,z3,p3,h4,z4,p4,h5,k⟩:=h
  rfl
 ·obtain ⟨p,dx,l1,l2,l3,l4,l5,h,ns,gs,ws,rfl,hp,h1,h2,h3,z3,p3,h4,z4,p4,h5,k⟩:=h
  have hu:=bq hr
  rw [show au EK=[_,_,_,_,_,_,_] from rfl]
  refine ⟨_,(ai (cE (pv 0) (pv 1) rfl)
   (ai (cE (pv 0) (pv 2) rfl)
   (ai (cE (pv 0) (aS aI (by rfl) T.tuple boot_tuple (aa (pv 3) ah)) rfl)
   (ai (cE (pv 0) (aS aI (by rfl) T.tuple boot_tuple (aa (pv 4) ah)) rfl)
   (ai (cE (pv 0) (aq oU (hr.mono (by first | decide | omega)) rfl ni nk oS .nil az (aa (pv 5) ah)) rfl)
   (ai (cE (pv 0) (aq oU (hr.mono (by first | decide | omega)) rfl ni nk oS .nil az (aa (pv 6) ah)) rfl)
   (ay (cE (pv 0) (aS aI (by rfl) T.tuple boot_tuple (aa (pv 7) ah)) rfl)))))))),?_⟩
  have RO:l1≠p:=fun z=>by rw [z,hp] at h1;cases h1
  have RN:l2≠p:=fun z=>by rw [z,hp] at h2;cases h2
  have nl3:l3≠p:=fun z=>by rw [z,hp] at h3;cases h3
  have nl4:l4≠p:=fun z=>by rw [z,hp] at h4;cases h4
  have nl5:l5≠p:=fun z=>by rw [z,hp] at h5;cases h5
  refine ⟨_,rfl,_,rfl,p,_,dx,_,rfl,hp,J.ch,J.nh _ (by decide +kernel),(by show 0 < 1000;decide),?_⟩
  refine ⟨_,rfl,_,rfl,p,_,dx,_,rfl,af,J.ch,J.nh _ (by decide +kernel),(by show 1 < 1000;decide),?_⟩
  have B0:bE p H (upd (upd H p (.ins Y.hp dx (bw "at" (.int h.at_) []))) p (.ins Y.hp dx (bw "name" (.str h.nm) (bw "at" (.int h.at_) [])))):=bE.upd.trans bE.upd
  have E0':upd (upd H p (.ins Y.hp dx (bw "at" (.int h.at_) []))) p (.ins Y.hp dx (bw "name" (.str h.nm) (bw "at" (.int h.at_) []))) p=some (.ins Y.hp dx (bw "name" (.str h.nm) (bw "at" (.int h.at_) []))):=af
  generalize upd (upd H p (.ins Y.hp dx (bw "at" (.int h.at_) []))) p (.ins Y.hp dx (bw "name" (.str h.nm) (bw "at" (.int h.at_) [])))=H0 at B0 E0' ⊢
  refine ⟨_,rfl,l1,_,rfl,.inl ⟨ck.of (B0 _ _ h1 RO),fun t1 ht1=>?_⟩⟩
  have n1:p≠t1:=aB E0' ht1
  refine ⟨_,rfl,p,_,dx,_,rfl,(new ht1 _ _ E0'),J.ch,J.nh _ (by decide +kernel),(by show 2 < 1000;decide),?_⟩
  have B1:=(B0.trans (bE.of (new (o:=.tup (h.ps.map V.str)) ht1))).trans (bE.upd (d:=p) (o:=.ins Y.hp dx (bw "params" (.ref t1) (bw "name" (.str h.nm) (bw "at" (.int h.at_) [])))))
  have E1:upd (upd H0 t1 (.tup (h.ps.map V.str))) p (.ins Y.hp dx (bw "params" (.ref t1) (bw "name" (.str h.nm) (bw "at" (.int h.at_) [])))) p=_:=af
  have T8:upd (upd H0 t1 (.tup (h.ps.map V.str))) p (.ins Y.hp dx (bw "params" (.ref t1) (bw "name" (.str h.nm) (bw "at" (.int h.at_) [])))) t1=some (.tup (h.ps.map V.str)):=by rw [aX n1.symm];exact af
  generalize upd (upd H0 t1 (.tup (h.ps.map V.str))) p (.ins Y.hp dx (bw "params" (.ref t1) (bw "name" (.str h.nm) (bw "at" (.int h.at_) []))))=H1 at B1 E1 T8 ⊢
  refine ⟨_,rfl,l2,_,rfl,.inl ⟨ck.of (B1 _ _ h2 RN),fun t2 Ag=>?_⟩⟩
  have n2:p≠t2:=aB E1 Ag
  refine ⟨_,rfl,p,_,dx,_,rfl,(new Ag _ _ E1),J.ch,J.nh _ (by decide +kernel),(by show 3 < 1000;decide),?_⟩
  have B2:=(B1.trans (bE.of (new (o:=.tup (h.an.map V.str)) Ag))).trans (bE.upd (d:=p) (o:=.ins Y.hp dx (bw "answers" (.ref t2) (bw "params" (.ref t1) (bw "name" (.str h.nm) (bw "at" (.int h.at_) []))))))
  have E2:upd (upd H1 t2 (.tup (h.an.map V.str))) p (.ins Y.hp dx (bw "answers" (.ref t2) (bw "params" (.ref t1) (bw "name" (.str h.nm) (bw "at" (.int h.at_) []))))) p=_:=af
  have NX:upd (upd H1 t2 (.tup (h.an.map V.str))) p (.ins Y.hp dx (bw "answers" (.ref t2) (bw "params" (.ref t1) (bw "name" (.str h.nm) (bw "at" (.int h.at_) []))))) t2=some (.tup (h.an.map V.str)):=by rw [aX n2.symm];exact af
  have VT:=((bE.of (new (o:=.tup (h.an.map V.str)) Ag)).trans (bE.upd (d:=p) (o:=.ins Y.hp dx (bw "answers" (.ref t2) (bw "params" (.ref t1) (bw "name" (.str h.nm) (bw "at" (.int h.at_) []))))))) _ _ T8 n1.symm
  generalize upd (upd H1 t2 (.tup (h.an.map V.str))) p (.ins Y.hp dx (bw "answers" (.ref t2) (bw "params" (.ref t1) (bw "name" (.str h.nm) (bw "at" (.int h.at_) [])))))=H2 at B2 E2 NX VT ⊢
  have tp:∀ (H':Hp),bE p H H'→∀ (zs:List V),(∀ u∈zs,∃ r xs,u=V.ref r∧H r=some (.tup xs))→∀ u∈zs,∃ r xs,u=V.ref r∧H' r=some (.tup xs):=fun H' b zs hz u hu=>by
   obtain ⟨r,xs,e,er⟩:=hz u hu
   exact ⟨r,xs,e,b _ _ er (fun z=>by rw [z,hp] at er;cases er)⟩
  refine ⟨_,rfl,l3,ns,rfl,B2 _ _ h3 nl3,z3,tp _ B2 _ p3,fun t3 H3 s3 et3=>?_⟩
  have E3:=s3 _ _ E2
  have n3:t3≠p:=fun z=>by rw [z,E3] at et3;cases et3
  refine ⟨_,rfl,p,_,dx,_,rfl,E3,J.ch,J.nh _ (by decide +kernel),(by show 4 < 1000;decide),?_⟩
  have B3:=(B2.trans (bE.of s3)).trans (bE.upd (d:=p) (o:=.ins Y.hp dx (bw "needs" (.ref t3) (bw "answers" (.ref t2) (bw "params" (.ref t1) (bw "name" (.str h.nm) (bw "at" (.int h.at_) [])))))))
  refine ⟨_,rfl,l4,gs,rfl,B3 _ _ h4 nl4,z4,tp _ B3 _ p4,fun t4 H4 s4 et4=>?_⟩
  have E4:H4 p=some (.ins Y.hp dx (bw "needs" (.ref t3) (bw "answers" (.ref t2) (bw "params" (.ref t1) (bw "name" (.str h.nm) (bw "at" (.int h.at_) [])))))):=s4 _ _ af
  have n4:t4≠p:=fun z=>by rw [z,E4] at et4;cases et4
  refine ⟨_,rfl,p,_,dx,_,rfl,E4,J.ch,J.nh _ (by decide +kernel),(by show 5 < 1000;decide),?_⟩
  refine ⟨_,rfl,l5,_,rfl,.inl ⟨ck.of (((B3.trans (bE.of s4)).trans bE.upd) _ _ h5 nl5),fun t5 OL=>?_⟩⟩
  have n5:p≠t5:=aB af OL
  refine ⟨_,rfl,p,_,dx,_,rfl,(new OL _ _ af),J.ch,J.nh _ (by decide +kernel),(by show 6 < 1000;decide),?_⟩
  exact k t1 t2 t3 t4 t5 _ ((((B3.trans (bE.of s4)).trans bE.upd).trans (bE.of (new OL))).trans bE.upd) af ((((((bE.of s3).trans bE.upd).trans (bE.of s4)).trans bE.upd).trans (bE.of (new OL))).trans bE.upd _ _ VT n1.symm) ((((((bE.of s3).trans bE.upd).trans (bE.of s4)).trans bE.upd).trans (bE.of (new OL))).trans bE.upd _ _ NX n2.symm) (((((bE.upd.trans (bE.of s4)).trans bE.upd).trans (bE.of (new OL))).trans bE.upd) _ _ et3 n3) (((bE.upd.trans (bE.of (new OL))).trans bE.upd) _ _ et4 n4) (bE.upd _ _ af n5.symm)
abbrev EH:Stmt:=inClass (top 17) 0
theorem sU:aO ["self","helpers"] ["self","helpers"] (ak EH):=⟨rfl,rfl,rfl,by decide +kernel,rfl,by decide +kernel,by decide +kernel⟩
theorem Rw {f:Addr} {fd:FuncData} {Y:Cy} {fS:Addr} {n:Nat} (F:fG K "__init__" "Program.__init__" EH f fd) (T:Txt K mg Y.z.s) (U:fB K mg Y.z) (J:gD K mg Y fS) :bT P w K mg base dX 1 f fd ["self","helpers"] (vp Y):=by
 refine F.ok sU (fun vs H Q E h=>?_) (fun cdv A outer s H vs Q E hr h=>?_)
 ·obtain ⟨p,dx,l,us,rfl,hp,hl,k⟩:=h
  rfl
 ·obtain ⟨p,dx,l,us,rfl,hp,hl,k⟩:=h
  have hu:=bq hr
  rw [show au EH=[_] from rfl]
  refine ⟨_,(ay (cE (pv 0) (aS aI (by rfl) T.tuple boot_tuple (aa (pv 1) ah)) rfl)),?_⟩
  refine ⟨_,rfl,l,_,rfl,.inl ⟨ck.of hl,fun t ht=>?_⟩⟩
  have Ln:p≠t:=aB hp ht
  refine ⟨_,rfl,p,_,dx,_,rfl,(new ht _ _ hp),J.cp,J.np,(by show 0 < 1000;decide),?_⟩
  exact k t _ ((bE.of (new ht)).trans bE.upd) af (by rw [aX Ln.symm];exact af)
abbrev qW:Stmt:=inClass (top 16) 1
theorem wX:aO ["self"] ["self"] (ak qW):=⟨rfl,rfl,rfl,by decide +kernel,rfl,by decide +kernel,by decide +kernel⟩
theorem Ld {f:Addr} {fd:FuncData} {Y:Cy} {fS:Addr} {n:Nat} (F:fG K "told" "Helper.told" qW f fd) (T:Txt K mg Y.z.s) (U:fB K mg Y.z) (J:gD K mg Y fS) (BG:Dn P w K mg base 5 "told_pairs" ["pairs"] (AY Y.z)) (BH:Dn P w K mg base 13 "told_each" ["parts"] (AZ Y 3)):bT P w K mg base dX 15 f fd ["self"] (wk Y):=by
 obtain ⟨Vw,SA,lQ,kK,kM,lM⟩:=BG
 obtain ⟨OT,GK,fD,eK,eO,fq⟩:=BH
 refine F.ok wX (fun vs H Q E h=>?_) (fun cdv A outer s H vs Q E hr h=>?_)
 ·obtain ⟨p,h,rfl,hh,ho,k⟩:=h
  rfl
 ·obtain ⟨p,h,rfl,hh,ho,k⟩:=h
  have hu:=bq hr
  rw [show au qW=[_] from rfl]
  refine ⟨_,(ay (aJ (aQ (aa aY (aa (aE (pv 0) rfl) (aa (aE (pv 0) rfl) (aa (aE (pv 0) rfl) (aa (aE (pv 0) rfl) (aa (aq lQ (hr.mono (by first | decide | omega)) rfl kK kM lM .nil az (aa (aE (pv 0) rfl) ah)) (aa (aq lQ (hr.mono (by first | decide | omega)) rfl kK kM lM .nil az (aa (aE (pv 0) rfl) ah)) (aa (aq fD (hr.mono (by first | decide | omega)) rfl eK eO fq .nil az (aa (aE (pv 0) rfl) ah)) ah))))))))))),?_⟩
  obtain ⟨q,dx,t1,t2,v1,v2,t3,us,e0,ep,e1,e2,h1,h2,e3,l3,h3⟩:=hh
  cases e0
  refine ⟨_,rfl,p,_,dx,_,_,rfl,ep,J.ch,J.nh _ (by decide +kernel),(by unfold Aj;exact cG (by decide +kernel) (cG (by decide +kernel) (cG (by decide +kernel) (cG (by decide +kernel) (cG (by decide +kernel) (cG (by decide +kernel) (eu))))))),?_⟩
  refine ⟨_,rfl,p,_,dx,_,_,rfl,ep,J.ch,J.nh _ (by decide +kernel),(by unfold Aj;exact cG (by decide +kernel) (cG (by decide +kernel) (cG (by decide +kernel) (cG (by decide +kernel) (cG (by decide +kernel) (eu)))))),?_⟩
  refine ⟨_,rfl,p,_,dx,_,_,rfl,ep,J.ch,J.nh _ (by decide +kernel),(by unfold Aj;exact cG (by decide +kernel) (cG (by decide +kernel) (cG (by decide +kernel) (cG (by decide +kernel) (eu))))),?_⟩
  refine ⟨_,rfl,p,_,dx,_,_,rfl,ep,J.ch,J.nh _ (by decide +kernel),(by unfold Aj;exact cG (by decide +kernel) (cG (by decide +kernel) (cG (by decide +kernel) (eu)))),?_⟩
  refine ⟨_,rfl,p,_,dx,_,_,rfl,ep,J.ch,J.nh _ (by decide +kernel),(by unfold Aj;exact cG (by decide +kernel) (cG (by decide +kernel) (eu))),v1,h.nd,rfl,h1,(fun q hq=>(ho.nd q hq).2),fun w1 H1 s1 D1=>?_⟩
  refine ⟨_,rfl,p,_,dx,_,_,rfl,(s1 _ _ ep),J.ch,J.nh _ (by decide +kernel),(by unfold Aj;exact cG (by decide +kernel) (eu)),v2,h.gv,rfl,h2.ao (av.of s1),(fun q hq=>(ho.gv q hq).2),fun w2 H2 s2 D2=>?_⟩
  refine ⟨_,rfl,p,_,dx,_,_,rfl,((s1.trans s2) _ _ ep),J.ch,J.nh _ (by decide +kernel),(by unfold Aj;exact eu),t3,us,h.st,rfl,(s1.trans s2) _ _ e3,l3,h3.ao (av.of (s1.trans s2)),ho.dp,ho.st,fun r3 XX H3 s3 E3 P3=>?_⟩
  refine ⟨(szl 8),fun r hr'=>k (.ref r) _ (((s1.trans s2).trans s3).trans (new hr')) ?_⟩
  have sA:=((s1.trans s2).trans s3).trans (new (o:=.tup [.str "helper",.int h.at_,.str h.nm,.ref t1,.ref t2,w1,w2,.ref r3]) hr')
  exact ⟨r,t1,t2,w1,w2,r3,XX,rfl,af,sA _ _ e1,sA _ _ e2,D1.ao (av.of ((s2.trans s3).trans (new hr'))),D2.ao (av.of (s3.trans (new hr'))),new hr' _ _ E3,P3.ao (av.of (new hr'))⟩
abbrev oq:Stmt:=inClass (top 17) 2
theorem vR:aO ["self"] ["self"] (ak oq):=⟨rfl,rfl,rfl,by decide +kernel,rfl,by decide +kernel,by decide +kernel⟩
theorem Hv {f:Addr} {fd:FuncData} {Y:Cy} {fS:Addr} {n:Nat} (F:fG K "told" "Program.told" oq f fd) (T:Txt K mg Y.z.s) (U:fB K mg Y.z) (J:gD K mg Y fS) (V8:Dn P w K mg base 16 "told_each" ["parts"] (Jw Y)):bT P w K mg base dX 17 f fd ["self"] (mU Y):=by
 obtain ⟨OT,GK,fD,eK,eO,fq⟩:=V8
 refine F.ok vR (fun vs H Q E h=>?_) (fun cdv A outer s H vs Q E hr h=>?_)
 ·obtain ⟨p,us,l,rfl,hP,ho,k⟩:=h
  rfl
 ·obtain ⟨p,us,l,rfl,hP,ho,k⟩:=h
  have hu:=bq hr
  rw [show au oq=[_] from rfl]
  refine ⟨_,(ay (aJ (aq fD (hr.mono (by first | decide | omega)) rfl eK eO fq .nil az (aa (aE (pv 0) rfl) ah)))),?_⟩
  obtain ⟨dx,t,ep,et,hz,hp⟩:=hP
  exact ⟨_,rfl,p,_,dx,_,_,rfl,ep,J.cp,J.np,eu,t,us,l,rfl,et,hz,hp,ho,fun r ws H' sm er pw=>k r ws H' sm er pw⟩
abbrev qT:Stmt:=inClass (top 17) 1
theorem nP:aO ["self","name","helper"] ["self","name"] (ak qT):=⟨rfl,rfl,rfl,by decide +kernel,rfl,by decide +kernel,by decide +kernel⟩
theorem K6 {f:Addr} {fd:FuncData} {Y:Cy} {fS:Addr} {n:Nat} (F:fG K "named" "Program.named" qT f fd) (T:Txt K mg Y.z.s) (U:fB K mg Y.z) (J:gD K mg Y fS) :bT P w K mg base dX 1 f fd ["self","name"] (mV Y):=by
 refine F.ok nP (fun vs H Q E h=>?_) (fun cdv A outer s H vs Q E hr h=>?_)
 ·obtain ⟨p,x,us,l,rfl,hP,k⟩:=h
  rfl
 ·obtain ⟨p,x,us,l,rfl,hP,k⟩:=h
  have hu:=bq hr
  rw [show au qT=[_,_] from rfl]
  refine ⟨_,(ai (oE PassesOwn.never rfl (gF (aE (pv 0) rfl)) (aN (i:=2) nP.nd rfl (Or.inl rfl)) (ay (cO (aK di (aE (pv 2) rfl) (pv 1) (aP _)) (ay (aJ (pv 2))) bx)))
   (ay (aJ j9))),?_⟩
  obtain ⟨dx,t,ep,et,hz,hp⟩:=hP
  have rV:=aA hp
  refine ⟨_,rfl,p,_,dx,_,_,rfl,ep,J.cp,J.np,eu,t,rfl,⟨us,aV.of et⟩,Ai (xs:=us) (fun i σ H'=>∃ k2:Option V,σ=[some (.ref p),some (.str x),k2]∧H'=H∧nv x us l=nv x (us.drop i) (l.drop i)) ⟨none,rfl,rfl,rfl⟩ ?_ ?_ ?_⟩
  ·rintro i σ H' _ ⟨k2,rfl,rfl,_⟩
   exact aV.of et
  ·rintro i u σ H' hi ⟨k2,rfl,rfl,hf⟩
   obtain ⟨h,hhi,hx⟩:=bH hp hi
   obtain ⟨pp,dx',t1,t2,v1,v2,t3,Z3,rfl,VY,_⟩:=id hx
   have e1:us.drop i=.ref pp::us.drop (i+1):=by
    obtain ⟨hlt,e⟩:=List.getElem?_eq_some_iff.mp hi
    rw [List.drop_eq_getElem_cons hlt,e]
   have e2:l.drop i=h::l.drop (i+1):=by
    obtain ⟨hlt,e⟩:=List.getElem?_eq_some_iff.mp hhi
    rw [List.drop_eq_getElem_cons hlt,e]
   rw [e1,e2] at hf
   refine ⟨_,rfl,pp,_,dx',_,_,rfl,VY,J.ch,J.nh _ (by decide +kernel),(by unfold Aj;exact cG (by decide +kernel) (cG (by decide +kernel) (cG (by decide +kernel) (cG (by decide +kernel) (cG (by decide +kernel) (eu)))))),_,rfl,rfl,_,rfl,?_⟩
   by_cases hn:h.nm=x
   ·refine dF (congrArg V.str hn) ⟨_,rfl,?_⟩
    have e:nv x us l=.ref pp:=by rw [hf];unfold nv;rw [if_pos hn]
    have kk:=k H' (aF.refl _)
    rw [e] at kk
    exact kk
   ·refine bJ (fun z=>hn (V.str.inj z)) ⟨_,rfl,rfl,?_⟩
    rw [hf]
    conv=>lhs;unfold nv
    rw [if_neg hn]
  ·rintro σ H' ⟨k2,rfl,rfl,hf⟩
   rw [List.drop_length,show l.drop us.length=[] by rw [rV,List.drop_length]] at hf
   have kk:=k H' (aF.refl _)
   rw [hf] at kk
   exact kk
abbrev qR:Stmt:=top 20
theorem qx:aO ["pairs","number","weights","thing","weight"] ["pairs","number"] (ak qR):=⟨rfl,rfl,rfl,by decide +kernel,rfl,by decide +kernel,by decide +kernel⟩
theorem Ht {f C:Addr} {fd:FuncData} (F:fG K "sum_of" "sum_of" qR f fd) (T:Txt K mg C) (d_init:Mr P w K mg base 1 C ["self","terms","number"] (EB C)):bT P w K mg base dX 3 f fd ["pairs","number"] (zo C):=by
 obtain ⟨a8P,Za,FD,M,Fq⟩:=d_init
 refine F.ok qx (fun vs H Q E h=>?_) (fun cdv A outer s H vs Q E hr h=>?_)
 ·obtain ⟨a,n,ps,rfl,hs,hz,k⟩:=h
  rfl
 ·obtain ⟨a,n,ps,rfl,hs,hz,k⟩:=h
  have hu:=bq hr
  rw [show au qR=[_,_,_] from rfl]
  refine ⟨_,(ai (aR (i:=2) qx.nd rfl (Or.inr rfl) Bb)
   (ai (oE PassesOwn.never rfl (Km (pv 0)) (uG rfl (cC (aN (i:=3) qx.nd rfl (Or.inl rfl)) (cC (aN (i:=4) qx.nd rfl (Or.inl rfl)) kI))) (ay (Gk hu (pv 2) (pv 3) (bX ju (KJ hu (pv 2) (pv 3) aj ⟨rfl,rfl,rfl,rfl⟩) (pv 4)) rfl)))
   (ay (aJ (Gm M FD (hr.mono (by first | decide | omega)) rfl T.RS Fq .nil az (dN (cS (bu ["thing"] ["weights"] [2] rfl (by decide +kernel) (by decide +kernel) (by with_unfolding_all rfl) (by exact ⟨rfl,trivial⟩) (by rfl) rfl (by rfl)) rfl (jj (Bc (tY rfl) (by rfl) T.sorted boot_sorted (dN (pv 2) ah))) (fun _ _ _ _=>(aN (i:=0) (show List.Nodup (["thing","weights"]:List Str) by decide +kernel) rfl (Or.inl rfl) (Or.inr rfl))) (fun _ _ _ _=>(sZ (aK Gp (zI hu (pv 1) (pv 0) (fun _ _=>rfl)) aj (aP _)))) (fun _ _ _ _=>(aQ (dN (pv 0) (dN (zI hu (pv 1) (pv 0) (fun _ _=>rfl)) ah))))) (dN (pv 1) ah))))))),?_⟩
  intro d hd
  have lz:=line ps.length (by omega)
  refine ⟨_,rfl,a,rfl,Sy (hs.same (new hd)) (fun i σ H'=>∃ e t w,σ=[some (.ref a),some (.int n),some (.ref d),t,w]∧H'=upd H d (.dK (enc e))∧Tab (ps.take i) e) ⟨[],none,none,rfl,rfl,Tab.nil⟩ ?_ ?_ ?_⟩
  ·rintro i σ H' ⟨e,t,w,rfl,rfl,tab⟩
   exact Kp.dict
  ·rintro i v pr σ H' hi ⟨a',rfl,ha'⟩ ⟨e,t,w,rfl,rfl,tab⟩
   have he:(enc e).length < sizeLine:=by
    have h1:=tab.len
    rw [List.length_take] at h1
    rw [wB]
    omega
   refine ⟨a',_,rfl,aV.of ha',rfl,_,_,rfl,_,_,rfl,rfl,?_⟩
   refine ⟨_,rfl,d,rfl,.inl ⟨_,.inl af⟩,_,rfl,_,yH.k (k:=Sum.inr pr.1) af,_,rfl,_,_,MZ e pr.1,rfl,_,rfl,_,rfl,d,_,rfl,IE.k (k:=Sum.inr pr.1) af he,?_⟩
   refine ⟨step e pr,_,_,rfl,?_,?_⟩
   ·rw [FL,GL]
    rfl
   ·rw [take_snoc hi]
    exact tab.step pr
  ·rintro σ H' ⟨e,t,w,rfl,rfl,tab⟩
   rw [List.take_length] at tab
   have el:(enc e).length < 64:=by have:=tab.len;rw [wB];omega
   refine ⟨_,rfl,d,_,keys e,rfl,af,BD e,el,fun l ys hl hp hso=>⟨l,rfl,⟨_,ck.of af⟩,?_⟩⟩
   have yl:ys.length≤ps.length:=by
    rw [hp.length_eq]
    unfold keys
    rw [List.length_map]
    exact tab.len
   refine gu (xs:=ys.map V.str) (fun i out H'=>aF (upd (upd H d (.dK (enc e))) l (.lst (ys.map V.str))) H'∧BU H' out (outs e (ys.take i))) ⟨aF.refl _,.nil⟩ (fun i out H' _ q=>ck.of (q.1 _ _ af)) ?_ ?_
   ·rintro i v out H' hi ⟨sm,pr⟩
    obtain ⟨y,hy,rfl⟩:∃ y,ys[i]?=some y∧v=V.str y:=by
     rw [List.getElem?_map] at hi
     cases q:ys[i]? with
     | none=>rw [q] at hi;cases hi
     | some y=>rw [q] at hi;cases hi;exact ⟨y,rfl,rfl⟩
    have hm:y∈keys e:=hp.mem_iff.mp (List.mem_of_getElem? hy)
    have Qj:H' d=some (.dK (enc e)):=sm _ _ (by rw [aX (aB af hl)];exact af)
    have ol:out.length < sizeLine:=by
     rw [oF pr]
     have:=xx e (ys.take i)
     rw [List.length_take] at this
     omega
    refine ⟨Ext.one,_,rfl,_,rfl,d,_,rfl,xB Qj hm,rfl,_,rfl,?_⟩
    dsimp only
    by_cases g0:get e y=0
    ·rw [if_neg (by simp [g0])]
     refine ⟨sm,?_⟩
     rw [take_snoc hy,yO,if_pos g0,List.append_nil]
     exact pr
    ·rw [if_pos (by simp [g0])]
     refine ⟨_,rfl,_,rfl,_,rfl,d,_,rfl,xB Qj hm,(szl 2),fun q hq=>⟨ol,aF.new sm hq,?_⟩⟩
     rw [take_snoc hy,yO,if_neg g0]
     exact wo (pr.keep fun _ _ z=>new hq _ _ z) (tD ⟨q,rfl,af⟩)
   ·rintro out H' ⟨sm,pr⟩ q hq
    rw [List.length_map,List.take_length] at pr
    have s0:aF H H':=fun b o z=>sm b o (aF.new (new hd) hl b o z)
    refine ⟨_,rfl,fun x dx hx hdx ne=>?_⟩
    have h1:aF (upd H' q (.lst out)) (upd (upd (upd H' q (.lst out)) dx (.own x)) x (.ins C dx [])):=fun b o z=>by
     rw [aX (aB z hx),aX (aB z hdx)]
     exact z
    refine ⟨x,dx,q,n,outs e ys,rfl,af,.inl ⟨out,h1 _ _ af,pr.keep fun _ _ z=>h1 _ _ (new hq _ _ z)⟩,?_,fun H2 but S=>⟨rfl,?_⟩⟩
    ·have:=xx e ys
     omega
    ·refine k x (outs e ys) H2 (fun b o z=>but b o (h1 _ _ (aF.new s0 hq b o z)) (aB (aF.new s0 hq b o z) hx)) (tab.gat hp hso) ?_ S
     have:=xx e ys
     omega
abbrev qU:Stmt:=top 31
theorem sR:aO ["_law_cell","_law_k","_law_mix"] ["_law_cell","_law_k"] (ak qU):=⟨rfl,rfl,rfl,by decide +kernel,rfl,by decide +kernel,by decide +kernel⟩
theorem K8 {f:Addr} {fd:FuncData} {Y:Cy} {fS:Addr} {n:Nat} (F:fG K "_law_mixed" "_law_mixed" qU f fd) (T:Txt K mg Y.z.s) (U:fB K mg Y.z) (J:gD K mg Y fS) :bT P w K mg base dX 1 f fd ["_law_cell","_law_k"] wj:=by
 refine F.ok sR (fun vs H Q E h=>?_) (fun cdv A outer s H vs Q E hr h=>?_)
 ·obtain ⟨c,kk,rfl,k⟩:=h
  rfl
 ·obtain ⟨c,kk,rfl,k⟩:=h
  have hu:=bq hr
  rw [show au qU=[_,_] from rfl]
  refine ⟨_,(ai (aR (i:=2) sR.nd rfl (Or.inl rfl) (bX lC (bX rA (bX ju (bX ju (pv 0) (bX rA aj (pv 1))) aj) aj) aj))
   (ay (aJ (bX lC (bX ju (bX rA (pv 2) (pv 2)) (bX rA aj (pv 2))) aj)))),?_⟩
  refine ⟨_,rfl,_,rfl,_,_,rfl,rfl,.inl ⟨by decide,by decide⟩,_,_,rfl,rfl,_,_,rfl,rfl,_,_,rfl,rfl,.inr ⟨by decide,by decide⟩,_,_,rfl,rfl,(by show (0:Int) < 2147483647;decide),?_⟩
  have h0:=Int.emod_nonneg ((c+7919*kk+11)*48271) (show (2147483647:Int)≠0 by decide)
  have h1:=Int.emod_lt_of_pos ((c+7919*kk+11)*48271) (show (0:Int) < 2147483647 by decide)
  generalize (c+7919*kk+11)*48271 % 2147483647=mx at h0 h1
  refine ⟨_,rfl,_,rfl,_,_,rfl,rfl,.inl ⟨by omega,by omega⟩,_,rfl,_,_,rfl,rfl,.inl ⟨by decide,by decide⟩,_,_,rfl,rfl,_,_,rfl,rfl,(by show (0:Int) < 2147483399;decide),?_⟩
  exact k _ (Int.emod_nonneg _ (by decide)) (Int.emod_lt_of_pos _ (by decide))
abbrev oB:Stmt:=top 30
theorem lX:aO ["_law_script","_law_k","_law_cell"] ["_law_script","_law_k"] (ak oB):=⟨rfl,rfl,rfl,by decide +kernel,rfl,by decide +kernel,by decide +kernel⟩
theorem EZ {f:Addr} {fd:FuncData} {Y:Cy} {fS:Addr} {n:Nat} (F:fG K "_law_cell_at" "_law_cell_at" oB f fd) (T:Txt K mg Y.z.s) (U:fB K mg Y.z) (J:gD K mg Y fS) (Au:Dn P w K mg base 1 "_law_mixed" ["_law_cell","_law_k"] wj):bT P w K mg base dX 2 f fd ["_law_script","_law_k"] (o7 K):=by
 obtain ⟨OU,MU,AG,xG,xK,AA⟩:=Au
 refine F.ok lX (fun vs H Q E h=>?_) (fun cdv A outer s H vs Q E hr h=>?_)
 ·obtain ⟨a,ns,kk,rfl,hS,k⟩:=h
  rfl
 ·obtain ⟨a,ns,kk,rfl,hS,k⟩:=h
  have hu:=bq hr
  rw [show au oB=[_,_,_] from rfl]
  refine ⟨_,(ai (aR (i:=2) lX.nd rfl (Or.inl rfl) aj)
   (ai (cO (aK KO (pv 1) (bF bZ (by rfl) T.len PySem.boot_len (aa (pv 0) ah)) (aP _)) (ay (aR (i:=2) lX.nd rfl (Or.inl rfl) (aH cU (pv 0) (pv 1) (fun _ _=>rfl)))) bx)
   (ay (aJ (aq AG (hr.mono (by first | decide | omega)) rfl xG xK AA .nil az (aa (pv 2) (aa (bX ju aj (pv 1)) ah))))))),?_⟩
  refine ⟨_,rfl,_,rfl,a,_,rfl,.inl hS,_,_,rfl,rfl,_,rfl,?_⟩
  refine vX (fun hc=>?_) (fun hc=>?_)
  ·have hc:=of_decide_eq_true hc
   rw [List.length_map] at hc
   have hk:(ns.map V.int)[kk]?=some (V.int (ns[kk]'(by omega))):=by rw [List.getElem?_map,List.getElem?_eq_getElem (by omega)];rfl
   refine ⟨_,rfl,_,rfl,a,_,_,_,rfl,rfl,hS,bN hk,?_⟩
   exact ⟨_,rfl,_,rfl,_,_,rfl,rfl,_,_,rfl,fun r _ _=>k r⟩
  ·exact ⟨_,rfl,_,rfl,_,_,rfl,rfl,_,_,rfl,fun r _ _=>k r⟩
abbrev w5:Stmt:=top 32
theorem A3:aO ["_law_draw","_law_size"] ["_law_draw","_law_size"] (ak w5):=⟨rfl,rfl,rfl,by decide +kernel,rfl,by decide +kernel,by decide +kernel⟩
theorem Om {f:Addr} {fd:FuncData} {Y:Cy} {fS:Addr} {n:Nat} (F:fG K "_law_next" "_law_next" w5 f fd) (T:Txt K mg Y.z.s) (U:fB K mg Y.z) (J:gD K mg Y fS) (Au:Dn P w K mg base 1 "_law_mixed" ["_law_cell","_law_k"] wj):bT P w K mg base dX 2 f fd ["_law_draw","_law_size"] eS:=by
 obtain ⟨OU,MU,AG,xG,xK,AA⟩:=Au
 refine F.ok A3 (fun vs H Q E h=>?_) (fun cdv A outer s H vs Q E hr h=>?_)
 ·obtain ⟨d,n,rfl,hd,hn,k⟩:=h
  rfl
 ·obtain ⟨d,n,rfl,hd,hn,k⟩:=h
  have hu:=bq hr
  rw [show au w5=[_,_] from rfl]
  refine ⟨_,(ai (Og (pv 0) aj MR aj Ms set_list)
   (ay (aJ (bX lC (bX tK (aq AG (hr.mono (by first | decide | omega)) rfl xG xK AA .nil az (aa (aH cU (pv 0) aj (fun _ _=>rfl)) (aa (aH cU (pv 0) aj (fun _ _=>rfl)) ah))) aj) (pv 1))))),?_⟩
  obtain ⟨x,y,hd⟩:=hd
  refine ⟨_,rfl,d,_,1,_,rfl,rfl,ck.of hd,rfl,_,_,rfl,rfl,d,_,_,1,rfl,rfl,hd,rfl,?_⟩
  refine ⟨_,rfl,d,_,_,_,rfl,rfl,ck.of af,rfl,_,rfl,d,_,_,_,rfl,rfl,ck.of af,rfl,_,_,rfl,fun r h0 h1=>?_⟩
  refine ⟨_,_,rfl,rfl,⟨by decide,by decide⟩,_,rfl,_,_,rfl,rfl,hn,?_⟩
  have e0:=Int.emod_nonneg (r / 7) (Int.ne_of_gt hn)
  have e1:=Int.emod_lt_of_pos (r / 7) hn
  have e:=Int.toNat_of_nonneg e0
  rw [← e] at e1
  show Q (V.int (r / 7 % n)) _
  rw [← e]
  exact k _ _ e1 bE.upd ⟨_,_,af⟩
abbrev sX:Stmt:=top 34
theorem vB:aO ["_law_words"] [] (ak sX):=⟨rfl,rfl,rfl,by decide +kernel,rfl,by decide +kernel,by decide +kernel⟩
abbrev eA:Expr:=Te ((au sX).getD 0 (.Pass ⟨0,0,0,0⟩))
abbrev eB:Expr:=Q5 (a1r ((au sX).getD 1 (.Pass ⟨0,0,0,0⟩)))
theorem kA1:Bk eA=some LW:=rfl
theorem kB1:Bk eB=some LV:=rfl
theorem Oq {f:Addr} {fd:FuncData} {Y:Cy} {fS:Addr} {n:Nat} (F:fG K "_law_kept" "_law_kept" sX f fd) (T:Txt K mg Y.z.s) (U:fB K mg Y.z) (J:gD K mg Y fS) :bT P w K mg base dX 1 f fd [] zp:=by
 refine F.ok vB (fun vs H Q E h=>?_) (fun cdv A outer s H vs Q E hr h=>?_)
 ·obtain ⟨rfl,k⟩:=h
  rfl
 ·obtain ⟨rfl,k⟩:=h
  have hu:=bq hr
  have ha:=kA1
  have hb:=kB1
  rw [show au sX=[.Assign [.Name "_law_words" _] eA _,.Return (some (.BinOp (.Name "_law_words" _) .Add eB _)) _] from rfl]
  generalize eA=qa at ha ⊢
  generalize eB=qb at hb ⊢
  refine ⟨_,(ai (aR (i:=0) vB.nd rfl (Or.inl rfl) (zF ha) (FQ ha))
   (ay (aJ (bX xy (pv 0) (zF hb))))),?_⟩
  refine ⟨(szl 13),fun l1 n1=>?_⟩
  refine ⟨_,rfl,(szl 8),fun l2 n2=>?_⟩
  have ne:l1≠l2:=aB af n2
  refine ⟨l1,l2,_,_,rfl,rfl,(by rw [aX ne];exact af),af,(by show 13+8≤sizeLine;exact Nat.le_of_lt (line 21 (by decide))),fun p hp=>?_⟩
  refine k p _ (aF.new (aF.new (new n1) n2) hp) ((aF.new (new n1) n2).free hp) ?_
  rw [af]
  rw [show jc.map V.str=LW.map V.str++LV.map V.str from List.map_append]
abbrev pF:Stmt:=top 33
theorem cM:aO ["_law_draw","_law_many","_law_some","_law_size","_law_place","_law_base","_law_shift","_law_kept_here","_law_alike","_law_names_here","_law_k","_law_word","_law_turn"] ["_law_draw","_law_many"] (ak pF):=⟨rfl,rfl,rfl,by decide +kernel,rfl,by decide +kernel,by decide +kernel⟩
abbrev eH:Expr:=Te ((au pF).getD 5 (.Pass ⟨0,0,0,0⟩))
theorem kH1:Bk eH=some nS:=rfl
theorem K5 {f:Addr} {fd:FuncData} {Y:Cy} {fS:Addr} {n:Nat} (F:fG K "_law_names" "_law_names" pF f fd) (T:Txt K mg Y.z.s) (U:fB K mg Y.z) (J:gD K mg Y fS) (bI:Dn P w K mg base 2 "_law_next" ["_law_draw","_law_size"] eS) (SW:Dn P w K mg base 1 "_law_kept" [] zp):bT P w K mg base dX 3 f fd ["_law_draw","_law_many"] wQ:=by
 obtain ⟨iw,fc,bA,aT,aU,bz⟩:=bI
 obtain ⟨a8O,Y9,Tr,OB,OF,Td⟩:=SW
 refine F.ok cM (fun vs H Q E h=>?_) (fun cdv A outer s H vs Q E hr h=>?_)
 ·obtain ⟨d,m,rfl,hd,hm,k⟩:=h
  rfl
 ·obtain ⟨d,m,rfl,hd,hm,k⟩:=h
  have hu:=bq hr
  have hh:=kH1
  rw [show au pF=[_,_,_,_,_,.Assign [.Name "_law_kept_here" _] eH _,_,_,_,_] from rfl]
  generalize eH=qh at hh ⊢
  refine ⟨_,(ai (aR (i:=2) cM.nd rfl (Or.inr rfl) aY)
   (ai (aR (i:=3) cM.nd rfl (Or.inl rfl) (bX ju aj (aq bA (hr.mono (by first | decide | omega)) rfl aT aU bz .nil az (aa (pv 0) (aa aj ah)))))
   (ai (aR (i:=4) cM.nd rfl (Or.inl rfl) (aq bA (hr.mono (by first | decide | omega)) rfl aT aU bz .nil az (aa (pv 0) (aa (pv 3) ah))))
   (ai (nc (i:=5) cM.nd rfl (Or.inl rfl) (bu ["_law_k"] ["_law_some","_law_draw"] [2,0] rfl (by decide +kernel) (by decide +kernel) (by with_unfolding_all rfl) (by exact ⟨rfl,rfl,trivial⟩) (by rfl) rfl (by rfl)) rfl (gT rfl T.range (aa (pv 3) ah)) (fun _ _ _ _=>(aN (i:=0) (show List.Nodup (["_law_k","_law_some","_law_draw"]:List Str) by decide +kernel) rfl (Or.inl rfl) (Or.inr rfl))) (fun _ _ _ _=>cI) (fun _ _ _ _=>(aH uX (pv 1) (aq bA (hr.mono (by first | decide | omega)) rfl aT aU bz .nil az (aa (pv 2) (aa aj ah))) (fun _ _=>rfl))))
   (ai (aR (i:=6) cM.nd rfl (Or.inl rfl) (aq bA (hr.mono (by first | decide | omega)) rfl aT aU bz .nil az (aa (pv 0) (aa aj ah))))
   (ai (aR (i:=7) cM.nd rfl (Or.inl rfl) (zF hh) (FQ hh))
   (ai (aR (i:=8) cM.nd rfl (Or.inl rfl) (gi di (aq bA (hr.mono (by first | decide | omega)) rfl aT aU bz .nil az (aa (pv 0) (aa aj ah))) aj (aP _)))
   (ai (aR (i:=9) cM.nd rfl (Or.inl rfl) (cZ ah))
   (ai (oE PassesOwn.never rfl (gT rfl T.range (aa (pv 1) ah)) (aN (i:=10) cM.nd rfl (Or.inl rfl)) (ai (xr (aH uX (pv 2) (bX lC (bX ju (pv 6) (bX rA aj (pv 10))) aj) (fun _ _=>rfl)) (Rc (pv 5) (pv 4) set_list))
   (ai (aR (i:=11) cM.nd rfl (Or.inl rfl) (q9 PySem.F.plainAttrs_str PySem.F.slot_str_join PySem.F.type_str_join Oz aY (aa (pv 5) ah)))
   (ai (cO (PW.pt (lA (qZ (pv 8)) (jH (aK KO (pv 10) aj (aP _))))) (ay (aR (i:=11) cM.nd rfl (Or.inl rfl) (aH cU (pv 7) (bX lC (bX ju (pv 10) (pv 6)) aj) (fun _ _=>rfl)))) bx)
   (ai (aR (i:=12) cM.nd rfl (Or.inl rfl) aj)
   (ai (JX PassesOwn.never (PW.pt (oV (aK lT (pv 11) (pv 9) (by rfl)) (mj (aK lT (pv 11) (KL Tr (hr.mono (by first | decide | omega)) rfl OB OF Td .nil az) (by rfl))))) (ai (Ra (i:=12) cM.nd rfl (Or.inl rfl) aj Ms)
   (ay (aR (i:=11) cM.nd rfl (Or.inl rfl) (bX kg (bX kg aY (aH uX (pv 2) (bX lC (pv 12) aj) (fun _ _=>rfl))) (aH uX (pv 2) (bX lC (bX ju (pv 10) (pv 12)) aj) (fun _ _=>rfl)))))))
   (ay (gO (q9 PySem.F.plainAttrs_list PySem.F.slot_list_append PySem.F.type_list_append lU (pv 9) (aa (pv 11) ah))))))))))
   (ay (aJ (pv 9)))))))))))),?_⟩
  refine ⟨_,rfl,d,8,rfl,hd,(by decide),fun r1 H1 h1 b1 d1=>⟨_,_,rfl,rfl,?_⟩⟩
  refine ⟨_,rfl,_,rfl,d,_,rfl,d1,(by omega),fun r2 H2 h2 b2 d2=>?_⟩
  refine ⟨_,rfl,_,rfl,(by omega),(by omega),kC (n:=(1+(r1:Int)).toNat) (fun i ys H'=>bE d H2 H'∧Dr H' d∧∃ ss:List Str,ys=ss.map V.str∧ss.length=i∧∀ x∈ss,Ug x) ⟨fun _ _ e _=>e,d2,[],rfl,rfl,fun _ h=>nomatch h⟩ ?_ ?_⟩
  ·rintro i ys H' hi ⟨b,dr,ss,rfl,hl,hs⟩
   refine ⟨Ext.one,jd ⟨_,rfl,_,rfl,d,26,rfl,dr,(by decide),fun r3 H3 h3 b3 d3=>⟨ya,_,_,rfl,rfl,iO,Nv (by omega),?_,b.trans b3,d3,ss++[BJ (97+r3)],?_,?_,?_⟩⟩⟩
   ·rw [List.length_map,hl]
    exact line _ (by omega)
   ·rw [List.map_append]
    rfl
   ·rw [List.length_append,hl]
    rfl
   ·intro x hx
    rcases List.mem_append.mp hx with h | h
    ·exact hs x h
    ·rw [List.mem_singleton.mp h]
     exact ⟨_,rfl,Nat.le_add_right _ _⟩
  rintro ys H3 ⟨b3,d3,ss,rfl,hl,hs⟩ B hB
  have d4:Dr (upd H3 B (.lst (ss.map V.str))) d:=d3.same (new hB)
  refine ⟨_,rfl,d,26,rfl,d4,(by decide),fun r4 H5 h4 b5 d5=>?_⟩
  refine ⟨(by rw [List.length_map];exact Nat.le_of_lt (line _ (by decide))),fun kl Y3=>?_⟩
  have d6:Dr (upd H5 kl (.lst (nS.map V.str))) d:=d5.same (new Y3)
  refine ⟨_,rfl,d,3,rfl,d6,(by decide),fun r5 H7 h5 b7 d7=>⟨rfl,?_⟩⟩
  generalize decide (V.int (r5:Int)=V.int 1)=al
  refine ⟨(Nat.zero_le _),fun nl hnl=>?_⟩
  have nBd:B≠d:=d3.ne hB
  have nkd:kl≠d:=d5.ne Y3
  have nnd:nl≠d:=d7.ne hnl
  have f3:bE d H H3:=(b1.trans b2).trans b3
  have f7:bE d H H7:=((f3.new hB).trans b5 |>.new Y3).trans b7
  have f8:bE d H (upd H7 nl (.lst [])):=f7.new hnl
  have hB5:H5 B=some (.lst (ss.map V.str)):=b5 _ _ af nBd
  have nBk:B≠kl:=aB hB5 Y3
  have hB7:H7 B=some (.lst (ss.map V.str)):=b7 _ _ (by rw [aX nBk];exact hB5) nBd
  have hk7:H7 kl=some (.lst (nS.map V.str)):=b7 _ _ af nkd
  have UZ:B≠nl:=aB hB7 hnl
  have nkn:kl≠nl:=aB hk7 hnl
  have sz:(1+(r1:Int)).toNat≤8:=by omega
  have pl:r2 < (1+(r1:Int)).toNat:=by omega
  clear hd d1 b1 d2 b2 b3 d3 d4 d6 b5 d5 b7 hB5
  refine ⟨_,rfl,_,rfl,(by omega),(by omega),nV (n:=(m:Int).toNat) (fun i σ H'=>∃ (xs bs:List Str) (kk w t:Option V),σ=[some (.ref d),some (.int m),some (.str ya),some (.int (1+r1)),some (.int r2),some (.ref B),some (.int r4),some (.ref kl),some (.bl al),some (.ref nl),kk,w,t]∧XU B nl (upd H7 nl (.lst [])) H'∧H' B=some (.lst (bs.map V.str))∧bs.length=(1+(r1:Int)).toNat∧(∀ x∈bs,Ug x)∧H' nl=some (.lst (xs.map V.str))∧xs.length=i∧(∀ x∈xs,sr x)∧xs.Nodup)
   ⟨[],ss,none,none,none,rfl,fun _ _ e _ _=>e,(by rw [aX UZ];exact hB7),hl,hs,af,rfl,(fun _ h=>nomatch h),List.nodup_nil⟩ ?_ ?_⟩
  ·rintro i σ H' hi ⟨xs,bs,kk,w,t,rfl,bt,eB,lB,sB,eN,lN,sN,Uk⟩
   have im:i < 12:=by omega
   refine ⟨_,rfl,_,rfl,_,rfl,_,_,rfl,rfl,.inl ⟨by decide,by decide⟩,_,_,rfl,rfl,_,_,rfl,rfl,(by show (0:Int) < 26;decide),ya,_,_,rfl,rfl,iO,jb _,_,rfl,_,rfl,B,_,_,r2,rfl,rfl,eB,OI (by rw [List.length_map,lB];exact pl),?_⟩
   have h97:97≤(97+(((r4:Int)+5*(0+(i:Int))) % 26).toNat):=Nat.le_add_right _ _
   generalize (97+(((r4:Int)+5*(0+(i:Int))) % 26).toNat)=c at h97 ⊢
   have T9:upd H' B (.lst ((bs.map V.str).set r2 (V.str ⟨#[c]⟩))) B=some (.lst ((bs.set r2 (BJ c)).map V.str)):=by rw [af,List.map_set]
   have SK:upd H' B (.lst ((bs.map V.str).set r2 (V.str ⟨#[c]⟩))) nl=some (.lst (xs.map V.str)):=by rw [aX UZ.symm];exact eN
   have U8:(bs.set r2 (BJ c)).length=(1+(r1:Int)).toNat:=by rw [List.length_set];exact lB
   have sB':∀ x∈bs.set r2 (BJ c),Ug x:=fun x hx=>by
    rcases List.mem_or_eq_of_mem_set hx with h | h
    ·exact sB x h
    ·rw [h]
     exact ⟨c,rfl,h97⟩
   have Xm:XU B nl (upd H7 nl (.lst [])) (upd H' B (.lst ((bs.map V.str).set r2 (V.str ⟨#[c]⟩)))):=fun b o e n1 n2=>by
    rw [aX n1]
    exact bt b o e n1 n2
   have hk':upd H' B (.lst ((bs.map V.str).set r2 (V.str ⟨#[c]⟩))) kl=some (.lst (nS.map V.str)):=Xm _ _ (by rw [aX nkn];exact hk7) nBk.symm nkn
   generalize bs.set r2 (BJ c)=cs at T9 U8 sB'
   refine ⟨rfl,_,rfl,_,B,cs,rfl,rfl,T9,?_,?_⟩
   ·rw [AU cs (fun x hx=>(sB' x hx).len),U8]
    show _+_*0≤_
    omega
   generalize upd H' B (.lst ((bs.map V.str).set r2 (V.str ⟨#[c]⟩)))=Hb at T9 SK Xm hk'
   have hw0:sr (Txt.join (Str.ofString "") cs):=Ox sB' (by omega) (by omega)
   generalize Txt.join (Str.ofString "") cs=w0 at hw0
   obtain ⟨kx,NS,kat⟩:=HU (0+(i:Int)+r4)
   refine ⟨_,rfl,_,rfl,?_⟩
   cases al
   ·refine ia (ia ?_)
    refine wJ (fun σ H2=>∃ (t:Nat) (wd:Str),σ=[some (.ref d),some (.int m),some (.str ya),some (.int (1+r1)),some (.int r2),some (.ref B),some (.int r4),some (.ref kl),some (.bl false),some (.ref nl), some (.int (0+(i:Int))),some (.str wd),some (.int (t:Int))]∧sr wd∧(1≤t→wd=zt (0+(i:Int)) t)∧(∀ s,s+1 < t→zt (0+(i:Int)) (s+1)∈xs)∧t≤14∧aF Hb H2) RQ ⟨0,_,rfl,(by first | exact hw0 | exact xN NS),fun h=>absurd h (by decide),fun s h=>absurd h (by omega),by decide,aF.refl _⟩ ?_ (zZ (qy (jJ _) (jJ _)) (qy (jJ _) uT))
    rintro σ H2 ⟨t,wd,rfl,hw,e1,e2,e3,sm⟩
    have turn:∀ H3,aF H2 H3→(wd∈xs∨wd∈jc)→t+1≤14∧∀ s,s+1 < t+1→zt (0+(i:Int)) (s+1)∈xs:=fun H3 s3 hc=>by
     have q:∀ s,s < t→zt (0+(i:Int)) (s+1)∈xs:=fun s hs=>by
      by_cases hs':s+1 < t
      ·exact e2 s hs'
      ·have e:t=s+1:=by omega
       have e':=e1 (by omega)
       rw [e] at e'
       rw [← e']
       rcases hc with h | h
       ·exact h
       ·exact absurd (e' ▸ h) (qN _ _)
     have:=Cp (by omega) q
     exact ⟨by omega,fun s hs=>q s (by omega)⟩
    have i1:(if false=true then !tQ (.str wd) (xs.map V.str) else tQ (.str wd) (xs.map V.str))=decide (wd∈xs):=jM wd xs
    have i2:(if false=true then !tQ (.str wd) (jc.map V.str) else tQ (.str wd) (jc.map V.str))=decide (wd∈jc):=jM wd jc
    refine ⟨_,rfl,_,rfl,nl,_,rfl,.inl (ck.of (sm _ _ SK)),rfl,i0 _,decide (wd∈xs),congrArg V.bl i1,?_⟩
    refine vX (fun hc=>?_) (fun hc=>?_)
    ·obtain ⟨t1,t2⟩:=turn H2 (aF.refl _) (.inl (of_decide_eq_true hc))
     refine uY ?_
     refine ⟨_,rfl,_,_,rfl,rfl,?_⟩
     refine ⟨_,rfl,_,rfl,_,_,rfl,rfl,(by show (0:Int) < 26;decide),ya,_,_,rfl,rfl,iO,jb _,_,_,rfl,rfl,(by show 1+1≤sizeLine;exact Nat.le_of_lt (line 2 (by decide))),?_⟩
     refine ⟨_,rfl,_,rfl,_,rfl,_,_,rfl,rfl,_,_,rfl,rfl,(by show (0:Int) < 26;decide),ya,_,_,rfl,rfl,iO,jb _,_,_,rfl,rfl,(by rw [lP];show 1+1+1≤sizeLine;exact Nat.le_of_lt (line 3 (by decide))),?_⟩
     refine ⟨⟨t+1,zt (0+(i:Int)) (t+1),rfl,yI _ _,fun _=>rfl,t2,t1,sm.trans (aF.refl _)⟩,?_⟩
     show 20 - (((t:Int)+1).toNat) < 20 - ((t:Int)).toNat
     omega
    refine ⟨_,rfl,rfl,fun l H3 s3 n3 OY=>⟨l,_,rfl,.inl (ck.of OY),rfl,i0 _,decide (wd∈jc),congrArg V.bl i2,?_⟩⟩
    refine vX (fun hc2=>?_) (fun hc2=>?_)
    ·obtain ⟨t1,t2⟩:=turn H3 s3 (.inr (of_decide_eq_true hc2))
     refine ⟨_,rfl,_,_,rfl,rfl,?_⟩
     refine ⟨_,rfl,_,rfl,_,_,rfl,rfl,(by show (0:Int) < 26;decide),ya,_,_,rfl,rfl,iO,jb _,_,_,rfl,rfl,(by show 1+1≤sizeLine;exact Nat.le_of_lt (line 2 (by decide))),?_⟩
     refine ⟨_,rfl,_,rfl,_,rfl,_,_,rfl,rfl,_,_,rfl,rfl,(by show (0:Int) < 26;decide),ya,_,_,rfl,rfl,iO,jb _,_,_,rfl,rfl,(by rw [lP];show 1+1+1≤sizeLine;exact Nat.le_of_lt (line 3 (by decide))),?_⟩
     refine ⟨⟨t+1,zt (0+(i:Int)) (t+1),rfl,yI _ _,fun _=>rfl,t2,t1,sm.trans (s3)⟩,?_⟩
     show 20 - (((t:Int)+1).toNat) < 20 - ((t:Int)).toNat
     omega
    have Qm:H3 nl=some (.lst (xs.map V.str)):=s3 _ _ (sm _ _ SK)
    refine ⟨_,rfl,.inl ⟨rfl,_,ck.of Qm⟩,_,rfl,nl,_,_,rfl,rfl,Qm,(by rw [List.length_map,lN];exact line _ (by omega)),?_⟩
    refine ⟨xs++[wd],cs,_,_,_,rfl,fun b o e n1 n2=>by rw [aX n2];exact s3 _ _ (sm _ _ (Xm b o e n1 n2)),(by rw [aX UZ];exact s3 _ _ (sm _ _ T9)),U8,sB',(by rw [af,List.map_append];rfl),(by rw [List.length_append,lN];rfl),fun x hx=>?_,rB Uk (fun h=>hc (decide_eq_true h))⟩
    rcases List.mem_append.mp hx with h | h
    ·exact sN x h
    ·rw [List.mem_singleton.mp h]
     exact hw
   ·refine uY ⟨_,rfl,_,_,rfl,rfl,_,rfl,vX (fun hk=>?_) fun hk=>?_⟩
    ·refine ⟨_,rfl,_,rfl,_,rfl,_,_,rfl,rfl,_,_,rfl,rfl,(by show (0:Int) < 12;decide),kl,_,_,_,rfl,rfl,ck.of hk',kat,?_⟩
     refine wJ (fun σ H2=>∃ (t:Nat) (wd:Str),σ=[some (.ref d),some (.int m),some (.str ya),some (.int (1+r1)),some (.int r2),some (.ref B),some (.int r4),some (.ref kl),some (.bl true),some (.ref nl), some (.int (0+(i:Int))),some (.str wd),some (.int (t:Int))]∧sr wd∧(1≤t→wd=zt (0+(i:Int)) t)∧(∀ s,s+1 < t→zt (0+(i:Int)) (s+1)∈xs)∧t≤14∧aF Hb H2) RQ ⟨0,_,rfl,(by first | exact hw0 | exact xN NS),fun h=>absurd h (by decide),fun s h=>absurd h (by omega),by decide,aF.refl _⟩ ?_ (zZ (qy (jJ _) (jJ _)) (qy (jJ _) uT))
     rintro σ H2 ⟨t,wd,rfl,hw,e1,e2,e3,sm⟩
     have turn:∀ H3,aF H2 H3→(wd∈xs∨wd∈jc)→t+1≤14∧∀ s,s+1 < t+1→zt (0+(i:Int)) (s+1)∈xs:=fun H3 s3 hc=>by
      have q:∀ s,s < t→zt (0+(i:Int)) (s+1)∈xs:=fun s hs=>by
       by_cases hs':s+1 < t
       ·exact e2 s hs'
       ·have e:t=s+1:=by omega
        have e':=e1 (by omega)
        rw [e] at e'
        rw [← e']
        rcases hc with h | h
        ·exact h
        ·exact absurd (e' ▸ h) (qN _ _)
      have:=Cp (by omega) q
      exact ⟨by omega,fun s hs=>q s (by omega)⟩
     have i1:(if false=true then !tQ (.str wd) (xs.map V.str) else tQ (.str wd) (xs.map V.str))=decide (wd∈xs):=jM wd xs
     have i2:(if false=true then !tQ (.str wd) (jc.map V.str) else tQ (.str wd) (jc.map V.str))=decide (wd∈jc):=jM wd jc
     refine ⟨_,rfl,_,rfl,nl,_,rfl,.inl (ck.of (sm _ _ SK)),rfl,i0 _,decide (wd∈xs),congrArg V.bl i1,?_⟩
     refine vX (fun hc=>?_) (fun hc=>?_)
     ·obtain ⟨t1,t2⟩:=turn H2 (aF.refl _) (.inl (of_decide_eq_true hc))
      refine uY ?_
      refine ⟨_,rfl,_,_,rfl,rfl,?_⟩
      refine ⟨_,rfl,_,rfl,_,_,rfl,rfl,(by show (0:Int) < 26;decide),ya,_,_,rfl,rfl,iO,jb _,_,_,rfl,rfl,(by show 1+1≤sizeLine;exact Nat.le_of_lt (line 2 (by decide))),?_⟩
      refine ⟨_,rfl,_,rfl,_,rfl,_,_,rfl,rfl,_,_,rfl,rfl,(by show (0:Int) < 26;decide),ya,_,_,rfl,rfl,iO,jb _,_,_,rfl,rfl,(by rw [lP];show 1+1+1≤sizeLine;exact Nat.le_of_lt (line 3 (by decide))),?_⟩
      refine ⟨⟨t+1,zt (0+(i:Int)) (t+1),rfl,yI _ _,fun _=>rfl,t2,t1,sm.trans (aF.refl _)⟩,?_⟩
      show 20 - (((t:Int)+1).toNat) < 20 - ((t:Int)).toNat
      omega
     refine ⟨_,rfl,rfl,fun l H3 s3 n3 OY=>⟨l,_,rfl,.inl (ck.of OY),rfl,i0 _,decide (wd∈jc),congrArg V.bl i2,?_⟩⟩
     refine vX (fun hc2=>?_) (fun hc2=>?_)
     ·obtain ⟨t1,t2⟩:=turn H3 s3 (.inr (of_decide_eq_true hc2))
      refine ⟨_,rfl,_,_,rfl,rfl,?_⟩
      refine ⟨_,rfl,_,rfl,_,_,rfl,rfl,(by show (0:Int) < 26;decide),ya,_,_,rfl,rfl,iO,jb _,_,_,rfl,rfl,(by show 1+1≤sizeLine;exact Nat.le_of_lt (line 2 (by decide))),?_⟩
      refine ⟨_,rfl,_,rfl,_,rfl,_,_,rfl,rfl,_,_,rfl,rfl,(by show (0:Int) < 26;decide),ya,_,_,rfl,rfl,iO,jb _,_,_,rfl,rfl,(by rw [lP];show 1+1+1≤sizeLine;exact Nat.le_of_lt (line 3 (by decide))),?_⟩
      refine ⟨⟨t+1,zt (0+(i:Int)) (t+1),rfl,yI _ _,fun _=>rfl,t2,t1,sm.trans (s3)⟩,?_⟩
      show 20 - (((t:Int)+1).toNat) < 20 - ((t:Int)).toNat
      omega
     have Qm:H3 nl=some (.lst (xs.map V.str)):=s3 _ _ (sm _ _ SK)
     refine ⟨_,rfl,.inl ⟨rfl,_,ck.of Qm⟩,_,rfl,nl,_,_,rfl,rfl,Qm,(by rw [List.length_map,lN];exact line _ (by omega)),?_⟩
     refine ⟨xs++[wd],cs,_,_,_,rfl,fun b o e n1 n2=>by rw [aX n2];exact s3 _ _ (sm _ _ (Xm b o e n1 n2)),(by rw [aX UZ];exact s3 _ _ (sm _ _ T9)),U8,sB',(by rw [af,List.map_append];rfl),(by rw [List.length_append,lN];rfl),fun x hx=>?_,rB Uk (fun h=>hc (decide_eq_true h))⟩
     rcases List.mem_append.mp hx with h | h
     ·exact sN x h
     ·rw [List.mem_singleton.mp h]
      exact hw
    ·refine wJ (fun σ H2=>∃ (t:Nat) (wd:Str),σ=[some (.ref d),some (.int m),some (.str ya),some (.int (1+r1)),some (.int r2),some (.ref B),some (.int r4),some (.ref kl),some (.bl true),some (.ref nl), some (.int (0+(i:Int))),some (.str wd),some (.int (t:Int))]∧sr wd∧(1≤t→wd=zt (0+(i:Int)) t)∧(∀ s,s+1 < t→zt (0+(i:Int)) (s+1)∈xs)∧t≤14∧aF Hb H2) RQ ⟨0,_,rfl,(by first | exact hw0 | exact xN NS),fun h=>absurd h (by decide),fun s h=>absurd h (by omega),by decide,aF.refl _⟩ ?_ (zZ (qy (jJ _) (jJ _)) (qy (jJ _) uT))
     rintro σ H2 ⟨t,wd,rfl,hw,e1,e2,e3,sm⟩
     have turn:∀ H3,aF H2 H3→(wd∈xs∨wd∈jc)→t+1≤14∧∀ s,s+1 < t+1→zt (0+(i:Int)) (s+1)∈xs:=fun H3 s3 hc=>by
      have q:∀ s,s < t→zt (0+(i:Int)) (s+1)∈xs:=fun s hs=>by
       by_cases hs':s+1 < t
       ·exact e2 s hs'
       ·have e:t=s+1:=by omega
        have e':=e1 (by omega)
        rw [e] at e'
        rw [← e']
        rcases hc with h | h
        ·exact h
        ·exact absurd (e' ▸ h) (qN _ _)
      have:=Cp (by omega) q
      exact ⟨by omega,fun s hs=>q s (by omega)⟩
     have i1:(if false=true then !tQ (.str wd) (xs.map V.str) else tQ (.str wd) (xs.map V.str))=decide (wd∈xs):=jM wd xs
     have i2:(if false=true then !tQ (.str wd) (jc.map V.str) else tQ (.str wd) (jc.map V.str))=decide (wd∈jc):=jM wd jc
     refine ⟨_,rfl,_,rfl,nl,_,rfl,.inl (ck.of (sm _ _ SK)),rfl,i0 _,decide (wd∈xs),congrArg V.bl i1,?_⟩
     refine vX (fun hc=>?_) (fun hc=>?_)
     ·obtain ⟨t1,t2⟩:=turn H2 (aF.refl _) (.inl (of_decide_eq_true hc))
      refine uY ?_
      refine ⟨_,rfl,_,_,rfl,rfl,?_⟩
      refine ⟨_,rfl,_,rfl,_,_,rfl,rfl,(by show (0:Int) < 26;decide),ya,_,_,rfl,rfl,iO,jb _,_,_,rfl,rfl,(by show 1+1≤sizeLine;exact Nat.le_of_lt (line 2 (by decide))),?_⟩
      refine ⟨_,rfl,_,rfl,_,rfl,_,_,rfl,rfl,_,_,rfl,rfl,(by show (0:Int) < 26;decide),ya,_,_,rfl,rfl,iO,jb _,_,_,rfl,rfl,(by rw [lP];show 1+1+1≤sizeLine;exact Nat.le_of_lt (line 3 (by decide))),?_⟩
      refine ⟨⟨t+1,zt (0+(i:Int)) (t+1),rfl,yI _ _,fun _=>rfl,t2,t1,sm.trans (aF.refl _)⟩,?_⟩
      show 20 - (((t:Int)+1).toNat) < 20 - ((t:Int)).toNat
      omega
     refine ⟨_,rfl,rfl,fun l H3 s3 n3 OY=>⟨l,_,rfl,.inl (ck.of OY),rfl,i0 _,decide (wd∈jc),congrArg V.bl i2,?_⟩⟩
     refine vX (fun hc2=>?_) (fun hc2=>?_)
     ·obtain ⟨t1,t2⟩:=turn H3 s3 (.inr (of_decide_eq_true hc2))
      refine ⟨_,rfl,_,_,rfl,rfl,?_⟩
      refine ⟨_,rfl,_,rfl,_,_,rfl,rfl,(by show (0:Int) < 26;decide),ya,_,_,rfl,rfl,iO,jb _,_,_,rfl,rfl,(by show 1+1≤sizeLine;exact Nat.le_of_lt (line 2 (by decide))),?_⟩
      refine ⟨_,rfl,_,rfl,_,rfl,_,_,rfl,rfl,_,_,rfl,rfl,(by show (0:Int) < 26;decide),ya,_,_,rfl,rfl,iO,jb _,_,_,rfl,rfl,(by rw [lP];show 1+1+1≤sizeLine;exact Nat.le_of_lt (line 3 (by decide))),?_⟩
      refine ⟨⟨t+1,zt (0+(i:Int)) (t+1),rfl,yI _ _,fun _=>rfl,t2,t1,sm.trans (s3)⟩,?_⟩
      show 20 - (((t:Int)+1).toNat) < 20 - ((t:Int)).toNat
      omega
     have Qm:H3 nl=some (.lst (xs.map V.str)):=s3 _ _ (sm _ _ SK)
     refine ⟨_,rfl,.inl ⟨rfl,_,ck.of Qm⟩,_,rfl,nl,_,_,rfl,rfl,Qm,(by rw [List.length_map,lN];exact line _ (by omega)),?_⟩
     refine ⟨xs++[wd],cs,_,_,_,rfl,fun b o e n1 n2=>by rw [aX n2];exact s3 _ _ (sm _ _ (Xm b o e n1 n2)),(by rw [aX UZ];exact s3 _ _ (sm _ _ T9)),U8,sB',(by rw [af,List.map_append];rfl),(by rw [List.length_append,lN];rfl),fun x hx=>?_,rB Uk (fun h=>hc (decide_eq_true h))⟩
     rcases List.mem_append.mp hx with h | h
     ·exact sN x h
     ·rw [List.mem_singleton.mp h]
      exact hw
  ·rintro σ H' ⟨xs,bs,kk,w,t,rfl,bt,eB,lB,sB,eN,lN,sN,Uk⟩
   obtain ⟨x7,y7,e7⟩:=d7
   refine ⟨_,rfl,k nl xs H' (fun b o e n=>bt b o (f8 b o e n) (aB (f3 b o e n) hB) (aB (f7 b o e n) hnl)) ⟨x7,y7,bt d _ (by rw [aX nnd.symm];exact e7) nBd.symm nnd.symm⟩ (f7.free hnl nnd) eN (by rw [lN];rfl) sN Uk⟩
abbrev w6:Stmt:=top 35
theorem oj:aO ["_law_draw","_law_things","_law_found","_law_k","_law_number"] ["_law_draw","_law_things"] (ak w6):=⟨rfl,rfl,rfl,by decide +kernel,rfl,by decide +kernel,by decide +kernel⟩
theorem Oo {f:Addr} {fd:FuncData} {Y:Cy} {fS:Addr} {n:Nat} (F:fG K "_law_sum" "_law_sum" w6 f fd) (T:Txt K mg Y.z.s) (U:fB K mg Y.z) (J:gD K mg Y fS) (bI:Dn P w K mg base 2 "_law_next" ["_law_draw","_law_size"] eS):bT P w K mg base dX 3 f fd ["_law_draw","_law_things"] iJ:=by
 obtain ⟨iw,fc,bA,aT,aU,bz⟩:=bI
 refine F.ok oj (fun vs H Q E h=>?_) (fun cdv A outer s H vs Q E hr h=>?_)
 ·obtain ⟨d,l,xs,rfl,hd,hl,hx,NT,k⟩:=h
  rfl
 ·obtain ⟨d,l,xs,rfl,hd,hl,hx,NT,k⟩:=h
  have hu:=bq hr
  rw [show au w6=[_,_,_,_] from rfl]
  refine ⟨_,(ai (aR (i:=2) oj.nd rfl (Or.inr rfl) Bb)
   (ai (oE PassesOwn.never rfl (gT rfl T.range (aa (bX rA (aH cU (cZ (aa aj (aa aj (aa aj (aa aj (aa aj (aa aj (aa aj ah)))))))) (aq bA (hr.mono (by first | decide | omega)) rfl aT aU bz .nil az (aa (pv 0) (aa aj ah))) (fun _ _=>rfl)) (aS vg (by rfl) T.int boot_int (aa (gi (nR (uN hr)) (pv 1) (cZ ah) (aP _)) ah))) ah)) (aN (i:=3) oj.nd rfl (Or.inl rfl)) (ay (Gk hu (pv 2) (aH cU (pv 1) (aq bA (hr.mono (by first | decide | omega)) rfl aT aU bz .nil az (aa (pv 0) (aa (bF bZ (by rfl) T.len PySem.boot_len (aa (pv 1) ah)) ah))) (fun _ _=>rfl)) (aH cU (cZ (aa aj (aa aj (aa aj (aa (yN uv aj) (aa (yN uv aj) (aa aj (aa (yN uv aj) (aa aj ah))))))))) (aq bA (hr.mono (by first | decide | omega)) rfl aT aU bz .nil az (aa (pv 0) (aa aj ah))) (fun _ _=>rfl)) rfl)))
   (ai (aR (i:=4) oj.nd rfl (Or.inl rfl) (aH cU (cZ (aa aj (aa aj (aa aj (aa (yN uv aj) (aa (bX rm (aq bA (hr.mono (by first | decide | omega)) rfl aT aU bz .nil az (aa (pv 0) (aa aj ah))) aj) (aa (aq bA (hr.mono (by first | decide | omega)) rfl aT aU bz .nil az (aa (pv 0) (aa aj ah))) ah))))))) (bX lC (aq bA (hr.mono (by first | decide | omega)) rfl aT aU bz .nil az (aa (pv 0) (aa aj ah))) aj) (fun _ _=>rfl)))
   (ay (aJ (aQ (aa (aS aI (by rfl) T.tuple boot_tuple (aa (cS (bu ["_law_thing"] ["_law_found"] [2] rfl (by decide +kernel) (by decide +kernel) (by with_unfolding_all rfl) (by exact ⟨rfl,trivial⟩) (by rfl) rfl (by rfl)) rfl (jj (bF (tY rfl) (by rfl) T.sorted boot_sorted (aa (pv 2) ah))) (fun _ _ _ _=>(aN (i:=0) (show List.Nodup (["_law_thing","_law_found"]:List Str) by decide +kernel) rfl (Or.inl rfl) (Or.inr rfl))) (fun _ _ _ _=>cI) (fun _ _ _ _=>(aQ (aa (pv 0) (aa (zI hu (pv 1) (pv 0) (fun _ _=>rfl)) ah))))) ah)) (aa (pv 4) ah)))))))),?_⟩
  have two:2≤sizeLine:=Nat.le_of_lt (line 2 (by decide))
  have Lq:l≠d:=by
   obtain ⟨x,y,ed⟩:=hd
   refine yU hl ed fun z=>?_
   cases xs with
   | nil=>cases z
   | cons a b=>cases z
  intro fd hfd
  have RP:fd≠d:=hd.ne hfd
  have d1:Dr (upd H fd (.dK [])) d:=hd.same (new hfd)
  refine ⟨(szl 7),fun q0 Fe=>?_⟩
  have UR:q0≠d:=d1.ne Fe
  refine ⟨_,rfl,d,7,rfl,d1.same (new Fe),(by decide),fun r0 H1 h0 b1 d2=>?_⟩
  obtain ⟨w0,hw0,w1,w2⟩:=Q3 (r:=r0) (by omega)
  refine ⟨q0,_,_,_,rfl,rfl,ck.of (b1 _ _ af UR),bN hw0,?_⟩
  have NY:H1 l=some (.lst (xs.map V.str)):=b1 _ _ (new Fe _ _ (new hfd _ _ hl)) Lq
  have ef1:H1 fd=some (.dK (enc [])):=b1 _ _ (new Fe _ _ af) RP
  have F1:bE d H H1:=(((bE.of (new hfd)).new Fe).trans b1)
  refine ⟨_,rfl,(Nat.zero_le _),fun e0 Vo=>?_⟩
  refine ⟨l,e0,_,rfl,rfl,ck.of (new Vo _ _ NY),ck.of af,?_⟩
  generalize hb:(!decide (xs.map V.str=[]))=bb
  refine .inr ⟨bb,rfl,_,_,rfl,rfl,.inl ⟨by omega,by omega⟩,?_⟩
  obtain ⟨w9,e01,w9a,w9b,w9c⟩:∃ w9:Int,w0*(if bb=true then 1 else 0)=w9∧0≤w9∧w9≤3∧(0 < w9→1≤xs.length):=by
   cases bb
   ·exact ⟨0,by simp,by decide,by decide,fun h=>absurd h (by decide)⟩
   ·refine ⟨w0,by simp,by omega,by omega,fun _=>?_⟩
    cases xs with
    | nil=>cases hb
    | cons a b=>show 1≤b.length+1;omega
  refine ⟨w9,congrArg (fun z=>[V.int z]) e01,by omega,by omega,nV (n:=w9.toNat) (fun i σ H'=>∃ (e:Ps) (k:Option V),σ=[some (.ref d),some (.ref l),some (.ref fd),k,none]∧bE d H H'∧Dr H' d∧H' l=some (.lst (xs.map V.str))∧H' fd=some (.dK (enc e))∧e.length≤i∧Tb e∧∀ p∈e,p.1∈xs) ⟨[],none,rfl,F1.new Vo,d2.same (new Vo),new Vo _ _ NY,new Vo _ _ ef1,Nat.le_refl _,Tb.nil,fun _ h=>nomatch h⟩ ?_ ?_⟩
  ·rintro i σ H3 hi ⟨e,k3,rfl,F,D,en,ef,el,tb,em⟩
   have lz:(xs.map V.str).length=xs.length:=List.length_map ..
   have Vl:1≤xs.length:=w9c (by omega)
   refine ⟨_,rfl,_,rfl,_,rfl,(szl 8),fun q2 hq2=>?_⟩
   have HE:q2≠d:=D.ne hq2
   refine ⟨_,rfl,d,8,rfl,D.same (new hq2),(by decide),fun r2 H5 h2 b5 d5=>?_⟩
   obtain ⟨w,hw,w0',ws⟩:=SI (r:=r2) (by omega)
   refine ⟨q2,_,_,_,rfl,rfl,ck.of (b5 _ _ af HE),bN hw,?_⟩
   have el5:H5 l=some (.lst (xs.map V.str)):=b5 _ _ (new hq2 _ _ en) Lq
   have ef5:H5 fd=some (.dK (enc e)):=b5 _ _ (new hq2 _ _ ef) RP
   refine ⟨_,rfl,_,rfl,_,rfl,_,rfl,l,_,rfl,.inl (ck.of el5),d,_,rfl,d5,(by rw [lz];omega),fun r3 H6 h3 b6 d6=>?_⟩
   have hr3:r3 < xs.length:=by omega
   have el6:H6 l=some (.lst (xs.map V.str)):=b6 _ _ el5 Lq
   have ef6:H6 fd=some (.dK (enc e)):=b6 _ _ ef5 RP
   have hmx:xs[r3]∈xs:=List.getElem_mem hr3
   refine ⟨l,_,_,_,rfl,rfl,ck.of el6,bN (jE hr3),fd,_,rfl,IE.k (k:=Sum.inr xs[r3]) ef6 (by rw [wB];exact line _ (by omega)),?_⟩
   have F6:bE d H H6:=((F.new hq2).trans b5).trans b6
   have hlx:xs[r3].length≤100:=NT _ hmx
   refine ⟨put e xs[r3] w,_,rfl,fun b o z n=>?_,?_,?_,?_,?_,tb.put w0' ws hlx,fun p hp=>(Gj hp).elim (em p) fun z=>z ▸ hmx⟩
   ·rw [aX (aB z hfd)]
    exact F6 b o z n
   ·obtain ⟨x5,y5,e5⟩:=d6
    exact ⟨x5,y5,by rw [aX RP.symm];exact e5⟩
   ·rw [aX (yU el6 ef6 (by intro w;cases w))]
    exact el6
   ·rw [af]
    exact congrArg (fun z=>some (HO.dK z)) (GL e _ _)
   ·have:=Gv e xs[r3] w
    omega
  rintro σ H3 ⟨e,k3,rfl,F,D,en,ef,el,tb,em⟩
  have V0:e.length≤3:=by omega
  refine ⟨_,rfl,_,rfl,d,19,rfl,D,(by decide),fun r4 H4 h4 b4 d4=>⟨_,_,rfl,rfl,?_⟩⟩
  refine ⟨_,rfl,d,999999999,rfl,d4,(by decide),fun r5 H5 h5 b5 d5=>⟨(szl 6),fun q hq=>?_⟩⟩
  have nq:q≠d:=d5.ne hq
  refine ⟨_,rfl,d,12,rfl,d5.same (new hq),(by decide),fun r6 H6 h6 b6 d6=>⟨_,_,rfl,rfl,(by show (0:Int) < 6;decide),?_⟩⟩
  obtain ⟨z,hz,zs⟩:=a1m (a:=(r4:Int) - 9) (b:=(r5:Int)) ⟨by omega,by omega⟩ ⟨by omega,by omega⟩ (r6:Int)
  refine ⟨q,_,_,_,rfl,rfl,ck.of (b6 _ _ af nq),hz,?_⟩
  have ef4:H6 fd=some (.dK (enc e)):=b6 _ _ (new hq _ _ (b5 _ _ (b4 _ _ ef RP) RP)) RP
  have F4:bE d H H6:=(((F.trans b4).trans b5).new hq).trans b6
  refine ⟨_,rfl,fd,_,keys e,rfl,ef4,BD e,(by rw [wB];omega),fun ll ys YZ hp hso=>⟨ll,rfl,⟨_,ck.of af⟩,?_⟩⟩
  have yl:ys.length≤3:=by
   rw [hp.length_eq]
   unfold keys
   rw [List.length_map]
   exact V0
  refine gu (xs:=ys.map V.str) (fun i out H'=>aF (upd H6 ll (.lst (ys.map V.str))) H'∧BU H' out ((ys.take i).map fun t=>(t,get e t))) ⟨aF.refl _,.nil⟩ (fun i out H' _ q=>ck.of (q.1 _ _ af)) ?_ ?_
  ·rintro i v out H' hi ⟨sm,pr⟩
   obtain ⟨y,hy,rfl⟩:∃ y,ys[i]?=some y∧v=V.str y:=by
    rw [List.getElem?_map] at hi
    cases q:ys[i]? with
    | none=>rw [q] at hi;cases hi
    | some y=>rw [q] at hi;cases hi;exact ⟨y,rfl,rfl⟩
   have hil:i < ys.length:=(List.getElem?_eq_some_iff.mp hy).1
   have hm:y∈keys e:=hp.mem_iff.mp (List.mem_of_getElem? hy)
   have Qj:H' fd=some (.dK (enc e)):=sm _ _ (new YZ _ _ ef4)
   refine ⟨Ext.one,jd ⟨_,rfl,_,rfl,_,rfl,fd,_,rfl,xB Qj hm,two,fun q hq=>⟨?_,aF.new sm hq,?_⟩⟩⟩
   ·rw [oF pr,List.length_map,List.length_take]
    exact line _ (by omega)
   ·rw [take_snoc hy,List.map_append]
    exact wo (pr.keep fun _ _ z=>new hq _ _ z) (tD ⟨q,rfl,af⟩)
  rintro out H' ⟨sm,pr⟩ q' hq'
  rw [List.length_map,List.take_length] at pr
  refine ⟨q',_,rfl,.inl ⟨ck.of af,fun t ht=>?_⟩⟩
  refine ⟨_,rfl,two,fun r hr'=>?_⟩
  have s0:aF H6 H':=fun b o z=>sm b o (new YZ b o z)
  have s1:=aF.new (o:=.lst out) s0 hq'
  have s2:=aF.new (o:=.tup out) s1 ht
  have s3:=aF.new (o:=.tup [.ref t,.int z]) s2 hr'
  have sh:=tb.short hp (by omega)
  refine k r (ys.map fun t=>(t,get e t)) z _ (F4.trans (bE.of s3)) (d6.same s3) ⟨t,af,out,?_,pr.keep fun _ _ z=>new hr' _ _ (new ht _ _ (new hq' _ _ z))⟩ (tb.canon hp hso) ⟨by rw [List.length_map];exact yl,fun p hp'=>(sh.2 p hp').1⟩ (fun p hp'=>?_) zs
  ·rw [aX (aB af hr')]
   exact af
  ·obtain ⟨y,hy,rfl⟩:=List.mem_map.mp hp'
   exact em _ (get_mem (hp.mem_iff.mp hy))
abbrev pJ:Stmt:=top 36
theorem gS:aO ["_law_draw","_law_things","_law_deep","_law_kind","_law_sign","_law_many","_law_parts"] ["_law_draw","_law_things","_law_deep"] (ak pJ):=⟨rfl,rfl,rfl,by decide +kernel,rfl,by decide +kernel,by decide +kernel⟩
theorem zK {f:Addr} {fd:FuncData} {Y:Cy} {fS:Addr} {n:Nat} (F:fG K "_law_condition" "_law_condition" pJ f fd) (T:Txt K mg Y.z.s) (U:fB K mg Y.z) (J:gD K mg Y fS) (bI:Dn P w K mg base 2 "_law_next" ["_law_draw","_law_size"] eS) (cH:Dn P w K mg base 3 "_law_sum" ["_law_draw","_law_things"] iJ) (aD:Dn P w K mg base (n+3) "_law_condition" ["_law_draw","_law_things","_law_deep"] (dm n)):bT P w K mg base dX (n+4) f fd ["_law_draw","_law_things","_law_deep"] (dm (n+1)):=by
 obtain ⟨iw,fc,bA,aT,aU,bz⟩:=bI
 obtain ⟨lF,jm,iZ,fQ,fU,iY⟩:=cH
 obtain ⟨cF,bY,bD,aZ,bf,bC⟩:=aD
 refine F.ok gS (fun vs H Q E h=>?_) (fun cdv A outer s H vs Q E hr h=>?_)
 ·obtain ⟨d,l,k0,xs,rfl,hk,hd,hl,hx,NT,k⟩:=h
  rfl
 ·obtain ⟨d,l,k0,xs,rfl,hk,hd,hl,hx,NT,k⟩:=h
  have hu:=bq hr
  rw [show au pJ=[_,_,_,_,_,_] from rfl]
  refine ⟨_,(ai (aR (i:=3) gS.nd rfl (Or.inl rfl) (aq bA (hr.mono (by first | decide | omega)) rfl aT aU bz .nil az (aa (pv 0) (aa aj ah))))
   (ai (cO (PW.pt (oV (aK di (pv 2) aj (aP _)) (mj (aK KO (pv 3) aj (aP _))))) (ai (aR (i:=4) gS.nd rfl (Or.inl rfl) (aH cU (cZ (tG (xs:=["<","<=","=","!=",">=",">"]) rfl)) (aq bA (hr.mono (by first | decide | omega)) rfl aT aU bz .nil az (aa (pv 0) (aa aj ah))) (fun _ _=>rfl)))
   (ay (aJ (aQ (aa aY (aa (aq iZ (hr.mono (by first | decide | omega)) rfl fQ fU iY .nil az (aa (pv 0) (aa (pv 1) ah))) (aa (pv 4) (aa (aq iZ (hr.mono (by first | decide | omega)) rfl fQ fU iY .nil az (aa (pv 0) (aa (pv 1) ah))) ah)))))))) bx)
   (ai (cO (aK di (pv 3) aj (aP _)) (ay (aJ (aQ (aa aY (aa (aq bD (hr.mono (by first | decide | omega)) rfl aZ bf bC .nil az (aa (pv 0) (aa (pv 1) (aa (bX rm (pv 2) aj) ah)))) ah))))) bx)
   (ai (aR (i:=5) gS.nd rfl (Or.inl rfl) (bX ju aj (bX rA (bX tK (aq bA (hr.mono (by first | decide | omega)) rfl aT aU bz .nil az (aa (pv 0) (aa aj ah))) aj) (aS vg (by rfl) T.int boot_int (aa (gi di (pv 2) aj (aP _)) ah)))))
   (ai (nc (i:=6) gS.nd rfl (Or.inl rfl) (bu ["_law_k"] ["_law_draw","_law_things","_law_deep"] [0,1,2] rfl (by decide +kernel) (by decide +kernel) (by with_unfolding_all rfl) (by exact ⟨rfl,rfl,rfl,trivial⟩) (by rfl) rfl (by rfl)) rfl (gT rfl T.range (aa (pv 5) ah)) (fun _ _ _ _=>(aN (i:=0) (show List.Nodup (["_law_k","_law_draw","_law_things","_law_deep"]:List Str) by decide +kernel) rfl (Or.inl rfl) (Or.inr rfl))) (fun _ _ _ _=>cI) (fun _ _ _ _=>(aq bD (hr.mono (by first | decide | omega)) rfl aZ bf bC .nil az (aa (pv 1) (aa (pv 2) (aa (bX rm (pv 3) aj) ah))))))
   (ay (aJ (bX oG (aQ (aa (aH cU (cZ (aa aY (aa aY ah))) (bX lC (pv 3) aj) (fun _ _=>rfl)) ah)) (aS aI (by rfl) T.tuple boot_tuple (aa (pv 6) ah)))))))))),?_⟩
  have Lq:l≠d:=by
   obtain ⟨x,y,ed⟩:=hd
   refine yU hl ed fun z=>?_
   cases xs with
   | nil=>cases z
   | cons a b=>cases z
  refine ⟨_,rfl,d,8,rfl,hd,(by decide),fun r0 H1 h0 b1 d1=>?_⟩
  have NY:H1 l=some (.lst (xs.map V.str)):=b1 _ _ hl Lq
  by_cases hz:k0=0
  ·refine ⟨_,rfl,rfl,_,rfl,dF (by rw [hz];rfl) (uY ?_)⟩
   refine ⟨(szl 6),fun q0 Fe=>?_⟩
   have UR:q0≠d:=d1.ne Fe
   refine ⟨_,rfl,d,6,rfl,d1.same (new Fe),(by decide),fun r2 H2 h2 b2 d2=>?_⟩
   obtain ⟨sg,hsg,hs⟩:=signs_at (r:=r2) (by omega)
   refine ⟨q0,_,_,_,rfl,rfl,ck.of (b2 _ _ af UR),bN hsg,?_⟩
   have IS:H2 l=some (.lst (xs.map V.str)):=b2 _ _ (new Fe _ _ NY) Lq
   refine ⟨_,rfl,_,rfl,d,l,xs,rfl,d2,IS,hx,NT,fun ra a n1 H3 b3 d3 Da Ca La Ia Sa=>?_⟩
   have V0:H3 l=some (.lst (xs.map V.str)):=b3 _ _ IS Lq
   refine ⟨_,rfl,_,rfl,_,rfl,d,l,xs,rfl,d3,V0,hx,NT,fun rb b m1 H4 b4 d4 Db Cb Lb Ib Sb=>?_⟩
   refine ⟨(szl 4),fun r hr'=>?_⟩
   refine k (.ref r) (.cmp a n1 sg b m1) _ (((((b1.new Fe).trans b2).trans b3).trans b4).new hr') (d4.same (new hr')) ?_ (by unfold Cd.dep;omega) (by unfold Gd;exact ⟨⟨Ca,La,Ia,Sa⟩,hs,⟨Cb,Lb,Ib,Sb⟩⟩)
   unfold bg
   exact ⟨r,ra,rb,rfl,af,(Da.ao (d3.soft b4)).ao (av.of (new hr')),Db.ao (av.of (new hr'))⟩
  refine ⟨_,rfl,rfl,_,rfl,bJ (fun e=>hz (by have:=V.int.inj e;omega)) ?_⟩
  by_cases h5:r0 < 5
  ·refine ⟨_,rfl,_,_,rfl,rfl,_,rfl,dF (by omega) ?_⟩
   refine ⟨(szl 6),fun q0 Fe=>?_⟩
   have UR:q0≠d:=d1.ne Fe
   refine ⟨_,rfl,d,6,rfl,d1.same (new Fe),(by decide),fun r2 H2 h2 b2 d2=>?_⟩
   obtain ⟨sg,hsg,hs⟩:=signs_at (r:=r2) (by omega)
   refine ⟨q0,_,_,_,rfl,rfl,ck.of (b2 _ _ af UR),bN hsg,?_⟩
   have IS:H2 l=some (.lst (xs.map V.str)):=b2 _ _ (new Fe _ _ NY) Lq
   refine ⟨_,rfl,_,rfl,d,l,xs,rfl,d2,IS,hx,NT,fun ra a n1 H3 b3 d3 Da Ca La Ia Sa=>?_⟩
   have V0:H3 l=some (.lst (xs.map V.str)):=b3 _ _ IS Lq
   refine ⟨_,rfl,_,rfl,_,rfl,d,l,xs,rfl,d3,V0,hx,NT,fun rb b m1 H4 b4 d4 Db Cb Lb Ib Sb=>?_⟩
   refine ⟨(szl 4),fun r hr'=>?_⟩
   refine k (.ref r) (.cmp a n1 sg b m1) _ (((((b1.new Fe).trans b2).trans b3).trans b4).new hr') (d4.same (new hr')) ?_ (by unfold Cd.dep;omega) (by unfold Gd;exact ⟨⟨Ca,La,Ia,Sa⟩,hs,⟨Cb,Lb,Ib,Sb⟩⟩)
   unfold bg
   exact ⟨r,ra,rb,rfl,af,(Da.ao (d3.soft b4)).ao (av.of (new hr')),Db.ao (av.of (new hr'))⟩
  refine ⟨_,rfl,_,_,rfl,rfl,_,rfl,bJ (by omega) ?_⟩
  have ek:∀ j:Int,j=(k0:Int) - 1→[V.ref d,V.ref l,V.int j]=[V.ref d,V.ref l,V.int ((k0 - 1:Nat):Int)]:=fun j e=>by rw [e,show ((k0:Int) - 1)=((k0 - 1:Nat):Int) by omega]
  by_cases h6:r0=5
  ·refine ⟨_,rfl,rfl,_,rfl,dF (by rw [h6];rfl) ?_⟩
   refine ⟨_,rfl,_,rfl,_,rfl,_,_,rfl,rfl,d,l,k0 - 1,xs,ek _ rfl,by omega,d1,NY,hx,NT,fun v c H2 b2 d2 ht Mx hg=>?_⟩
   refine ⟨(szl 2),fun r hr'=>?_⟩
   refine k (.ref r) (.neg c) _ ((b1.trans b2).new hr') (d2.same (new hr')) ?_ (by unfold Cd.dep;omega) (by unfold Gd;exact hg)
   unfold bg
   exact ⟨r,v,rfl,af,ht.ao (av.of (new hr'))⟩
  refine ⟨_,rfl,rfl,_,rfl,bJ (fun e=>h6 (by have:=V.int.inj e;omega)) ?_⟩
  refine ⟨_,rfl,d,4,rfl,d1,(by decide),fun r3 H2 h3 b2 d2=>⟨_,_,rfl,rfl,⟨by decide,by decide⟩,?_⟩⟩
  refine ⟨_,rfl,rfl,.inr ⟨decide (V.int (k0:Int)=V.int 1),rfl,_,_,rfl,rfl,.inl ⟨by omega,by omega⟩,?_⟩⟩
  have IS:H2 l=some (.lst (xs.map V.str)):=b2 _ _ NY Lq
  refine ⟨_,_,rfl,rfl,?_⟩
  obtain ⟨m,em,m1,m2,m3⟩:∃ m:Nat,(2:Int)+(r3:Int) / 3*(if decide (V.int (k0:Int)=V.int 1)=true then 1 else 0)=(m:Int)∧1≤m∧m≤3∧(k0=1∨m≤2):=by
   by_cases q:decide (V.int (k0:Int)=V.int 1)=true
   ·rw [if_pos q]
    exact ⟨(2+(r3:Int) / 3*1).toNat,by omega,by omega,by omega,.inl (by have:=V.int.inj (of_decide_eq_true q);omega)⟩
   ·rw [if_neg q]
    exact ⟨2,by omega,by omega,by omega,.inr (by omega)⟩
  refine ⟨_,rfl,(m:Int),congrArg (fun z=>[V.int z]) em,by omega,by omega,kC (n:=(m:Int).toNat) (fun i ys H'=>bE d H H'∧Dr H' d∧H' l=some (.lst (xs.map V.str))∧∃ cs,dY H' cs ys∧cs.length=i∧tV cs≤k0∧IB xs cs) ⟨b1.trans b2,d2,IS,[],(by unfold dY;rfl),rfl,Nat.zero_le _,(by unfold IB;trivial)⟩ ?_ ?_⟩
  ·rintro i ys H' hi ⟨F,D,en,cs,ht,lc,dc,gc⟩
   have qI:ys.length=i:=by rw [aA (cL.mp ht),lc]
   refine ⟨Ext.one,jd ⟨_,rfl,_,rfl,_,rfl,_,_,rfl,rfl,d,l,k0 - 1,xs,ek _ rfl,by omega,D,en,hx,NT,fun v c H5 b5 d5 OL Mx hg=>⟨line _ (by omega),F.trans b5,d5,b5 _ _ en Lq,cs++[c],?_,?_,?_,Bt gc hg⟩⟩⟩
   ·exact cL.mpr (bB (cL.mp (ht.ao (D.soft b5))) OL)
   ·rw [List.length_append,lc];rfl
   ·rw [za];omega
  rintro ys H' ⟨F,D,en,cs,ht,lc,dc,gc⟩ q hq
  have qI:ys.length=cs.length:=aA (cL.mp ht)
  have lc3:cs.length≤3:=by omega
  have two:2≤sizeLine:=Nat.le_of_lt (line 2 (by decide))
  refine ⟨two,fun q1 hq1=>?_⟩
  obtain ⟨b,hb⟩:=Rj (r0:Int)
  refine ⟨_,rfl,_,_,rfl,rfl,(by show (0:Int) < 2;decide),q1,_,_,_,rfl,rfl,ck.of af,hb,Nat.le_of_lt (line 1 (by decide)),fun r1 hr1=>?_⟩
  have s1:=(new (o:=.lst ys) hq).trans ((new (o:=.lst [V.str "and",.str "or"]) hq1).trans (new (o:=.tup [V.str (IJ b)]) hr1))
  have eq':upd (upd (upd H' q (.lst ys)) q1 (.lst [V.str "and",.str "or"])) r1 (.tup [V.str (IJ b)]) q=some (.lst ys):=new hr1 _ _ (new hq1 _ _ af)
  refine ⟨_,rfl,q,_,rfl,.inl ⟨ck.of eq',fun r2 hr2=>?_⟩⟩
  have s2:=s1.trans (new (o:=.tup ys) hr2)
  refine ⟨r1,r2,_,_,rfl,rfl,aV.of (new hr2 _ _ af),aV.of af,(by show 1+ys.length≤sizeLine;exact Nat.le_of_lt (line _ (by omega))),?_,?_,?_⟩
  ·intro z;cases z
  ·intro _ z
   exfalso
   rw [z] at qI
   have:(0:Nat)=cs.length:=qI
   omega
  ·intro _ _ r hr'
   refine k (.ref r) (.con b cs) _ ((F.trans (bE.of s2)).new hr') ((D.same s2).same (new hr')) ?_ (by unfold Cd.dep;omega) (by unfold Gd;exact ⟨lc3,gc⟩)
   unfold bg
   exact ⟨r,ys,rfl,af,(ht.ao (av.of s2)).ao (av.of (new hr'))⟩
abbrev xh:Stmt:=top 44
theorem qD:aO ["_law_conditions","_law_draw"] ["_law_conditions","_law_draw"] (ak xh):=⟨rfl,rfl,rfl,by decide +kernel,rfl,by decide +kernel,by decide +kernel⟩
theorem Ru {f:Addr} {fd:FuncData} {Y:Cy} {fS:Addr} {n:Nat} (F:fG K "_law_pairs_placed" "_law_pairs_placed" xh f fd) (T:Txt K mg Y.z.s) (U:fB K mg Y.z) (J:gD K mg Y fS) (bI:Dn P w K mg base 2 "_law_next" ["_law_draw","_law_size"] eS):bT P w K mg base dX 3 f fd ["_law_conditions","_law_draw"] A2:=by
 obtain ⟨iw,fc,bA,aT,aU,bz⟩:=bI
 refine F.ok qD (fun vs H Q E h=>?_) (fun cdv A outer s H vs Q E hr h=>?_)
 ·obtain ⟨v,d,hs,rfl,hR,hd,hl,k⟩:=h
  rfl
 ·obtain ⟨v,d,hs,rfl,hR,hd,hl,k⟩:=h
  have hu:=bq hr
  rw [show au xh=[_] from rfl]
  refine ⟨_,(ay (aJ (aS aI (by rfl) T.tuple boot_tuple (aa (cS (bu ["_law_one"] ["_law_draw"] [1] rfl (by decide +kernel) (by decide +kernel) (by with_unfolding_all rfl) (by exact ⟨rfl,trivial⟩) (by rfl) rfl (by rfl)) rfl (gF (pv 0)) (fun _ _ _ _=>(aN (i:=0) (show List.Nodup (["_law_one","_law_draw"]:List Str) by decide +kernel) rfl (Or.inl rfl) (Or.inr rfl))) (fun _ _ _ _=>cI) (fun _ _ _ _=>(aQ (aa (aq bA (hr.mono (by first | decide | omega)) rfl aT aU bz .nil az (aa (pv 1) (aa aj ah))) (aa (pv 0) ah))))) ah)))),?_⟩
  obtain ⟨t,us,rfl,et,hp⟩:=hR
  have rV:=aA hp
  have ntd:t≠d:=fun z=>by obtain ⟨x,y,e⟩:=hd;rw [z,e] at et;cases et
  refine ⟨_,rfl,t,rfl,⟨us,aV.of et⟩,dj (xs:=us) (fun i ys H'=>bE d H H'∧Dr H' d∧∃ hs':List (Int×Cd),Paired (fun u (q:Int×Cd)=>∃ r w,u=V.ref r∧H' r=some (.tup [.int q.1,w])∧bg H' q.2 w) ys hs'∧hs'.map (·.2)=(hs.take i).map (·.2)) ⟨fun _ _ z _=>z,hd,[],.nil,rfl⟩ (fun i ys H' _ q=>aV.of (q.1 _ _ et ntd)) ?_ ?_⟩
  ·rintro i x ys H' hix ⟨F,D,hs',py,em⟩
   obtain ⟨c,iH,hx⟩:=bH hp hix
   have Af:=(List.getElem?_eq_some_iff.mp iH).1
   have qI:ys.length≤i:=by
    have z:=congrArg List.length em
    rw [List.length_map,List.length_map,List.length_take] at z
    rw [aA py]
    omega
   refine ⟨Ext.one,jd ⟨_,rfl,d,200,rfl,D,(by decide),fun r1 H1 h1 b1 d1=>⟨_,rfl,(szl 2),fun q hq=>⟨line _ (by omega),(F.trans b1).new hq,d1.same (new hq),hs'++[((r1:Int),c.2)],?_,?_⟩⟩⟩⟩
   ·have k1:av H' H1:=D.soft b1
    exact bB (L2.Paired.dg py fun _ _ ⟨r,w,e,er,d'⟩=>⟨r,w,e,new hq _ _ (k1.t _ _ er),(d'.ao k1).ao (av.of (new hq))⟩) ⟨q,x,rfl,af,((bg.ao (hd.soft F) hx).ao k1).ao (av.of (new hq))⟩
   ·rw [List.map_append,em,take_snoc iH,List.map_append]
    rfl
  rintro ys H' ⟨F,D,hs',py,em⟩ q hq
  rw [rV,List.take_length] at em
  refine ⟨q,_,rfl,.inl ⟨ck.of af,fun r hr'=>?_⟩⟩
  have s3:aF H' (upd (upd H' q (.lst ys)) r (.tup ys)):=aF.new (new hq) hr'
  refine k (.ref r) hs' _ ((F.new hq).new hr') (D.same s3) ⟨r,ys,rfl,af,L2.Paired.dg py fun _ _ ⟨r',w',e,e',d'⟩=>⟨r',w',e,s3 _ _ e',d'.ao (av.of s3)⟩⟩ ?_ fun hc q hq=>?_
  ·have z:=congrArg List.length em
   rw [List.length_map,List.length_map] at z
   exact z
  ·have m:q.2∈hs.map (·.2):=em ▸ List.mem_map.mpr ⟨q,hq,rfl⟩
   obtain ⟨q',hq',e⟩:=List.mem_map.mp m
   rw [← e]
   exact hc q' hq'
abbrev vD:Stmt:=top 43
theorem sS:aO ["_law_steps_here","_law_draw"] ["_law_steps_here","_law_draw"] (ak vD):=⟨rfl,rfl,rfl,by decide +kernel,rfl,by decide +kernel,by decide +kernel⟩
theorem KZ {f:Addr} {fd:FuncData} {Y:Cy} {fS:Addr} {n:Nat} (F:fG K "_law_all_placed" "_law_all_placed" vD f fd) (T:Txt K mg Y.z.s) (U:fB K mg Y.z) (J:gD K mg Y fS) (M7:Dn P w K mg base (2*n+5) "_law_placed" ["_law_step_here","_law_draw"] (Jx n)):bT P w K mg base dX (2*n+6) f fd ["_law_steps_here","_law_draw"] (FZ n):=by
 obtain ⟨Vx,T3,NC,HG,HM,Np⟩:=M7
 refine F.ok sS (fun vs H Q E h=>?_) (fun cdv A outer s H vs Q E hr h=>?_)
 ·obtain ⟨t,d,us,l,rfl,et,hR,ho,Mx,hl,hd,k⟩:=h
  rfl
 ·obtain ⟨t,d,us,l,rfl,et,hR,ho,Mx,hl,hd,k⟩:=h
  have hu:=bq hr
  rw [show au vD=[_] from rfl]
  refine ⟨_,(ay (aJ (aS aI (by rfl) T.tuple boot_tuple (aa (cS (bu ["_law_step_here"] ["_law_draw"] [1] rfl (by decide +kernel) (by decide +kernel) (by with_unfolding_all rfl) (by exact ⟨rfl,trivial⟩) (by rfl) rfl (by rfl)) rfl (gF (pv 0)) (fun _ _ _ _=>(aN (i:=0) (show List.Nodup (["_law_step_here","_law_draw"]:List Str) by decide +kernel) rfl (Or.inl rfl) (Or.inr rfl))) (fun _ _ _ _=>cI) (fun _ _ _ _=>(aq NC (hr.mono (by first | decide | omega)) rfl HG HM Np .nil az (aa (pv 0) (aa (pv 1) ah))))) ah)))),?_⟩
  have hp:=j8.mp hR
  have rV:=aA hp
  have ntd:t≠d:=fun z=>by obtain ⟨x,y,e⟩:=hd;rw [z,e] at et;cases et
  refine ⟨_,rfl,t,rfl,⟨us,aV.of et⟩,dj (xs:=us) (fun i ys H'=>bE d H H'∧Dr H' d∧∃ l':List cV,jC H' l' ys∧vF l'∧ku l'=ku (l.take i)∧l'.length=i) ⟨fun _ _ z _=>z,hd,[],(by unfold jC;rfl),(by unfold vF;trivial),rfl,rfl⟩ (fun i ys H' _ q=>aV.of (q.1 _ _ et ntd)) ?_ ?_⟩
  ·rintro i x ys H' hix ⟨F,D,l',py,ok',ZK,ll⟩
   obtain ⟨c,iH,hx⟩:=bH hp hix
   have tR:=List.mem_of_getElem? iH
   have Af:=(List.getElem?_eq_some_iff.mp iH).1
   have qI:=aA (iT.mp py)
   have dd:=qj tR
   refine ⟨Ext.one,jd ⟨_,rfl,_,rfl,x,d,c,rfl,qp.ao (hd.soft F) hx,tM ho tR,by omega,D,fun v' s' H1 b1 d1 hv o1 e1=>⟨line _ (by omega),F.trans b1,d1,l'++[s'],?_,xA ok' o1,?_,?_⟩⟩⟩
   ·exact iT.mpr (bB (iT.mp (jC.ao (D.soft b1) py)) hv)
   ·rw [take_snoc iH,qz,qz,ZK,e1]
   ·rw [List.length_append,ll];rfl
  rintro ys H' ⟨F,D,l',py,ok',ZK,ll⟩ q hq
  rw [rV,List.take_length] at ZK
  refine ⟨q,_,rfl,.inl ⟨ck.of af,fun r hr'=>?_⟩⟩
  have s3:aF H' (upd (upd H' q (.lst ys)) r (.tup ys)):=aF.new (new hq) hr'
  exact k r ys l' _ ((F.new hq).new hr') (D.same s3) af (jC.ao (av.of s3) py) ok' ZK (by omega)
abbrev A8:Stmt:=top 45
theorem kF:aO ["_law_step_here","_law_draw","_law_at","_law_falls"] ["_law_step_here","_law_draw"] (ak A8):=⟨rfl,rfl,rfl,by decide +kernel,rfl,by decide +kernel,by decide +kernel⟩
theorem UO {f:Addr} {fd:FuncData} {Y:Cy} {fS:Addr} {n:Nat} (F:fG K "_law_placed" "_law_placed" A8 f fd) (T:Txt K mg Y.z.s) (U:fB K mg Y.z) (J:gD K mg Y fS) (bI:Dn P w K mg base 2 "_law_next" ["_law_draw","_law_size"] eS) (iX:Dn P w K mg base 3 "_law_pairs_placed" ["_law_conditions","_law_draw"] A2) (oO:Dn P w K mg base (2*n+6) "_law_all_placed" ["_law_steps_here","_law_draw"] (FZ n)):bT P w K mg base dX (2*n+7) f fd ["_law_step_here","_law_draw"] (Jx (n+1)):=by
 obtain ⟨iw,fc,bA,aT,aU,bz⟩:=bI
 obtain ⟨xQ,v5,jU,jk,jl,jR⟩:=iX
 obtain ⟨Am,yq,jV,je,jg,jS⟩:=oO
 refine F.ok kF (fun vs H Q E h=>?_) (fun cdv A outer s H vs Q E hr h=>?_)
 ·obtain ⟨v,d,s,rfl,hR,ho,Mx,hd,k⟩:=h
  rfl
 ·obtain ⟨v,d,s,rfl,hR,ho,Mx,hd,k⟩:=h
  have hu:=bq hr
  rw [show au A8=[_,_,_,_] from rfl]
  refine ⟨_,(ai (aR (i:=2) kF.nd rfl (Or.inl rfl) (aq bA (hr.mono (by first | decide | omega)) rfl aT aU bz .nil az (aa (pv 1) (aa aj ah))))
   (ai (cO (aK di (aH aG (pv 0) aj (fun _ _=>rfl)) aY (aP _)) (ay (aJ (aQ (aa aY (aa (pv 2) (aa (aH aG (pv 0) aj (fun _ _=>rfl)) (aa (aq jV (hr.mono (by first | decide | omega)) rfl je jg jS .nil az (aa (aH aG (pv 0) aj (fun _ _=>rfl)) (aa (pv 1) ah))) (aa (aq jV (hr.mono (by first | decide | omega)) rfl je jg jS .nil az (aa (aH aG (pv 0) aj (fun _ _=>rfl)) (aa (pv 1) ah))) ah)))))))) bx)
   (ai (cO (aK di (aH aG (pv 0) aj (fun _ _=>rfl)) aY (aP _)) (ai (aR (i:=3) kF.nd rfl (Or.inl rfl) j9)
   (ai (cO (aK tH (aH aG (pv 0) aj (fun _ _=>rfl)) j9 (aP _)) (ay (aR (i:=3) kF.nd rfl (Or.inl rfl) (aQ (aa (aq bA (hr.mono (by first | decide | omega)) rfl aT aU bz .nil az (aa (pv 1) (aa aj ah))) (aa (aH aG (pv 0) aj (fun _ _=>rfl)) ah))))) bx)
   (ay (aJ (aQ (aa aY (aa (pv 2) (aa (aH aG (pv 0) aj (fun _ _=>rfl)) (aa (aq jU (hr.mono (by first | decide | omega)) rfl jk jl jR .nil az (aa (aH aG (pv 0) aj (fun _ _=>rfl)) (aa (pv 1) ah))) (aa (pv 3) (aa (aq jV (hr.mono (by first | decide | omega)) rfl je jg jS .nil az (aa (aH aG (pv 0) aj (fun _ _=>rfl)) (aa (pv 1) ah))) ah))))))))))) bx)
   (ay (aJ (bX oG (aQ (aa (aH aG (pv 0) aj (fun _ _=>rfl)) (aa (pv 2) ah))) (fO o8 (pv 0) (eX aj) kH))))))),?_⟩
  refine ⟨_,rfl,d,200,rfl,hd,(by decide),fun r0 H1 h0 b1 d1=>?_⟩
  have k1:av H H1:=hd.soft b1
  cases s with
  | flat kk at_ as =>
   unfold qp at hR
   obtain ⟨r,us,rfl,er,pa⟩:=hR
   have vM:=k1.t _ _ er
   have lpa:=aA pa
   have la:as.length≤4:=by
    unfold cV.ok at ho
    match kk,ho.1 with
    | 0,⟨_,_,_,e⟩=>rw [e];simp
    | 1,⟨_,_,_,_,_,_,e⟩=>rw [e];simp
    | 2,⟨_,_,_,_,e⟩=>rw [e];simp
    | 3,⟨_,_,_,_,_,e⟩=>rw [e];simp
    | 4,⟨_,_,_,e⟩=>rw [e];simp
    | 5,⟨_,e⟩=>rw [e];simp
    | 6,⟨_,_,_,e⟩=>rw [e];simp
   refine ⟨_,rfl,r,_,0,_,rfl,rfl,aV.of vM,Cn _ _,rfl,_,rfl,bJ (bL (Qe kk).1) ?_⟩
   refine ⟨_,rfl,r,_,0,_,rfl,rfl,aV.of vM,Cn _ _,rfl,_,rfl,bJ (bL (Qe kk).2) ?_⟩
   refine ⟨_,rfl,r,_,0,_,rfl,rfl,aV.of vM,Cn _ _,_,rfl,(szl 2),fun r1 hr1=>?_⟩
   have s1:=new (o:=.tup [.str (kw kk),.int (r0:Int)]) hr1
   refine ⟨_,rfl,_,rfl,r,_,rfl,aV.of (s1 _ _ vM),Nj _ _,fun t uZ=>?_⟩
   rw [SY]
   have s2:=s1.trans (new (o:=.tup us) uZ)
   have fin:∀ (q:Addr) (H2:Hp),aF H1 H2→H2 q=some (.tup (.str (kw kk)::.int (r0:Int)::us))→Q (.ref q) H2:=fun q H2 s3 eq=>by
    refine k (.ref q) (.flat kk (r0:Int) as) H2 (b1.trans (bE.of s3)) (d1.same s3) ?_ (by unfold cV.ok at ho ⊢;exact ho) rfl
    unfold ie
    exact ⟨q,us,rfl,eq,L2.Paired.dg pa fun _ _ z=>NL.ao (av.of s3) (NL.ao k1 z)⟩
   refine ⟨r1,t,_,_,rfl,rfl,aV.of (new uZ _ _ af),aV.of af,(by show 2+us.length≤sizeLine;exact Nat.le_of_lt (line _ (by omega))),(fun z=>by cases z),fun _ z=>?_,fun _ _ q hq=>?_⟩
   ·subst z
    exact fin r1 _ s2 (new uZ _ _ af)
   ·exact fin q _ (s2.trans (new hq)) af
  | ny at_ c t e =>
   unfold qp at hR
   unfold cV.ok at ho
   unfold cV.dep at Mx
   obtain ⟨r,uc,t1,t2,us,ws,rfl,er,hc,e1,h1,e2,h2⟩:=hR
   have vM:=k1.t _ _ er
   refine ⟨_,rfl,r,_,0,_,rfl,rfl,aV.of vM,rfl,rfl,_,rfl,dF rfl ?_⟩
   refine ⟨_,rfl,_,rfl,r,_,1,_,rfl,rfl,aV.of vM,rfl,?_⟩
   refine ⟨_,rfl,r,_,2,_,rfl,rfl,aV.of vM,rfl,_,rfl,t1,d,us,t,rfl,k1.t _ _ e1,h1.ao k1,ho.2.2.2.1,by omega,ho.2.1,d1,fun q1 AQ l1 H2 b2 d2 E1 P1 o1 dp1 Yj=>?_⟩
   have k2:av H1 H2:=d1.soft b2
   refine ⟨_,rfl,r,_,3,_,rfl,rfl,aV.of (k2.t _ _ vM),rfl,_,rfl,t2,d,ws,e,rfl,k2.t _ _ (k1.t _ _ e2),(h2.ao k1).ao k2,ho.2.2.2.2,by omega,ho.2.2.1,d2,fun q2 ur l2 H3 b3 d3 E2 P2 o2 V5 Yi=>?_⟩
   have k3:av H2 H3:=d2.soft b3
   refine ⟨(szl 5),fun q hq=>?_⟩
   refine k (.ref q) (.ny (r0:Int) c l1 l2) _ (((b1.trans b2).trans b3).new hq) (d3.same (new hq)) ?_ (by unfold cV.ok;exact ⟨ho.1,by omega,by omega,o1,o2⟩) (by unfold cV.dep;rw [dp1,V5])
   unfold ie
   exact ⟨q,uc,q1,q2,AQ,ur,rfl,af,(((hc.ao k1).ao k2).ao k3).ao (av.of (new hq)),new hq _ _ (k3.t _ _ E1),(P1.ao k3).ao (av.of (new hq)),new hq _ _ E2,P2.ao (av.of (new hq))⟩
  | rep at_ c hs f b =>
   unfold qp at hR
   unfold cV.ok at ho
   unfold cV.dep at Mx
   obtain ⟨r,uc,uh,uf,t2,ws,rfl,er,hc,hh,hf,e2,h2⟩:=hR
   have vM:=k1.t _ _ er
   refine ⟨_,rfl,r,_,0,_,rfl,rfl,aV.of vM,rfl,rfl,_,rfl,bJ (bL (by decide +kernel)) ?_⟩
   refine ⟨_,rfl,r,_,0,_,rfl,rfl,aV.of vM,rfl,rfl,_,rfl,dF rfl ?_⟩
   cases f with
   | none =>
    have hf:uf=V.eT:=hf
    subst hf
    refine ⟨_,rfl,r,_,3,_,rfl,rfl,aV.of vM,rfl,rfl,_,rfl,nu rfl ?_⟩
    refine ⟨_,rfl,_,rfl,r,_,1,_,rfl,rfl,aV.of vM,rfl,?_⟩
    refine ⟨_,rfl,r,_,2,_,rfl,rfl,aV.of vM,rfl,_,rfl,uh,d,hs,rfl,hh.ao k1,d1,ho.2.1,fun v1 hs' H2 b2 d2 P1 Yj cg=>?_⟩
    have k2:av H1 H2:=d1.soft b2
    refine ⟨_,rfl,?_⟩
    refine ⟨_,rfl,r,_,4,_,rfl,rfl,aV.of (k2.t _ _ vM),rfl,_,rfl,t2,d,ws,b,rfl,k2.t _ _ (k1.t _ _ e2),(h2.ao k1).ao k2,ho.2.2.2.2.2,by omega,ho.2.2.2.2.1,d2,fun q2 ur l2 H3 b3 d3 E2 P2 o2 V5 Yi=>?_⟩
    have k3:av H2 H3:=d2.soft b3
    refine ⟨(szl 6),fun qq hq=>?_⟩
    refine k (.ref qq) (.rep (r0:Int) c hs' none l2) _ (((b1.trans b2).trans b3).new hq) (d3.same (new hq)) ?_ (by unfold cV.ok;exact ⟨ho.1,by omega,cg ho.2.2.1,(fun _ z=>nomatch z),by omega,o2⟩) (by unfold cV.dep;rw [V5])
    unfold ie
    exact ⟨qq,uc,v1,.eT,q2,ur,rfl,af,(((hc.ao k1).ao k2).ao k3).ao (av.of (new hq)),(P1.ao k3).ao (av.of (new hq)),rfl,new hq _ _ E2,P2.ao (av.of (new hq))⟩
   | some q =>
    obtain ⟨df,rfl,Df⟩:=hf
    refine ⟨_,rfl,r,_,3,_,rfl,rfl,aV.of vM,rfl,rfl,_,rfl,pZ (fun z=>by cases z) ?_⟩
    refine ⟨_,rfl,d,200,rfl,d1,(by decide),fun r9 H9 h9 b9 d9=>?_⟩
    have k9:av H1 H9:=d1.soft b9
    refine ⟨_,rfl,r,_,3,_,rfl,rfl,aV.of (k9.t _ _ vM),rfl,(szl 2),fun qf R4=>?_⟩
    have b1:=(b1.trans b9).new (o:=.tup [.int (r9:Int),.ref df]) R4
    have d1:=d9.same (new (o:=.tup [.int (r9:Int),.ref df]) R4)
    have Df:=((Df.ao k1).ao k9).ao (av.of (new (o:=.tup [.int (r9:Int),.ref df]) R4))
    have vM:=new (o:=.tup [.int (r9:Int),.ref df]) R4 _ _ (k9.t _ _ vM)
    have k1:av H (upd H9 qf (.tup [.int (r9:Int),.ref df])):=hd.soft b1
    have VW:upd H9 qf (.tup [.int (r9:Int),.ref df]) qf=some (.tup [.int (r9:Int),.ref df]):=af
    generalize upd H9 qf (.tup [.int (r9:Int),.ref df])=H1 at b1 d1 Df vM k1 VW ⊢
    refine ⟨_,rfl,_,rfl,r,_,1,_,rfl,rfl,aV.of vM,rfl,?_⟩
    refine ⟨_,rfl,r,_,2,_,rfl,rfl,aV.of vM,rfl,_,rfl,uh,d,hs,rfl,hh.ao k1,d1,ho.2.1,fun v1 hs' H2 b2 d2 P1 Yj cg=>?_⟩
    have k2:av H1 H2:=d1.soft b2
    refine ⟨_,rfl,?_⟩
    refine ⟨_,rfl,r,_,4,_,rfl,rfl,aV.of (k2.t _ _ vM),rfl,_,rfl,t2,d,ws,b,rfl,k2.t _ _ (k1.t _ _ e2),(h2.ao k1).ao k2,ho.2.2.2.2.2,by omega,ho.2.2.2.2.1,d2,fun q2 ur l2 H3 b3 d3 E2 P2 o2 V5 Yi=>?_⟩
    have k3:av H2 H3:=d2.soft b3
    refine ⟨(szl 6),fun qq hq=>?_⟩
    refine k (.ref qq) (.rep (r0:Int) c hs' (some ((r9:Int),q.2)) l2) _ (((b1.trans b2).trans b3).new hq) (d3.same (new hq)) ?_ (by unfold cV.ok;exact ⟨ho.1,by omega,cg ho.2.2.1,(fun q' z=>by cases z;exact ho.2.2.2.1 q rfl),by omega,o2⟩) (by unfold cV.dep;rw [V5])
    unfold ie
    exact ⟨qq,uc,v1,(.ref qf),q2,ur,rfl,af,(((hc.ao k1).ao k2).ao k3).ao (av.of (new hq)),(P1.ao k3).ao (av.of (new hq)),⟨qf,df,rfl,new hq _ _ (k3.t _ _ (k2.t _ _ VW)),((Df.ao k2).ao k3).ao (av.of (new hq))⟩,new hq _ _ E2,P2.ao (av.of (new hq))⟩
abbrev xj:Stmt:=top 46
theorem cy:aO ["_law_helper_here","_law_draw","_law_name","_law_params","_law_answers","_law_needs","_law_gives","_law_steps_here","_law_ahead"] ["_law_helper_here","_law_draw"] (ak xj):=⟨rfl,rfl,rfl,by decide +kernel,rfl,by decide +kernel,by decide +kernel⟩
theorem Rv {f:Addr} {fd:FuncData} {Y:Cy} {fS:Addr} {n:Nat} (F:fG K "_law_helper_placed" "_law_helper_placed" xj f fd) (T:Txt K mg Y.z.s) (U:fB K mg Y.z) (J:gD K mg Y fS) (bI:Dn P w K mg base 2 "_law_next" ["_law_draw","_law_size"] eS) (iX:Dn P w K mg base 3 "_law_pairs_placed" ["_law_conditions","_law_draw"] A2) (oO:Dn P w K mg base 12 "_law_all_placed" ["_law_steps_here","_law_draw"] (FZ 3)):bT P w K mg base dX 13 f fd ["_law_helper_here","_law_draw"] vo:=by
 obtain ⟨iw,fc,bA,aT,aU,bz⟩:=bI
 obtain ⟨xQ,v5,jU,jk,jl,jR⟩:=iX
 obtain ⟨Am,yq,jV,je,jg,jS⟩:=oO
 refine F.ok cy (fun vs H Q E h=>?_) (fun cdv A outer s H vs Q E hr h=>?_)
 ·obtain ⟨v,d,h,rfl,hR,ho,hd,k⟩:=h
  rfl
 ·obtain ⟨v,d,h,rfl,hR,ho,hd,k⟩:=h
  have hu:=bq hr
  rw [show au xj=[_,_,_,_] from rfl]
  refine ⟨_,(ai (xr (pv 0) (uG rfl (cC (aN (i:=2) cy.nd rfl (Or.inl rfl)) (cC (aN (i:=3) cy.nd rfl (Or.inl rfl)) (cC (aN (i:=4) cy.nd rfl (Or.inl rfl)) (cC (aN (i:=5) cy.nd rfl (Or.inl rfl)) (cC (aN (i:=6) cy.nd rfl (Or.inl rfl)) (cC (aN (i:=7) cy.nd rfl (Or.inl rfl)) kI))))))))
   (ai (aR (i:=8) cy.nd rfl (Or.inl rfl) (aQ (aa aY (aa (aq bA (hr.mono (by first | decide | omega)) rfl aT aU bz .nil az (aa (pv 1) (aa aj ah))) (aa (pv 2) (aa (pv 3) (aa (pv 4) ah)))))))
   (ai (aR (i:=8) cy.nd rfl (Or.inl rfl) (bX oG (pv 8) (aQ (aa (aq jU (hr.mono (by first | decide | omega)) rfl jk jl jR .nil az (aa (pv 5) (aa (pv 1) ah))) (aa (aq jU (hr.mono (by first | decide | omega)) rfl jk jl jR .nil az (aa (pv 6) (aa (pv 1) ah))) ah)))))
   (ay (aJ (bX oG (pv 8) (aQ (aa (aq jV (hr.mono (by first | decide | omega)) rfl je jg jS .nil az (aa (pv 7) (aa (pv 1) ah))) ah)))))))),?_⟩
  obtain ⟨r,t1,t2,v1,v2,t3,us,rfl,er,e1,e2,h1,h2,e3,h3⟩:=hR
  refine ⟨_,rfl,r,_,rfl,aV.of er,rfl,_,_,rfl,_,_,rfl,_,_,rfl,_,_,rfl,_,_,rfl,_,_,rfl,rfl,?_⟩
  refine ⟨_,rfl,d,200,rfl,hd,(by decide),fun r0 H1 h0 b1 d1=>?_⟩
  have k1:av H H1:=hd.soft b1
  refine ⟨_,rfl,_,rfl,_,rfl,(szl 5),fun q1 hq1=>?_⟩
  have s1:=new (o:=.tup [.str "helper",.int (r0:Int),.str h.nm,.ref t1,.ref t2]) hq1
  have O1:=d1.same s1
  have k1':av H (upd H1 q1 (.tup [.str "helper",.int (r0:Int),.str h.nm,.ref t1,.ref t2])):=hd.soft (b1.new hq1)
  have eq1:upd H1 q1 (.tup [.str "helper",.int (r0:Int),.str h.nm,.ref t1,.ref t2]) q1=some (.tup [.str "helper",.int (r0:Int),.str h.nm,.ref t1,.ref t2]):=af
  have b1':=b1.new (o:=.tup [.str "helper",.int (r0:Int),.str h.nm,.ref t1,.ref t2]) hq1
  generalize upd H1 q1 (.tup [.str "helper",.int (r0:Int),.str h.nm,.ref t1,.ref t2])=G1 at s1 O1 k1' eq1 b1' ⊢
  refine ⟨_,rfl,_,rfl,_,rfl,v1,d,h.nd,rfl,h1.ao k1',O1,ho.nl,fun w1 NP G2 b2 d2 P1 Yj cg1=>?_⟩
  have k2:av G1 G2:=O1.soft b2
  refine ⟨_,rfl,_,rfl,v2,d,h.gv,rfl,(h2.ao k1').ao k2,d2,ho.gl,fun w2 gv' G3 b3 d3 P2 Yi cg2=>?_⟩
  have k3:av G2 G3:=d2.soft b3
  refine ⟨(szl 2),fun q2 hq2=>?_⟩
  have a89:=new (o:=.tup [w1,w2]) hq2 _ _ (k3.t _ _ (k2.t _ _ eq1))
  refine ⟨q1,q2,_,_,rfl,rfl,aV.of a89,aV.of af,Nat.le_of_lt (line 7 (by decide)),(fun z=>by cases z),(fun _ z=>by cases z),fun _ _ q3 Cg=>?_⟩
  have s4:aF G3 (upd (upd G3 q2 (.tup [w1,w2])) q3 (.tup [.str "helper",.int (r0:Int),.str h.nm,.ref t1,.ref t2,w1,w2])):=aF.new (new hq2) Cg
  have d4:=d3.same s4
  have eq3:upd (upd G3 q2 (.tup [w1,w2])) q3 (.tup [.str "helper",.int (r0:Int),.str h.nm,.ref t1,.ref t2,w1,w2]) q3=some (.tup [.str "helper",.int (r0:Int),.str h.nm,.ref t1,.ref t2,w1,w2]):=af
  have b4:=(((b1'.trans b2).trans b3).trans (bE.of s4))
  have k4:=hd.soft b4
  refine ⟨_,rfl,_,rfl,_,rfl,t3,d,us,h.st,rfl,k4.t _ _ e3,h3.ao k4,ho.st,ho.dp,ho.sl,d4,fun q5 Uh st' G5 b5 d5 E5 P5 o5 Ua ll5=>?_⟩
  have k5:=d4.soft b5
  refine ⟨Nat.le_of_lt (line 1 (by decide)),fun q6 TV=>?_⟩
  refine ⟨q3,q6,_,_,rfl,rfl,aV.of (new TV _ _ (k5.t _ _ eq3)),aV.of af,Nat.le_of_lt (line 8 (by decide)),(fun z=>by cases z),(fun _ z=>by cases z),fun _ _ q7 hq7=>?_⟩
  have s6:aF G5 (upd (upd G5 q6 (.tup [.ref q5])) q7 (.tup [.str "helper",.int (r0:Int),.str h.nm,.ref t1,.ref t2,w1,w2,.ref q5])):=aF.new (new TV) hq7
  have RZ:av H (upd (upd G5 q6 (.tup [.ref q5])) q7 (.tup [.str "helper",.int (r0:Int),.str h.nm,.ref t1,.ref t2,w1,w2,.ref q5])):=hd.soft ((b4.trans b5).trans (bE.of s6))
  have kk:av G3 (upd (upd G5 q6 (.tup [.ref q5])) q7 (.tup [.str "helper",.int (r0:Int),.str h.nm,.ref t1,.ref t2,w1,w2,.ref q5])):=d3.soft (((bE.of s4).trans b5).trans (bE.of s6))
  refine k (.ref q7) ⟨(r0:Int),h.nm,h.ps,h.an,NP,gv',st'⟩ _ ((b4.trans b5).trans (bE.of s6)) (d5.same s6) ⟨q7,t1,t2,w1,w2,q5,Uh,rfl,af,RZ.t _ _ e1,RZ.t _ _ e2,(P1.ao k3).ao kk,P2.ao kk,s6 _ _ E5,P5.ao (av.of s6)⟩ ⟨ho.ps,ho.an,?_,cg1 ho.nd,?_,cg2 ho.gv,?_,o5,?_⟩ rfl
  ·show NP.length≤10
   have:=ho.nl;omega
  ·show gv'.length≤10
   have:=ho.gl;omega
  ·show st'.length≤10
   have:=ho.sl;omega
  ·show ku st'≤3
   have:=ho.dp;omega
abbrev ou:Stmt:=top 47
theorem vQ:aO ["_law_one"] ["_law_one"] (ak ou):=⟨rfl,rfl,rfl,by decide +kernel,rfl,by decide +kernel,by decide +kernel⟩
theorem KU {f:Addr} {fd:FuncData} {Y:Cy} {fS:Addr} {n:Nat} (F:fG K "_law_sum_made" "_law_sum_made" ou f fd) (T:Txt K mg Y.z.s) (U:fB K mg Y.z) (J:gD K mg Y fS) (V9:Dn P w K mg base 3 "sum_of" ["pairs","number"] (zo Y.z.s)):bT P w K mg base dX 4 f fd ["_law_one"] (qv Y.z):=by
 obtain ⟨b5K,a8E,NB,HF,HL,Nn⟩:=V9
 refine F.ok vQ (fun vs H Q E h=>?_) (fun cdv A outer s H vs Q E hr h=>?_)
 ·obtain ⟨p,a,m,rfl,D,g,k⟩:=h
  rfl
 ·obtain ⟨p,a,m,rfl,D,g,k⟩:=h
  have hu:=bq hr
  rw [show au ou=[_] from rfl]
  refine ⟨_,(ay (aJ (aq NB (hr.mono (by first | decide | omega)) rfl HF HL Nn .nil az (aa (aH aG (pv 0) aj (fun _ _=>rfl)) (aa (aH aG (pv 0) aj (fun _ _=>rfl)) ah))))),?_⟩
  obtain ⟨t,hp,ht⟩:=id D
  refine ⟨_,rfl,p,_,0,_,rfl,rfl,aV.of hp,rfl,_,rfl,p,_,1,_,rfl,rfl,aV.of hp,rfl,t,m,a,rfl,.inr ht,(by have:=g.2.1.1;omega),fun r ts H' sm gt l S=>?_⟩
  rw [Ih g.1 gt] at S
  exact k r H' sm S
abbrev m5:Stmt:=top 48
theorem j6:aO ["_law_told","_law_inner"] ["_law_told"] (ak m5):=⟨rfl,rfl,rfl,by decide +kernel,rfl,by decide +kernel,by decide +kernel⟩
theorem KW {f:Addr} {fd:FuncData} {Y:Cy} {fS:Addr} {n:Nat} (F:fG K "_law_condition_made" "_law_condition_made" m5 f fd) (T:Txt K mg Y.z.s) (U:fB K mg Y.z) (J:gD K mg Y fS) (jx:Dn P w K mg base 4 "_law_sum_made" ["_law_one"] (qv Y.z)) (Ax:Mr P w K mg base 1 Y.z.c ["self","one","sign","other"] (wm Y.z)) (Aq:Mr P w K mg base 1 Y.z.t ["self","condition"] (wg Y.z)) (Aw:Mr P w K mg base 1 Y.z.e ["self","conditions"] (mT Y.z.e)) (As:Mr P w K mg base 1 Y.z.o ["self","conditions"] (mT Y.z.o)) (aM:Dn P w K mg base (n+5) "_law_condition_made" ["_law_told"] (iM Y.z n)):bT P w K mg base dX (n+6) f fd ["_law_told"] (iM Y.z (n+1)):=by
 obtain ⟨Fl,By,e8,dR,dU,eZ⟩:=jx
 obtain ⟨c0s,b5J,xU,Nz,xS⟩:=Ax
 obtain ⟨c0p,b5G,yy,Pc,yu⟩:=Aq
 obtain ⟨c0r,b5I,AJ,Tn,AE⟩:=Aw
 obtain ⟨c0q,b5H,BW,Xw,BN⟩:=As
 obtain ⟨dI,dh,bW,bO,bQ,bV⟩:=aM
 refine F.ok j6 (fun vs H Q E h=>?_) (fun cdv A outer s H vs Q E hr h=>?_)
 ·obtain ⟨v,c,xs,rfl,ht,hd,hg,k⟩:=h
  rfl
 ·obtain ⟨v,c,xs,rfl,ht,hd,hg,k⟩:=h
  have hu:=bq hr
  rw [show au m5=[_,_,_,_,_] from rfl]
  refine ⟨_,(ai (cO (aK di (aH aG (pv 0) aj (fun _ _=>rfl)) aY (aP _)) (ay (aJ (dM Nz xU (hr.mono (by first | decide | omega)) rfl U.mgC xS .nil az (aa (aq e8 (hr.mono (by first | decide | omega)) rfl dR dU eZ .nil az (aa (aH aG (pv 0) aj (fun _ _=>rfl)) ah)) (aa (aH aG (pv 0) aj (fun _ _=>rfl)) (aa (aq e8 (hr.mono (by first | decide | omega)) rfl dR dU eZ .nil az (aa (aH aG (pv 0) aj (fun _ _=>rfl)) ah)) ah)))))) bx)
   (ai (nc (i:=1) j6.nd rfl (Or.inl rfl) (bu ["_law_one"] [] [] rfl (by decide +kernel) (by decide +kernel) (by with_unfolding_all rfl) (by exact trivial) (by rfl) rfl (by rfl)) rfl (gF (fO o8 (pv 0) (eX aj) kH)) (fun _ _ _ _=>(aN (i:=0) (show List.Nodup (["_law_one"]:List Str) by decide +kernel) rfl (Or.inl rfl) (Or.inr rfl))) (fun _ _ _ _=>cI) (fun _ _ _ _=>(aq bW (hr.mono (by first | decide | omega)) rfl bO bQ bV .nil az (aa (pv 0) ah))))
   (ai (cO (aK di (aH aG (pv 0) aj (fun _ _=>rfl)) aY (aP _)) (ay (aJ (dM Pc yy (hr.mono (by first | decide | omega)) rfl U.mgT yu .nil az (aa (aH cU (pv 1) aj (fun _ _=>rfl)) ah)))) bx)
   (ai (cO (aK di (aH aG (pv 0) aj (fun _ _=>rfl)) aY (aP _)) (ay (aJ (dM Tn AJ (hr.mono (by first | decide | omega)) rfl U.mgE AE .nil az (aa (pv 1) ah)))) bx)
   (ay (aJ (dM Xw BW (hr.mono (by first | decide | omega)) rfl U.mgO BN .nil az (aa (pv 1) ah)))))))),?_⟩
  cases c with
  | cmp a i s b m =>
   unfold bg at ht
   unfold Gd at hg
   obtain ⟨r,u,w,rfl,er,D1,D2⟩:=ht
   refine ⟨_,rfl,r,_,0,_,rfl,rfl,aV.of er,rfl,rfl,_,rfl,dF rfl ?_⟩
   refine ⟨_,rfl,r,_,1,_,rfl,rfl,aV.of er,rfl,u,a,i,rfl,D1,⟨hg.1.1,hg.1.2.1,hg.1.2.2.2⟩,fun x H1 s1 S1=>?_⟩
   refine ⟨_,rfl,r,_,2,_,rfl,rfl,aV.of (s1 _ _ er),rfl,?_⟩
   refine ⟨_,rfl,r,_,3,_,rfl,rfl,aV.of (s1 _ _ er),rfl,w,b,m,rfl,D2.same s1,⟨hg.2.2.1,hg.2.2.2.1,hg.2.2.2.2.2⟩,fun y H2 s2 S2=>?_⟩
   refine fun z dz hz oX ne3=>?_
   have g3:=cT (o:=.own z) (o':=.ins Y.z.c dz []) hz oX
   refine ⟨z,dz,x,y,s,rfl,af,fun H3 b2e e3=>⟨rfl,?_⟩⟩
   have s3:aF H2 H3:=fun b' o q=>b2e b' o (g3 _ _ q) (aB q hz)
   refine k (.ref z) H3 ((s1.trans s2).trans s3) ?_
   unfold cP
   exact ⟨z,dz,x,y,rfl,e3,(S1.same s2).same s3,S2.same s3⟩
  | neg c =>
   unfold bg at ht
   unfold Gd at hg
   obtain ⟨r,u,rfl,er,ht⟩:=ht
   refine ⟨_,rfl,r,_,0,_,rfl,rfl,aV.of er,rfl,rfl,_,rfl,bJ (bL (by decide +kernel)) ?_⟩
   refine ⟨_,rfl,_,rfl,r,_,rfl,aV.of er,Nj _ _,fun t uZ=>?_⟩
   rw [SY]
   have s1:=new (o:=.tup [u]) uZ
   refine ⟨t,rfl,⟨[u],aV.of af⟩,dj (xs:=[u]) (fun i ys H'=>aF (upd H t (.tup [u])) H'∧gj Y.z H' ([c].take i) ys) ⟨fun _ _ z=>z,(by unfold gj;rfl)⟩ (fun i ys H' _ q=>aV.of (q.1 _ _ af)) ?_ ?_⟩
   ·rintro i x ys H' hix ⟨sm,hc⟩
    have Ci:Paired (fun u c=>bg H c u) [u] [c]:=.cons ht .nil
    obtain ⟨c',iH,OP⟩:=bH Ci hix
    have e:c'=c:=List.mem_singleton.mp (List.mem_of_getElem? iH)
    subst e
    have qI:ys.length≤i:=by
     have z:=aA (dO.mp hc)
     rw [List.length_take] at z
     omega
    have il:i < 1:=(List.getElem?_eq_some_iff.mp iH).1
    refine ⟨Ext.one,jd ⟨_,rfl,x,c',xs,rfl,OP.ao (av.of (s1.trans sm)),(by unfold Cd.dep at hd;omega),hg,fun v' H1 yM hv=>⟨line _ (by omega),sm.trans yM,?_⟩⟩⟩
    rw [take_snoc iH]
    exact dO.mpr (bB (dO.mp (hc.ao (av.of yM))) hv)
   rintro ys H' ⟨sm,hc⟩ q hq
   have sq:=new (o:=.lst ys) hq
   have nZ:=sq _ _ (sm _ _ (s1 _ _ er))
   unfold gj at hc
   obtain ⟨v',rr,rfl,hv,hc⟩:=hc
   unfold gj at hc
   subst hc
   refine ⟨_,rfl,r,_,0,_,rfl,rfl,aV.of nZ,rfl,rfl,_,rfl,dF rfl ?_⟩
   refine ⟨_,rfl,q,_,0,_,rfl,rfl,ck.of af,rfl,fun x dx hx hdx ne=>?_⟩
   have g1:=cT (o:=.own x) (o':=.ins Y.z.t dx []) hx hdx
   refine ⟨x,dx,v',rfl,af,fun H3 but e1=>⟨rfl,?_⟩⟩
   have s3:aF H' H3:=fun b' o z=>but b' o (g1 _ _ (sq _ _ z)) (aB (sq _ _ z) hx)
   refine k (.ref x) H3 ((s1.trans sm).trans s3) ?_
   unfold cP
   exact ⟨x,dx,v',rfl,e1,hv.ao (av.of s3)⟩
  | con b cs =>
   unfold bg at ht
   unfold Gd at hg
   obtain ⟨r,us,rfl,er,ht⟩:=ht
   have Ci:=cL.mp ht
   have rV:us.length=cs.length:=aA Ci
   have lc3:=hg.1
   refine ⟨_,rfl,r,_,0,_,rfl,rfl,aV.of er,Cn _ _,rfl,_,rfl,bJ (bL (s:=IJ b) (by cases b <;> decide +kernel)) ?_⟩
   refine ⟨_,rfl,_,rfl,r,_,rfl,aV.of er,Nj _ _,fun t uZ=>?_⟩
   rw [SY]
   have s1:=new (o:=.tup us) uZ
   refine ⟨t,rfl,⟨us,aV.of af⟩,dj (xs:=us) (fun i ys H'=>aF (upd H t (.tup us)) H'∧gj Y.z H' (cs.take i) ys) ⟨fun _ _ z=>z,(by unfold gj;rfl)⟩ (fun i ys H' _ q=>aV.of (q.1 _ _ af)) ?_ ?_⟩
   ·rintro i x ys H' hix ⟨sm,hc⟩
    obtain ⟨c,iH,OP⟩:=bH Ci hix
    have Af:=(List.getElem?_eq_some_iff.mp iH).1
    have tR:=List.mem_of_getElem? iH
    have dd:c.dep≤n:=by
     have z:=wC tR
     unfold Cd.dep at hd
     omega
    have qI:ys.length≤i:=by
     have z:=aA (dO.mp hc)
     rw [List.length_take] at z
     omega
    refine ⟨Ext.one,jd ⟨_,rfl,x,c,xs,rfl,OP.ao (av.of (s1.trans sm)),dd,GI hg.2 tR,fun v' H1 yM hv=>⟨line _ (by omega),sm.trans yM,?_⟩⟩⟩
    rw [take_snoc iH]
    exact dO.mpr (bB (dO.mp (hc.ao (av.of yM))) hv)
   rintro ys H' ⟨sm,hc⟩ q hq
   rw [rV,List.take_length] at hc
   have qI:ys.length=cs.length:=aA (dO.mp hc)
   have sq:=new (o:=.lst ys) hq
   have nZ:=sq _ _ (sm _ _ (s1 _ _ er))
   cases b with
   | true =>
    refine ⟨_,rfl,r,_,0,_,rfl,rfl,aV.of nZ,Cn _ _,rfl,_,rfl,bJ (bL (s:=IJ true) (by decide +kernel)) ?_⟩
    refine ⟨_,rfl,r,_,0,_,rfl,rfl,aV.of nZ,Cn _ _,rfl,_,rfl,dF rfl ?_⟩
    refine ⟨_,rfl,fun x dx hx hdx ne=>?_⟩
    have g1:=cT (o:=.own x) (o':=.ins Y.z.e dx []) hx hdx
    refine ⟨x,dx,q,ys,rfl,af,g1 _ _ af,fun t' H2 but e1 e2=>⟨rfl,?_⟩⟩
    have s2:aF H' H2:=fun b' o z=>but b' o (g1 _ _ (sq _ _ z)) (aB (sq _ _ z) hx)
    refine k (.ref x) H2 ((s1.trans sm).trans s2) ?_
    unfold cP
    exact ⟨x,dx,t',ys,rfl,e1,e2,by omega,hc.ao (av.of s2)⟩
   | false =>
    refine ⟨_,rfl,r,_,0,_,rfl,rfl,aV.of nZ,Cn _ _,rfl,_,rfl,bJ (bL (s:=IJ false) (by decide +kernel)) ?_⟩
    refine ⟨_,rfl,r,_,0,_,rfl,rfl,aV.of nZ,Cn _ _,rfl,_,rfl,bJ (bL (s:=IJ false) (by decide +kernel)) ?_⟩
    refine ⟨_,rfl,fun x dx hx hdx ne=>?_⟩
    have g1:=cT (o:=.own x) (o':=.ins Y.z.o dx []) hx hdx
    refine ⟨x,dx,q,ys,rfl,af,g1 _ _ af,fun t' H2 but e1 e2=>⟨rfl,?_⟩⟩
    have s2:aF H' H2:=fun b' o z=>but b' o (g1 _ _ (sq _ _ z)) (aB (sq _ _ z) hx)
    refine k (.ref x) H2 ((s1.trans sm).trans s2) ?_
    unfold cP
    exact ⟨x,dx,t',ys,rfl,e1,e2,by omega,hc.ao (av.of s2)⟩
abbrev xg:Stmt:=top 49
theorem sQ:aO ["_law_pairs"] ["_law_pairs"] (ak xg):=⟨rfl,rfl,rfl,by decide +kernel,rfl,by decide +kernel,by decide +kernel⟩
theorem Rt {f:Addr} {fd:FuncData} {Y:Cy} {fS:Addr} {n:Nat} (F:fG K "_law_pairs_made" "_law_pairs_made" xg f fd) (T:Txt K mg Y.z.s) (U:fB K mg Y.z) (J:gD K mg Y fS) (aM:Dn P w K mg base 8 "_law_condition_made" ["_law_told"] (iM Y.z 3)):bT P w K mg base dX 9 f fd ["_law_pairs"] (sM Y.z):=by
 obtain ⟨dI,dh,bW,bO,bQ,bV⟩:=aM
 refine F.ok sQ (fun vs H Q E h=>?_) (fun cdv A outer s H vs Q E hr h=>?_)
 ·obtain ⟨v,hs,rfl,hP,hl,hg,k⟩:=h
  rfl
 ·obtain ⟨v,hs,rfl,hP,hl,hg,k⟩:=h
  have hu:=bq hr
  rw [show au xg=[_] from rfl]
  refine ⟨_,(ay (aJ (cS (bu ["_law_at","_law_one"] [] [] rfl (by decide +kernel) (by decide +kernel) (by with_unfolding_all rfl) (by exact trivial) (by rfl) rfl (by rfl)) rfl (gF (pv 0)) (fun _ _ _ _=>(tF (K:=K) (n:=2) rfl rfl (cC (aN (i:=0) (show List.Nodup (["_law_at","_law_one"]:List Str) by decide +kernel) rfl (Or.inl rfl) (Or.inr rfl)) (cC (aN (i:=1) (show List.Nodup (["_law_at","_law_one"]:List Str) by decide +kernel) rfl (Or.inl rfl) (Or.inr rfl)) kI)))) (fun _ _ _ _=>cI) (fun _ _ _ _=>(aQ (aa (pv 0) (aa (aq bW (hr.mono (by first | decide | omega)) rfl bO bQ bV .nil az (aa (pv 1) ah)) ah))))))),?_⟩
  obtain ⟨t,us,rfl,et,hp⟩:=hP
  have rV:=aA hp
  refine ⟨_,rfl,t,rfl,⟨us,aV.of et⟩,dj (xs:=us) (fun i ys H'=>aF H H'∧Paired (fun u (q:Int×Cd)=>∃ r w,u=V.ref r∧H' r=some (.tup [.int q.1,w])∧cP Y.z H' q.2 w) ys (hs.take i)) ⟨aF.refl _,.nil⟩ (fun i ys H' _ q=>aV.of (q.1 _ _ et)) ?_ ?_⟩
  ·rintro i x ys H' hix ⟨sm,py⟩
   obtain ⟨c,iH,r,w,rfl,er,hc⟩:=bH hp hix
   have tR:=List.mem_of_getElem? iH
   have Af:=(List.getElem?_eq_some_iff.mp iH).1
   have qI:ys.length≤i:=by
    rw [aA py,List.length_take]
    omega
   obtain ⟨⟨xs,hx⟩,hd⟩:=hg c tR
   refine ⟨r,_,rfl,aV.of (sm _ _ er),rfl,_,_,rfl,_,_,rfl,rfl,Ext.two,jd ⟨_,rfl,_,rfl,w,c.2,xs,rfl,hc.ao (av.of sm),hd,hx,fun v H1 s1 d=>⟨(szl 2),fun q hq=>⟨line _ (by omega),(sm.trans s1).trans (new hq),?_⟩⟩⟩⟩
   rw [take_snoc iH]
   exact bB (L2.Paired.dg py fun _ _ ⟨r',w',e,e',d'⟩=>⟨r',w',e,new hq _ _ (s1 _ _ e'),(d'.ao (av.of s1)).ao (av.of (new hq))⟩) ⟨q,v,rfl,af,d.ao (av.of (new hq))⟩
  ·rintro ys H' ⟨sm,py⟩ q hq
   rw [rV,List.take_length] at py
   exact k q ys _ (sm.trans (new hq)) (sm.free hq) af (L2.Paired.dg py fun _ _ ⟨r',w',e,e',d'⟩=>⟨r',w',e,new hq _ _ e',d'.ao (av.of (new hq))⟩)
abbrev pI:Stmt:=top 50
theorem sP:aO ["_law_steps_here"] ["_law_steps_here"] (ak pI):=⟨rfl,rfl,rfl,by decide +kernel,rfl,by decide +kernel,by decide +kernel⟩
theorem Gq {f:Addr} {fd:FuncData} {Y:Cy} {fS:Addr} {n:Nat} (F:fG K "_law_steps_made" "_law_steps_made" pI f fd) (T:Txt K mg Y.z.s) (U:fB K mg Y.z) (J:gD K mg Y fS) (BI:Dn P w K mg base (2*n+9) "_law_step_made" ["_law_told"] (A0 Y n)):bT P w K mg base dX (2*n+10) f fd ["_law_steps_here"] (nE Y n):=by
 obtain ⟨Qk,OS,BV,z0,Ab,BL⟩:=BI
 refine F.ok sP (fun vs H Q E h=>?_) (fun cdv A outer s H vs Q E hr h=>?_)
 ·obtain ⟨t,us,l,rfl,et,hP,ho,hd,hl,k⟩:=h
  rfl
 ·obtain ⟨t,us,l,rfl,et,hP,ho,hd,hl,k⟩:=h
  have hu:=bq hr
  rw [show au pI=[_] from rfl]
  refine ⟨_,(ay (aJ (cS (bu ["_law_step_here"] [] [] rfl (by decide +kernel) (by decide +kernel) (by with_unfolding_all rfl) (by exact trivial) (by rfl) rfl (by rfl)) rfl (gF (pv 0)) (fun _ _ _ _=>(aN (i:=0) (show List.Nodup (["_law_step_here"]:List Str) by decide +kernel) rfl (Or.inl rfl) (Or.inr rfl))) (fun _ _ _ _=>cI) (fun _ _ _ _=>(aq BV (hr.mono (by first | decide | omega)) rfl z0 Ab BL .nil az (aa (pv 0) ah)))))),?_⟩
  have hp:=iT.mp hP
  have rV:=aA hp
  refine ⟨_,rfl,t,rfl,⟨us,aV.of et⟩,dj (xs:=us) (fun i ys H'=>aF H H'∧iP Y H' (l.take i) ys) ⟨aF.refl _,(by unfold iP;rfl)⟩ (fun i ys H' _ q=>aV.of (q.1 _ _ et)) ?_ ?_⟩
  ·rintro i x ys H' hix ⟨sm,py⟩
   obtain ⟨c,iH,hx⟩:=bH hp hix
   have tR:=List.mem_of_getElem? iH
   have Af:=(List.getElem?_eq_some_iff.mp iH).1
   have dd:=qj tR
   have qI:ys.length≤i:=by
    rw [aA (eg.mp py),List.length_take]
    omega
   refine ⟨Ext.one,jd ⟨_,rfl,x,c,rfl,ie.ao (av.of sm) hx,tM ho tR,by omega,fun v H1 s1 hv=>⟨line _ (by omega),sm.trans s1,?_⟩⟩⟩
   rw [take_snoc iH]
   exact eg.mpr (bB (eg.mp (iP.ao (av.of s1) py)) hv)
  ·rintro ys H' ⟨sm,py⟩ q hq
   rw [rV,List.take_length] at py
   exact k q ys _ (sm.trans (new hq)) (sm.free hq) af (iP.ao (av.of (new hq)) py)
abbrev vC:Stmt:=top 51
theorem fH:aO ["_law_told","_law_kind","_law_at","_law_condition_here","_law_falls"] ["_law_told"] (ak vC):=⟨rfl,rfl,rfl,by decide +kernel,rfl,by decide +kernel,by decide +kernel⟩
theorem Ro {f:Addr} {fd:FuncData} {Y:Cy} {fS:Addr} {n:Nat} (F:fG K "_law_step_made" "_law_step_made" vC f fd) (T:Txt K mg Y.z.s) (U:fB K mg Y.z) (J:gD K mg Y fS) (jx:Dn P w K mg base 4 "_law_sum_made" ["_law_one"] (qv Y.z)) (aM:Dn P w K mg base 8 "_law_condition_made" ["_law_told"] (iM Y.z 3)) (jP:Dn P w K mg base 9 "_law_pairs_made" ["_law_pairs"] (sM Y.z)) (bR:Dn P w K mg base (2*n+10) "_law_steps_made" ["_law_steps_here"] (nE Y n)) (Na:Mr P w K mg base 2 Y.lt ["self","at","name","total"] (vz Y 0)) (Nf:Mr P w K mg base 2 Y.dv ["self","at","name","word","total","by"] (Gb Y 1)) (Nc:Mr P w K mg base 2 Y.ft ["self","at","name","row","place"] (vv Y 2)) (M6:Mr P w K mg base 2 Y.pt ["self","at","row","place","total"] (vv Y 3)) (M8:Mr P w K mg base 2 Y.mq ["self","at","row","size"] (vz Y 4)) (jA:Mr P w K mg base 2 Y.cm ["self","at","condition"] (qF Y 5)) (Ng:Mr P w K mg base 2 Y.cl ["self","at","names","helper","given"] (Ge Y)) (jB:Mr P w K mg base 2 Y.ch ["self","at","condition","then","other"] (qG Y)) (jz:Mr P w K mg base 2 Y.rp ["self","at","condition","keeps","falls","body"] (qE Y)):bT P w K mg base dX (2*n+11) f fd ["_law_told"] (A0 Y (n+1)):=by
 obtain ⟨Fl,By,e8,dR,dU,eZ⟩:=jx
 obtain ⟨dI,dh,bW,bO,bQ,bV⟩:=aM
 obtain ⟨Al,yp,lR,kL,kN,lO⟩:=jP
 obtain ⟨iu,gG,dD,cX,cY,dB⟩:=bR
 obtain ⟨b5N,a8H,FF,b4o,Fv⟩:=Na
 obtain ⟨b5Q,a8K,yC,Pe,yw⟩:=Nf
 obtain ⟨b5P,a8J,AI,Tj,AD⟩:=Nc
 obtain ⟨b5L,a8F,FE,b4n,Ft⟩:=M6
 obtain ⟨b5M,a8G,BX,Xx,BO⟩:=M8
 obtain ⟨yY,ve,gE,qt,gC⟩:=jA
 obtain ⟨b5R,a8L,BY,Xy,BP⟩:=Ng
 obtain ⟨yZ,vf,fF,nC,fz⟩:=jB
 obtain ⟨yX,u7,fE,nB,fu⟩:=jz
 refine F.ok fH (fun vs H Q E h=>?_) (fun cdv A outer s H vs Q E hr h=>?_)
 ·obtain ⟨v,s,rfl,hP,ho,hd,k⟩:=h
  rfl
 ·obtain ⟨v,s,rfl,hP,ho,hd,k⟩:=h
  have hu:=bq hr
  rw [show au vC=[_,_,_,_,_,_,_,_,_,_,_,_,_] from rfl]
  refine ⟨_,(ai (xr (fO o8 (pv 0) kH (eX aj)) (uG rfl (cC (aN (i:=1) fH.nd rfl (Or.inl rfl)) (cC (aN (i:=2) fH.nd rfl (Or.inl rfl)) kI))))
   (ai (cO (aK di (pv 1) aY (aP _)) (ay (aJ (dM b4o FF (hr.mono (by first | decide | omega)) rfl J.mg0 Fv .nil az (aa (pv 2) (aa (aH aG (pv 0) aj (fun _ _=>rfl)) (aa (aq e8 (hr.mono (by first | decide | omega)) rfl dR dU eZ .nil az (aa (aH aG (pv 0) aj (fun _ _=>rfl)) ah)) ah)))))) bx)
   (ai (cO (aK di (pv 1) aY (aP _)) (ay (aJ (dM Pe yC (hr.mono (by first | decide | omega)) rfl J.mg1 yw .nil az (aa (pv 2) (aa (aH aG (pv 0) aj (fun _ _=>rfl)) (aa (aH aG (pv 0) aj (fun _ _=>rfl)) (aa (aq e8 (hr.mono (by first | decide | omega)) rfl dR dU eZ .nil az (aa (aH aG (pv 0) aj (fun _ _=>rfl)) ah)) (aa (aq e8 (hr.mono (by first | decide | omega)) rfl dR dU eZ .nil az (aa (aH aG (pv 0) aj (fun _ _=>rfl)) ah)) ah)))))))) bx)
   (ai (cO (aK di (pv 1) aY (aP _)) (ay (aJ (dM Tj AI (hr.mono (by first | decide | omega)) rfl J.mg2 AD .nil az (aa (pv 2) (aa (aH aG (pv 0) aj (fun _ _=>rfl)) (aa (aH aG (pv 0) aj (fun _ _=>rfl)) (aa (aq e8 (hr.mono (by first | decide | omega)) rfl dR dU eZ .nil az (aa (aH aG (pv 0) aj (fun _ _=>rfl)) ah)) ah))))))) bx)
   (ai (cO (aK di (pv 1) aY (aP _)) (ay (aJ (dM b4n FE (hr.mono (by first | decide | omega)) rfl J.mg3 Ft .nil az (aa (pv 2) (aa (aH aG (pv 0) aj (fun _ _=>rfl)) (aa (aq e8 (hr.mono (by first | decide | omega)) rfl dR dU eZ .nil az (aa (aH aG (pv 0) aj (fun _ _=>rfl)) ah)) (aa (aq e8 (hr.mono (by first | decide | omega)) rfl dR dU eZ .nil az (aa (aH aG (pv 0) aj (fun _ _=>rfl)) ah)) ah))))))) bx)
   (ai (cO (aK di (pv 1) aY (aP _)) (ay (aJ (dM Xx BX (hr.mono (by first | decide | omega)) rfl J.mg4 BO .nil az (aa (pv 2) (aa (aH aG (pv 0) aj (fun _ _=>rfl)) (aa (aq e8 (hr.mono (by first | decide | omega)) rfl dR dU eZ .nil az (aa (aH aG (pv 0) aj (fun _ _=>rfl)) ah)) ah)))))) bx)
   (ai (cO (aK di (pv 1) aY (aP _)) (ay (aJ (dM qt gE (hr.mono (by first | decide | omega)) rfl J.mg5 gC .nil az (aa (pv 2) (aa (aq bW (hr.mono (by first | decide | omega)) rfl bO bQ bV .nil az (aa (aH aG (pv 0) aj (fun _ _=>rfl)) ah)) ah))))) bx)
   (ai (cO (aK di (pv 1) aY (aP _)) (ay (aJ (dM Xy BY (hr.mono (by first | decide | omega)) rfl J.mg6 BP .nil az (aa (pv 2) (aa (aS ja (by rfl) T.list boot_list (aa (aH aG (pv 0) aj (fun _ _=>rfl)) ah)) (aa (aH aG (pv 0) aj (fun _ _=>rfl)) (aa (cS (bu ["_law_one"] [] [] rfl (by decide +kernel) (by decide +kernel) (by with_unfolding_all rfl) (by exact trivial) (by rfl) rfl (by rfl)) rfl (gF (aH aG (pv 0) aj (fun _ _=>rfl))) (fun _ _ _ _=>(aN (i:=0) (show List.Nodup (["_law_one"]:List Str) by decide +kernel) rfl (Or.inl rfl) (Or.inr rfl))) (fun _ _ _ _=>cI) (fun _ _ _ _=>(aq e8 (hr.mono (by first | decide | omega)) rfl dR dU eZ .nil az (aa (pv 0) ah)))) ah))))))) bx)
   (ai (aR (i:=3) fH.nd rfl (Or.inl rfl) (aq bW (hr.mono (by first | decide | omega)) rfl bO bQ bV .nil az (aa (aH aG (pv 0) aj (fun _ _=>rfl)) ah)))
   (ai (cO (aK di (pv 1) aY (aP _)) (ay (aJ (dM nC fF (hr.mono (by first | decide | omega)) rfl J.mg7 fz .nil az (aa (pv 2) (aa (pv 3) (aa (aq dD (hr.mono (by first | decide | omega)) rfl cX cY dB .nil az (aa (aH aG (pv 0) aj (fun _ _=>rfl)) ah)) (aa (aq dD (hr.mono (by first | decide | omega)) rfl cX cY dB .nil az (aa (aH aG (pv 0) aj (fun _ _=>rfl)) ah)) ah))))))) bx)
   (ai (aR (i:=4) fH.nd rfl (Or.inl rfl) j9)
   (ai (cO (aK tH (aH aG (pv 0) aj (fun _ _=>rfl)) j9 (aP _)) (ay (aR (i:=4) fH.nd rfl (Or.inl rfl) (aQ (aa (aH aG (aH aG (pv 0) aj (fun _ _=>rfl)) aj (fun _ _=>rfl)) (aa (aq e8 (hr.mono (by first | decide | omega)) rfl dR dU eZ .nil az (aa (aH aG (aH aG (pv 0) aj (fun _ _=>rfl)) aj (fun _ _=>rfl)) ah)) ah))))) bx)
   (ay (aJ (dM nB fE (hr.mono (by first | decide | omega)) rfl J.mg8 fu .nil az (aa (pv 2) (aa (pv 3) (aa (aq lR (hr.mono (by first | decide | omega)) rfl kL kN lO .nil az (aa (aH aG (pv 0) aj (fun _ _=>rfl)) ah)) (aa (pv 4) (aa (aq dD (hr.mono (by first | decide | omega)) rfl cX cY dB .nil az (aa (aH aG (pv 0) aj (fun _ _=>rfl)) ah)) ah)))))))))))))))))))),?_⟩
  cases s with
  | flat kk at_ as =>
   unfold ie at hP
   unfold cV.ok at ho
   obtain ⟨r,us,rfl,er,pp⟩:=hP
   have sh:=ho.1
   match kk,sh,er,ho with
   | 0,sh,er,ho =>
    obtain ⟨x0,a1,m1,rfl⟩:=sh
    cases pp with
    | cons h0 pp =>
     cases pp with
     | cons h1 pp =>
     cases pp
     have hok:=ho.2
     have h0:_=V.str x0:=h0
     subst h0
     obtain ⟨r1,rfl,D1⟩:=h1
     have g1:yb a1 m1:=hok (.sm a1 m1) (by simp)
     refine ⟨_,rfl,_,rfl,r,_,rfl,aV.of er,tW (by simp),fun t uZ=>?_⟩
     rw [Az]
     have s0:=new (o:=.tup [.str (kw 0),.int at_]) uZ
     refine ⟨t,_,rfl,aV.of af,rfl,_,_,rfl,_,_,rfl,rfl,?_⟩
     refine ⟨_,rfl,rfl,_,rfl,dF rfl ?_⟩
     refine ⟨_,rfl,?_⟩
     refine ⟨_,rfl,r,_,2,_,rfl,rfl,aV.of (s0 _ _ er),rfl,?_⟩
     refine ⟨_,rfl,r,_,3,_,rfl,rfl,aV.of (s0 _ _ er),rfl,r1,a1,m1,rfl,D1.same s0,g1,fun u1 H1 s1 S1=>?_⟩
     refine fun z dz hz oX ne=>?_
     have g9:=cT (o:=.own z) (o':=.ins (gH Y 0) dz []) hz oX
     refine ⟨z,dz,at_,.str x0,.ref u1,rfl,af,fun H9 but e9=>⟨rfl,?_⟩⟩
     have s9:aF H1 H9:=fun b' o q=>but b' o (g9 _ _ q) (aB q hz)
     refine k (.ref z) H9 ((s0.trans s1).trans s9) ?_
     unfold cD
     exact ⟨z,dz,_,rfl,ho.1,e9,(.cons (rfl) (.cons (⟨u1,rfl,S1.same (s9)⟩) .nil))⟩
   | 1,sh,er,ho =>
    obtain ⟨x0,x1,a2,m2,a3,m3,rfl⟩:=sh
    cases pp with
    | cons h0 pp =>
     cases pp with
     | cons h1 pp =>
      cases pp with
      | cons h2 pp =>
       cases pp with
       | cons h3 pp =>
       cases pp
       have hok:=ho.2
       have h0:_=V.str x0:=h0
       subst h0
       have h1:_=V.str x1:=h1
       subst h1
       obtain ⟨r2,rfl,D2⟩:=h2
       have g2:yb a2 m2:=hok (.sm a2 m2) (by simp)
       obtain ⟨r3,rfl,D3⟩:=h3
       have g3:yb a3 m3:=hok (.sm a3 m3) (by simp)
       refine ⟨_,rfl,_,rfl,r,_,rfl,aV.of er,tW (by simp),fun t uZ=>?_⟩
       rw [Az]
       have s0:=new (o:=.tup [.str (kw 1),.int at_]) uZ
       refine ⟨t,_,rfl,aV.of af,rfl,_,_,rfl,_,_,rfl,rfl,?_⟩
       refine ⟨_,rfl,rfl,_,rfl,bJ (bL (by decide +kernel)) ?_⟩
       refine ⟨_,rfl,rfl,_,rfl,dF rfl ?_⟩
       refine ⟨_,rfl,?_⟩
       refine ⟨_,rfl,r,_,2,_,rfl,rfl,aV.of (s0 _ _ er),rfl,?_⟩
       refine ⟨_,rfl,r,_,3,_,rfl,rfl,aV.of (s0 _ _ er),rfl,?_⟩
       refine ⟨_,rfl,r,_,4,_,rfl,rfl,aV.of (s0 _ _ er),rfl,r2,a2,m2,rfl,D2.same s0,g2,fun u2 H1 s1 S2=>?_⟩
       refine ⟨_,rfl,r,_,5,_,rfl,rfl,aV.of ((s0.trans s1) _ _ er),rfl,r3,a3,m3,rfl,D3.same (s0.trans s1),g3,fun u3 H2 s2 S3=>?_⟩
       refine fun z dz hz oX ne=>?_
       have g9:=cT (o:=.own z) (o':=.ins (gH Y 1) dz []) hz oX
       refine ⟨z,dz,at_,.str x0,.str x1,.ref u2,.ref u3,rfl,af,fun H9 but e9=>⟨rfl,?_⟩⟩
       have s9:aF H2 H9:=fun b' o q=>but b' o (g9 _ _ q) (aB q hz)
       refine k (.ref z) H9 (((s0.trans s1).trans s2).trans s9) ?_
       unfold cD
       exact ⟨z,dz,_,rfl,ho.1,e9,(.cons (rfl) (.cons (rfl) (.cons (⟨u2,rfl,S2.same (s2.trans (s9))⟩) (.cons (⟨u3,rfl,S3.same (s9)⟩) .nil))))⟩
   | 2,sh,er,ho =>
    obtain ⟨x0,x1,a2,m2,rfl⟩:=sh
    cases pp with
    | cons h0 pp =>
     cases pp with
     | cons h1 pp =>
      cases pp with
      | cons h2 pp =>
      cases pp
      have hok:=ho.2
      have h0:_=V.str x0:=h0
      subst h0
      have h1:_=V.str x1:=h1
      subst h1
      obtain ⟨r2,rfl,D2⟩:=h2
      have g2:yb a2 m2:=hok (.sm a2 m2) (by simp)
      refine ⟨_,rfl,_,rfl,r,_,rfl,aV.of er,tW (by simp),fun t uZ=>?_⟩
      rw [Az]
      have s0:=new (o:=.tup [.str (kw 2),.int at_]) uZ
      refine ⟨t,_,rfl,aV.of af,rfl,_,_,rfl,_,_,rfl,rfl,?_⟩
      refine ⟨_,rfl,rfl,_,rfl,bJ (bL (by decide +kernel)) ?_⟩
      refine ⟨_,rfl,rfl,_,rfl,bJ (bL (by decide +kernel)) ?_⟩
      refine ⟨_,rfl,rfl,_,rfl,dF rfl ?_⟩
      refine ⟨_,rfl,?_⟩
      refine ⟨_,rfl,r,_,2,_,rfl,rfl,aV.of (s0 _ _ er),rfl,?_⟩
      refine ⟨_,rfl,r,_,3,_,rfl,rfl,aV.of (s0 _ _ er),rfl,?_⟩
      refine ⟨_,rfl,r,_,4,_,rfl,rfl,aV.of (s0 _ _ er),rfl,r2,a2,m2,rfl,D2.same s0,g2,fun u2 H1 s1 S2=>?_⟩
      refine fun z dz hz oX ne=>?_
      have g9:=cT (o:=.own z) (o':=.ins (gH Y 2) dz []) hz oX
      refine ⟨z,dz,at_,.str x0,.str x1,.ref u2,rfl,af,fun H9 but e9=>⟨rfl,?_⟩⟩
      have s9:aF H1 H9:=fun b' o q=>but b' o (g9 _ _ q) (aB q hz)
      refine k (.ref z) H9 ((s0.trans s1).trans s9) ?_
      unfold cD
      exact ⟨z,dz,_,rfl,ho.1,e9,(.cons (rfl) (.cons (rfl) (.cons (⟨u2,rfl,S2.same (s9)⟩) .nil)))⟩
   | 3,sh,er,ho =>
    obtain ⟨x0,a1,m1,a2,m2,rfl⟩:=sh
    cases pp with
    | cons h0 pp =>
     cases pp with
     | cons h1 pp =>
      cases pp with
      | cons h2 pp =>
      cases pp
      have hok:=ho.2
      have h0:_=V.str x0:=h0
      subst h0
      obtain ⟨r1,rfl,D1⟩:=h1
      have g1:yb a1 m1:=hok (.sm a1 m1) (by simp)
      obtain ⟨r2,rfl,D2⟩:=h2
      have g2:yb a2 m2:=hok (.sm a2 m2) (by simp)
      refine ⟨_,rfl,_,rfl,r,_,rfl,aV.of er,tW (by simp),fun t uZ=>?_⟩
      rw [Az]
      have s0:=new (o:=.tup [.str (kw 3),.int at_]) uZ
      refine ⟨t,_,rfl,aV.of af,rfl,_,_,rfl,_,_,rfl,rfl,?_⟩
      refine ⟨_,rfl,rfl,_,rfl,bJ (bL (by decide +kernel)) ?_⟩
      refine ⟨_,rfl,rfl,_,rfl,bJ (bL (by decide +kernel)) ?_⟩
      refine ⟨_,rfl,rfl,_,rfl,bJ (bL (by decide +kernel)) ?_⟩
      refine ⟨_,rfl,rfl,_,rfl,dF rfl ?_⟩
      refine ⟨_,rfl,?_⟩
      refine ⟨_,rfl,r,_,2,_,rfl,rfl,aV.of (s0 _ _ er),rfl,?_⟩
      refine ⟨_,rfl,r,_,3,_,rfl,rfl,aV.of (s0 _ _ er),rfl,r1,a1,m1,rfl,D1.same s0,g1,fun u1 H1 s1 S1=>?_⟩
      refine ⟨_,rfl,r,_,4,_,rfl,rfl,aV.of ((s0.trans s1) _ _ er),rfl,r2,a2,m2,rfl,D2.same (s0.trans s1),g2,fun u2 H2 s2 S2=>?_⟩
      refine fun z dz hz oX ne=>?_
      have g9:=cT (o:=.own z) (o':=.ins (gH Y 3) dz []) hz oX
      refine ⟨z,dz,at_,.str x0,.ref u1,.ref u2,rfl,af,fun H9 but e9=>⟨rfl,?_⟩⟩
      have s9:aF H2 H9:=fun b' o q=>but b' o (g9 _ _ q) (aB q hz)
      refine k (.ref z) H9 (((s0.trans s1).trans s2).trans s9) ?_
      unfold cD
      exact ⟨z,dz,_,rfl,ho.1,e9,(.cons (rfl) (.cons (⟨u1,rfl,S1.same (s2.trans (s9))⟩) (.cons (⟨u2,rfl,S2.same (s9)⟩) .nil)))⟩
   | 4,sh,er,ho =>
    obtain ⟨x0,a1,m1,rfl⟩:=sh
    cases pp with
    | cons h0 pp =>
     cases pp with
     | cons h1 pp =>
     cases pp
     have hok:=ho.2
     have h0:_=V.str x0:=h0
     subst h0
     obtain ⟨r1,rfl,D1⟩:=h1
     have g1:yb a1 m1:=hok (.sm a1 m1) (by simp)
     refine ⟨_,rfl,_,rfl,r,_,rfl,aV.of er,tW (by simp),fun t uZ=>?_⟩
     rw [Az]
     have s0:=new (o:=.tup [.str (kw 4),.int at_]) uZ
     refine ⟨t,_,rfl,aV.of af,rfl,_,_,rfl,_,_,rfl,rfl,?_⟩
     refine ⟨_,rfl,rfl,_,rfl,bJ (bL (by decide +kernel)) ?_⟩
     refine ⟨_,rfl,rfl,_,rfl,bJ (bL (by decide +kernel)) ?_⟩
     refine ⟨_,rfl,rfl,_,rfl,bJ (bL (by decide +kernel)) ?_⟩
     refine ⟨_,rfl,rfl,_,rfl,bJ (bL (by decide +kernel)) ?_⟩
     refine ⟨_,rfl,rfl,_,rfl,dF rfl ?_⟩
     refine ⟨_,rfl,?_⟩
     refine ⟨_,rfl,r,_,2,_,rfl,rfl,aV.of (s0 _ _ er),rfl,?_⟩
     refine ⟨_,rfl,r,_,3,_,rfl,rfl,aV.of (s0 _ _ er),rfl,r1,a1,m1,rfl,D1.same s0,g1,fun u1 H1 s1 S1=>?_⟩
     refine fun z dz hz oX ne=>?_
     have g9:=cT (o:=.own z) (o':=.ins (gH Y 4) dz []) hz oX
     refine ⟨z,dz,at_,.str x0,.ref u1,rfl,af,fun H9 but e9=>⟨rfl,?_⟩⟩
     have s9:aF H1 H9:=fun b' o q=>but b' o (g9 _ _ q) (aB q hz)
     refine k (.ref z) H9 ((s0.trans s1).trans s9) ?_
     unfold cD
     exact ⟨z,dz,_,rfl,ho.1,e9,(.cons (rfl) (.cons (⟨u1,rfl,S1.same (s9)⟩) .nil))⟩
   | 5,sh,er,ho =>
    obtain ⟨c0,rfl⟩:=sh
    cases pp with
    | cons h0 pp =>
    cases pp
    have hok:=ho.2
    have h0:bg H c0 _:=h0
    have gc0:FJ c0:=hok (.cd c0) (by simp)
    refine ⟨_,rfl,_,rfl,r,_,rfl,aV.of er,tW (by simp),fun t uZ=>?_⟩
    rw [Az]
    have s0:=new (o:=.tup [.str (kw 5),.int at_]) uZ
    refine ⟨t,_,rfl,aV.of af,rfl,_,_,rfl,_,_,rfl,rfl,?_⟩
    refine ⟨_,rfl,rfl,_,rfl,bJ (bL (by decide +kernel)) ?_⟩
    refine ⟨_,rfl,rfl,_,rfl,bJ (bL (by decide +kernel)) ?_⟩
    refine ⟨_,rfl,rfl,_,rfl,bJ (bL (by decide +kernel)) ?_⟩
    refine ⟨_,rfl,rfl,_,rfl,bJ (bL (by decide +kernel)) ?_⟩
    refine ⟨_,rfl,rfl,_,rfl,bJ (bL (by decide +kernel)) ?_⟩
    refine ⟨_,rfl,rfl,_,rfl,dF rfl ?_⟩
    refine ⟨_,rfl,?_⟩
    obtain ⟨⟨xs0,hx0⟩,hd0⟩:=gc0
    refine ⟨_,rfl,r,_,2,_,rfl,rfl,aV.of (s0 _ _ er),rfl,_,c0,xs0,rfl,h0.ao (av.of s0),hd0,hx0,fun u0 H1 s1 S0=>?_⟩
    refine fun z dz hz oX ne=>?_
    have g9:=cT (o:=.own z) (o':=.ins (gH Y 5) dz []) hz oX
    refine ⟨z,dz,at_,u0,rfl,af,fun H9 but e9=>⟨rfl,?_⟩⟩
    have s9:aF H1 H9:=fun b' o q=>but b' o (g9 _ _ q) (aB q hz)
    refine k (.ref z) H9 ((s0.trans s1).trans s9) ?_
    unfold cD
    exact ⟨z,dz,_,rfl,ho.1,e9,(.cons (S0.ao (av.of (s9))) .nil)⟩
   | 6,sh,er,ho =>
    obtain ⟨l0,x1,q2,rfl⟩:=sh
    cases pp with
    | cons h0 pp =>
     cases pp with
     | cons h1 pp =>
      cases pp with
      | cons h2 pp =>
      cases pp
      have hok:=ho.2
      obtain ⟨r0,rfl,VU⟩:=h0
      have gl0:l0.length≤20:=hok (.N3 l0) (by simp)
      have h1:_=V.str x1:=h1
      subst h1
      obtain ⟨r2,PJ,rfl,NX,Rb⟩:=h2
      have gq2:q2.length≤20∧∀ q∈q2,yb q.1 q.2:=hok (.Oc q2) (by simp)
      refine ⟨_,rfl,_,rfl,r,_,rfl,aV.of er,tW (by simp),fun t uZ=>?_⟩
      rw [Az]
      have s0:=new (o:=.tup [.str (kw 6),.int at_]) uZ
      refine ⟨t,_,rfl,aV.of af,rfl,_,_,rfl,_,_,rfl,rfl,?_⟩
      refine ⟨_,rfl,rfl,_,rfl,bJ (bL (by decide +kernel)) ?_⟩
      refine ⟨_,rfl,rfl,_,rfl,bJ (bL (by decide +kernel)) ?_⟩
      refine ⟨_,rfl,rfl,_,rfl,bJ (bL (by decide +kernel)) ?_⟩
      refine ⟨_,rfl,rfl,_,rfl,bJ (bL (by decide +kernel)) ?_⟩
      refine ⟨_,rfl,rfl,_,rfl,bJ (bL (by decide +kernel)) ?_⟩
      refine ⟨_,rfl,rfl,_,rfl,bJ (bL (by decide +kernel)) ?_⟩
      refine ⟨_,rfl,rfl,_,rfl,dF rfl ?_⟩
      refine ⟨_,rfl,?_⟩
      refine ⟨_,rfl,r,_,2,_,rfl,rfl,aV.of (s0 _ _ er),rfl,r0,_,rfl,.inr (aV.of (s0 _ _ VU)),fun ll YZ=>?_⟩
      have s1:=s0.trans (new (o:=.lst (l0.map V.str)) YZ)
      refine ⟨_,rfl,r,_,3,_,rfl,rfl,aV.of (s1 _ _ er),rfl,?_⟩
      have lz:=aA Rb
      refine ⟨_,rfl,r,_,4,_,rfl,rfl,aV.of (s1 _ _ er),rfl,r2,rfl,⟨PJ,aV.of (s1 _ _ NX)⟩,dj (xs:=PJ) (fun i ys H'=>aF (upd (upd H t (.tup [.str (kw 6),.int at_])) ll (.lst (l0.map V.str))) H'∧Paired (Iw Y.z H') ys (q2.take i)) ⟨aF.refl _,.nil⟩ (fun i ys H' _ q=>aV.of (q.1 _ _ (s1 _ _ NX))) ?_ ?_⟩
      ·rintro i x ys H' hix ⟨sm,py⟩
       obtain ⟨c,iH,px,rfl,hx⟩:=bH Rb hix
       have tR:=List.mem_of_getElem? iH
       have Af:=(List.getElem?_eq_some_iff.mp iH).1
       have qI:ys.length≤i:=by
        rw [aA py,List.length_take]
        omega
       refine ⟨Ext.one,jd ⟨_,rfl,px,c.1,c.2,rfl,hx.same (s1.trans sm),gq2.2 c tR,fun u H1 yM S=>⟨line _ (by omega),sm.trans yM,?_⟩⟩⟩
       rw [take_snoc iH]
       exact bB (L2.Paired.dg py fun _ _ z=>z.ao (av.of yM)) ⟨u,rfl,S⟩
      rintro ys H' ⟨sm,py⟩ q hq
      rw [lz,List.take_length] at py
      have qI:=aA py
      have s2:=(s1.trans sm).trans (new (o:=.lst ys) hq)
      have IS:=new (o:=.lst ys) hq _ _ (sm _ _ (show upd (upd H t (.tup [.str (kw 6),.int at_])) ll (.lst (l0.map V.str)) ll=some (.lst (l0.map V.str)) from af))
      refine fun z dz hz oX ne=>?_
      have g9:=cT (o:=.own z) (o':=.ins (gH Y 6) dz []) hz oX
      refine ⟨z,dz,ll,q,at_,.str x1,l0.map V.str,ys,rfl,af,g9 _ _ IS,g9 _ _ af,fun t1 t2 H9 but e9 E1 E2=>⟨rfl,?_⟩⟩
      have s9:aF (upd H' q (.lst ys)) H9:=fun b' o q=>but b' o (g9 _ _ q) (aB q hz)
      refine k (.ref z) H9 (s2.trans s9) ?_
      unfold cD
      exact ⟨z,dz,_,rfl,ho.1,e9,.cons ⟨t1,rfl,E1⟩ (.cons rfl (.cons ⟨t2,ys,rfl,E2,by omega,L2.Paired.dg py fun _ _ z=>z.ao (av.of ((new hq).trans s9))⟩ .nil))⟩
  | ny at_ c t e =>
   unfold ie at hP
   unfold cV.ok at ho
   unfold cV.dep at hd
   obtain ⟨r,uc,t1,t2,us,ws,rfl,er,hc,e1,h1,e2,h2⟩:=hP
   refine ⟨_,rfl,_,rfl,r,_,rfl,aV.of er,tW (by simp),fun tt uZ=>?_⟩
   rw [Az]
   have s0:=new (o:=.tup [.str "choose",.int at_]) uZ
   refine ⟨tt,_,rfl,aV.of af,rfl,_,_,rfl,_,_,rfl,rfl,?_⟩
   refine ⟨_,rfl,rfl,_,rfl,bJ (bL (by decide +kernel)) ?_⟩
   refine ⟨_,rfl,rfl,_,rfl,bJ (bL (by decide +kernel)) ?_⟩
   refine ⟨_,rfl,rfl,_,rfl,bJ (bL (by decide +kernel)) ?_⟩
   refine ⟨_,rfl,rfl,_,rfl,bJ (bL (by decide +kernel)) ?_⟩
   refine ⟨_,rfl,rfl,_,rfl,bJ (bL (by decide +kernel)) ?_⟩
   refine ⟨_,rfl,rfl,_,rfl,bJ (bL (by decide +kernel)) ?_⟩
   refine ⟨_,rfl,rfl,_,rfl,bJ (bL (by decide +kernel)) ?_⟩
   obtain ⟨⟨xs,hx⟩,hcd⟩:=ho.1
   refine ⟨_,rfl,r,_,2,_,rfl,rfl,aV.of (s0 _ _ er),rfl,uc,c,xs,rfl,hc.ao (av.of s0),hcd,hx,fun vc H1 s1 C1=>?_⟩
   have sA:=s0.trans s1
   refine ⟨_,rfl,rfl,_,rfl,dF rfl ?_⟩
   refine ⟨_,rfl,_,rfl,_,rfl,r,_,3,_,rfl,rfl,aV.of (sA _ _ er),rfl,t1,us,t,rfl,sA _ _ e1,h1.ao (av.of sA),ho.2.2.2.1,by omega,ho.2.1,fun q1 AQ H2 s2 f2 E1 P1=>?_⟩
   have sB:=sA.trans s2
   refine ⟨_,rfl,r,_,4,_,rfl,rfl,aV.of (sB _ _ er),rfl,t2,ws,e,rfl,sB _ _ e2,h2.ao (av.of sB),ho.2.2.2.2,by omega,ho.2.2.1,fun q2 ur H3 s3 f3 E2 P2=>?_⟩
   refine fun z dz hz oX ne=>?_
   have g9:=cT (o:=.own z) (o':=.ins Y.ch dz []) hz oX
   refine ⟨z,dz,q1,q2,at_,vc,AQ,ur,rfl,af,g9 _ _ (s3 _ _ E1),g9 _ _ E2,fun t1' vP H9 but e9 F1 F2=>⟨rfl,?_⟩⟩
   have s9:aF H3 H9:=fun b' o q=>but b' o (g9 _ _ q) (aB q hz)
   have l1:=aA (eg.mp P1)
   have l2:=aA (eg.mp P2)
   have m1:=ho.2.1
   have m2:=ho.2.2.1
   refine k (.ref z) H9 ((sB.trans s3).trans s9) ?_
   unfold cD
   exact ⟨z,dz,vc,t1',vP,AQ,ur,rfl,e9,C1.ao (av.of ((s2.trans s3).trans s9)),F1,by omega,P1.ao (av.of (s3.trans s9)),F2,by omega,P2.ao (av.of s9)⟩
  | rep at_ c hs f b =>
   unfold ie at hP
   unfold cV.ok at ho
   unfold cV.dep at hd
   obtain ⟨r,uc,uh,uf,t2,ws,rfl,er,hc,hh,hf,e2,h2⟩:=hP
   refine ⟨_,rfl,_,rfl,r,_,rfl,aV.of er,tW (by simp),fun tt uZ=>?_⟩
   rw [Az]
   have s0:=new (o:=.tup [.str "repeat",.int at_]) uZ
   refine ⟨tt,_,rfl,aV.of af,rfl,_,_,rfl,_,_,rfl,rfl,?_⟩
   refine ⟨_,rfl,rfl,_,rfl,bJ (bL (by decide +kernel)) ?_⟩
   refine ⟨_,rfl,rfl,_,rfl,bJ (bL (by decide +kernel)) ?_⟩
   refine ⟨_,rfl,rfl,_,rfl,bJ (bL (by decide +kernel)) ?_⟩
   refine ⟨_,rfl,rfl,_,rfl,bJ (bL (by decide +kernel)) ?_⟩
   refine ⟨_,rfl,rfl,_,rfl,bJ (bL (by decide +kernel)) ?_⟩
   refine ⟨_,rfl,rfl,_,rfl,bJ (bL (by decide +kernel)) ?_⟩
   refine ⟨_,rfl,rfl,_,rfl,bJ (bL (by decide +kernel)) ?_⟩
   obtain ⟨⟨xs,hx⟩,hcd⟩:=ho.1
   refine ⟨_,rfl,r,_,2,_,rfl,rfl,aV.of (s0 _ _ er),rfl,uc,c,xs,rfl,hc.ao (av.of s0),hcd,hx,fun vc H1 s1 C1=>?_⟩
   have sA:=s0.trans s1
   refine ⟨_,rfl,rfl,_,rfl,bJ (bL (by decide +kernel)) ?_⟩
   cases f with
   | none =>
    have hf:uf=V.eT:=hf
    subst hf
    refine ⟨_,rfl,r,_,4,_,rfl,rfl,aV.of (sA _ _ er),rfl,rfl,_,rfl,nu rfl ?_⟩
    refine ⟨_,rfl,_,rfl,_,rfl,r,_,3,_,rfl,rfl,aV.of (sA _ _ er),rfl,uh,hs,rfl,hh.ao (av.of sA),ho.2.1,ho.2.2.1,fun q1 AQ H2 s2 f2 E1 P1=>?_⟩
    have sB:=sA.trans s2
    refine ⟨_,rfl,?_⟩
    refine ⟨_,rfl,r,_,5,_,rfl,rfl,aV.of (sB _ _ er),rfl,t2,ws,b,rfl,sB _ _ e2,h2.ao (av.of sB),ho.2.2.2.2.2,by omega,ho.2.2.2.2.1,fun q2 ur H3 s3 f3 E2 P2=>?_⟩
    refine fun z dz hz oX ne=>?_
    have g9:=cT (o:=.own z) (o':=.ins Y.rp dz []) hz oX
    have l1:=aA P1
    have l2:=aA (eg.mp P2)
    have m1:=ho.2.1
    have m2:=ho.2.2.2.2.1
    have tp:∀ u∈AQ,∃ r xs,u=V.ref r∧upd (upd H3 dz (.own z)) z (.ins Y.rp dz []) r=some (.tup xs):=fun u hu=>by
     obtain ⟨i,hi⟩:=List.mem_iff_getElem?.mp hu
     obtain ⟨c',_,r',w',e',nZ,_⟩:=bH P1 hi
     exact ⟨r',_,e',g9 _ _ (s3 _ _ nZ)⟩
    refine ⟨z,dz,q1,q2,at_,vc,.eT,AQ,ur,rfl,af,g9 _ _ (s3 _ _ E1),by omega,tp,g9 _ _ E2,fun t1' vP H9 but e9 F1 F2=>⟨rfl,?_⟩⟩
    have s9:aF H3 H9:=fun b' o q=>but b' o (g9 _ _ q) (aB q hz)
    refine k (.ref z) H9 ((sB.trans s3).trans s9) ?_
    unfold cD
    exact ⟨z,dz,vc,.ref t1',.eT,vP,ur,rfl,e9,C1.ao (av.of ((s2.trans s3).trans s9)),⟨t1',AQ,rfl,F1,by omega,L2.Paired.dg P1 fun _ _ ⟨r',w',e',nZ,d'⟩=>⟨r',w',e',(s3.trans s9) _ _ nZ,d'.ao (av.of (s3.trans s9))⟩⟩,rfl,F2,by omega,P2.ao (av.of s9)⟩
   | some q =>
    obtain ⟨rf,df,rfl,OV,Df⟩:=hf
    refine ⟨_,rfl,r,_,4,_,rfl,rfl,aV.of (sA _ _ er),rfl,rfl,_,rfl,pZ (fun z=>by cases z) ?_⟩
    refine ⟨_,rfl,r,_,4,_,rfl,rfl,aV.of (sA _ _ er),rfl,rf,_,0,_,rfl,rfl,aV.of (sA _ _ OV),rfl,?_⟩
    refine ⟨_,rfl,r,_,4,_,rfl,rfl,aV.of (sA _ _ er),rfl,rf,_,1,_,rfl,rfl,aV.of (sA _ _ OV),rfl,df,q.2.1,q.2.2,rfl,Df.same sA,ho.2.2.2.1 q rfl,fun uq Hq sq Sq0=>?_⟩
    refine ⟨(szl 2),fun qf R4=>?_⟩
    have sF:=sq.trans (new (o:=.tup [.int q.1,.ref uq]) R4)
    have C1:=C1.ao (av.of sF)
    have sA:=sA.trans sF
    have Sf:=Sq0.same (new (o:=.tup [.int q.1,.ref uq]) R4)
    have VW:upd Hq qf (.tup [.int q.1,.ref uq]) qf=some (.tup [.int q.1,.ref uq]):=af
    generalize upd Hq qf (.tup [.int q.1,.ref uq])=H1 at sF C1 sA Sf VW ⊢
    refine ⟨_,rfl,_,rfl,_,rfl,r,_,3,_,rfl,rfl,aV.of (sA _ _ er),rfl,uh,hs,rfl,hh.ao (av.of sA),ho.2.1,ho.2.2.1,fun q1 AQ H2 s2 f2 E1 P1=>?_⟩
    have sB:=sA.trans s2
    refine ⟨_,rfl,?_⟩
    refine ⟨_,rfl,r,_,5,_,rfl,rfl,aV.of (sB _ _ er),rfl,t2,ws,b,rfl,sB _ _ e2,h2.ao (av.of sB),ho.2.2.2.2.2,by omega,ho.2.2.2.2.1,fun q2 ur H3 s3 f3 E2 P2=>?_⟩
    refine fun z dz hz oX ne=>?_
    have g9:=cT (o:=.own z) (o':=.ins Y.rp dz []) hz oX
    have l1:=aA P1
    have l2:=aA (eg.mp P2)
    have m1:=ho.2.1
    have m2:=ho.2.2.2.2.1
    have tp:∀ u∈AQ,∃ r xs,u=V.ref r∧upd (upd H3 dz (.own z)) z (.ins Y.rp dz []) r=some (.tup xs):=fun u hu=>by
     obtain ⟨i,hi⟩:=List.mem_iff_getElem?.mp hu
     obtain ⟨c',_,r',w',e',nZ,_⟩:=bH P1 hi
     exact ⟨r',_,e',g9 _ _ (s3 _ _ nZ)⟩
    refine ⟨z,dz,q1,q2,at_,vc,(.ref qf),AQ,ur,rfl,af,g9 _ _ (s3 _ _ E1),by omega,tp,g9 _ _ E2,fun t1' vP H9 but e9 F1 F2=>⟨rfl,?_⟩⟩
    have s9:aF H3 H9:=fun b' o q=>but b' o (g9 _ _ q) (aB q hz)
    refine k (.ref z) H9 ((sB.trans s3).trans s9) ?_
    unfold cD
    exact ⟨z,dz,vc,.ref t1',(.ref qf),vP,ur,rfl,e9,C1.ao (av.of ((s2.trans s3).trans s9)),⟨t1',AQ,rfl,F1,by omega,L2.Paired.dg P1 fun _ _ ⟨r',w',e',nZ,d'⟩=>⟨r',w',e',(s3.trans s9) _ _ nZ,d'.ao (av.of (s3.trans s9))⟩⟩,⟨qf,uq,rfl,((s2.trans s3).trans s9) _ _ VW,Sf.same ((s2.trans s3).trans s9)⟩,F2,by omega,P2.ao (av.of s9)⟩
abbrev xm:Stmt:=top 52
theorem jq:aO ["_law_told","_law_steps_here","_law_needs"] ["_law_told"] (ak xm):=⟨rfl,rfl,rfl,by decide +kernel,rfl,by decide +kernel,by decide +kernel⟩
theorem RB {f:Addr} {fd:FuncData} {Y:Cy} {fS:Addr} {n:Nat} (F:fG K "_law_helper_made" "_law_helper_made" xm f fd) (T:Txt K mg Y.z.s) (U:fB K mg Y.z) (J:gD K mg Y fS) (bR:Dn P w K mg base 16 "_law_steps_made" ["_law_steps_here"] (nE Y 3)) (jP:Dn P w K mg base 9 "_law_pairs_made" ["_law_pairs"] (sM Y.z)) (Wa:Mr P w K mg base 2 Y.hp ["self","at","name","params","answers","needs","gives","steps"] (Jy Y)):bT P w K mg base dX 17 f fd ["_law_told"] (vq Y):=by
 obtain ⟨iu,gG,dD,cX,cY,dB⟩:=bR
 obtain ⟨Al,yp,lR,kL,kN,lO⟩:=jP
 obtain ⟨b5O,a8I,yz,Pd,yv⟩:=Wa
 refine F.ok jq (fun vs H Q E h=>?_) (fun cdv A outer s H vs Q E hr h=>?_)
 ·obtain ⟨v,h,rfl,hT,ho,k⟩:=h
  rfl
 ·obtain ⟨v,h,rfl,hT,ho,k⟩:=h
  have hu:=bq hr
  rw [show au xm=[_,_,_] from rfl]
  refine ⟨_,(ai (aR (i:=1) jq.nd rfl (Or.inl rfl) (aq dD (hr.mono (by first | decide | omega)) rfl cX cY dB .nil az (aa (aH aG (pv 0) aj (fun _ _=>rfl)) ah)))
   (ai (aR (i:=2) jq.nd rfl (Or.inl rfl) (aq lR (hr.mono (by first | decide | omega)) rfl kL kN lO .nil az (aa (aH aG (pv 0) aj (fun _ _=>rfl)) ah)))
   (ay (aJ (dM Pd yz (hr.mono (by first | decide | omega)) rfl J.mgH yv .nil az (aa (aH aG (pv 0) aj (fun _ _=>rfl)) (aa (aH aG (pv 0) aj (fun _ _=>rfl)) (aa (aS ja (by rfl) T.list boot_list (aa (aH aG (pv 0) aj (fun _ _=>rfl)) ah)) (aa (aS ja (by rfl) T.list boot_list (aa (aH aG (pv 0) aj (fun _ _=>rfl)) ah)) (aa (pv 2) (aa (aq lR (hr.mono (by first | decide | omega)) rfl kL kN lO .nil az (aa (aH aG (pv 0) aj (fun _ _=>rfl)) ah)) (aa (pv 1) ah)))))))))))),?_⟩
  obtain ⟨r,t1,t2,v1,v2,t3,us,rfl,er,e1,e2,h1,h2,e3,h3⟩:=hT
  refine ⟨_,rfl,r,_,7,_,rfl,rfl,aV.of er,rfl,t3,us,h.st,rfl,e3,h3,ho.st,ho.dp,ho.sl,fun q1 AQ H1 s1 f1 E1 P1=>?_⟩
  refine ⟨_,rfl,r,_,5,_,rfl,rfl,aV.of (s1 _ _ er),rfl,v1,h.nd,rfl,h1.ao (av.of s1),ho.nl,ho.nd,fun q2 ur H2 s2 f2 E2 P2=>?_⟩
  have sA:=s1.trans s2
  refine ⟨_,rfl,r,_,1,_,rfl,rfl,aV.of (sA _ _ er),rfl,?_⟩
  refine ⟨_,rfl,r,_,2,_,rfl,rfl,aV.of (sA _ _ er),rfl,?_⟩
  refine ⟨_,rfl,r,_,3,_,rfl,rfl,aV.of (sA _ _ er),rfl,t1,_,rfl,.inr (aV.of (sA _ _ e1)),fun l1 hl1=>?_⟩
  have s3:=sA.trans (new (o:=.lst (h.ps.map V.str)) hl1)
  refine ⟨_,rfl,r,_,4,_,rfl,rfl,aV.of (s3 _ _ er),rfl,t2,_,rfl,.inr (aV.of (s3 _ _ e2)),fun l2 hl2=>?_⟩
  have s4:=s3.trans (new (o:=.lst (h.an.map V.str)) hl2)
  have s24:aF H2 (upd (upd H2 l1 (.lst (h.ps.map V.str))) l2 (.lst (h.an.map V.str))):=aF.new (new hl1) hl2
  have NY:upd (upd H2 l1 (.lst (h.ps.map V.str))) l2 (.lst (h.an.map V.str)) l1=some (.lst (h.ps.map V.str)):=new hl2 _ _ af
  have IS:upd (upd H2 l1 (.lst (h.ps.map V.str))) l2 (.lst (h.an.map V.str)) l2=some (.lst (h.an.map V.str)):=af
  generalize upd (upd H2 l1 (.lst (h.ps.map V.str))) l2 (.lst (h.an.map V.str))=H4 at s4 s24 NY IS ⊢
  refine ⟨_,rfl,?_⟩
  refine ⟨_,rfl,r,_,6,_,rfl,rfl,aV.of (s4 _ _ er),rfl,v2,h.gv,rfl,h2.ao (av.of s4),ho.gl,ho.gv,fun q5 Uh H5 s5 f5 E5 P5=>?_⟩
  refine ⟨_,rfl,?_⟩
  refine fun z dz hz oX ne=>?_
  have g9:=cT (o:=.own z) (o':=.ins Y.hp dz []) hz oX
  have Yj:=aA (eg.mp P1)
  have Yi:=aA P2
  have ll5:=aA P5
  have n1:=ho.nl
  have n2:=ho.gl
  have n3:=ho.sl
  have TJ:=s24.trans s5
  have tp2:∀ u∈ur,∃ r xs,u=V.ref r∧upd (upd H5 dz (.own z)) z (.ins Y.hp dz []) r=some (.tup xs):=fun u hu=>by
   obtain ⟨i,hi⟩:=List.mem_iff_getElem?.mp hu
   obtain ⟨c',_,r',w',e',nZ,_⟩:=bH P2 hi
   exact ⟨r',_,e',g9 _ _ (TJ _ _ nZ)⟩
  have tp5:∀ u∈Uh,∃ r xs,u=V.ref r∧upd (upd H5 dz (.own z)) z (.ins Y.hp dz []) r=some (.tup xs):=fun u hu=>by
   obtain ⟨i,hi⟩:=List.mem_iff_getElem?.mp hu
   obtain ⟨c',_,r',w',e',nZ,_⟩:=bH P5 hi
   exact ⟨r',_,e',g9 _ _ nZ⟩
  refine ⟨z,dz,l1,l2,q2,q5,q1,h,ur,Uh,AQ,rfl,af,g9 _ _ (s5 _ _ NY),g9 _ _ (s5 _ _ IS),g9 _ _ (TJ _ _ E2),by omega,tp2,g9 _ _ E5,by omega,tp5,g9 _ _ (TJ _ _ (s2 _ _ E1)),fun t1' vP t3' t4' t5' H9 but e9 F1 F2 F3 F4 F5=>⟨rfl,?_⟩⟩
  have s9:aF H5 H9:=fun b' o q=>but b' o (g9 _ _ q) (aB q hz)
  refine k (.ref z) H9 ((s4.trans s5).trans s9) ⟨z,dz,t1',vP,.ref t3',.ref t4',t5',AQ,rfl,e9,F1,F2,⟨t3',ur,rfl,F3,by omega,L2.Paired.dg P2 fun _ _ ⟨r',w',e',nZ,d'⟩=>⟨r',w',e',(TJ.trans s9) _ _ nZ,d'.ao (av.of (TJ.trans s9))⟩⟩,⟨t4',Uh,rfl,F4,by omega,L2.Paired.dg P5 fun _ _ ⟨r',w',e',nZ,d'⟩=>⟨r',w',e',s9 _ _ nZ,d'.ao (av.of s9)⟩⟩,F5,by omega,P1.ao (av.of ((s2.trans TJ).trans s9))⟩
abbrev ow:Stmt:=top 38
theorem zA:aO ["_law_helpers"] ["_law_helpers"] (ak ow):=⟨rfl,rfl,rfl,by decide +kernel,rfl,by decide +kernel,by decide +kernel⟩
theorem K0 {f:Addr} {fd:FuncData} {Y:Cy} {fS:Addr} {n:Nat} (F:fG K "_law_plain" "_law_plain" ow f fd) (T:Txt K mg Y.z.s) (U:fB K mg Y.z) (J:gD K mg Y fS) :bT P w K mg base dX 1 f fd ["_law_helpers"] ig:=by
 refine F.ok zA (fun vs H Q E h=>?_) (fun cdv A outer s H vs Q E hr h=>?_)
 ·obtain ⟨p,us,hs,rfl,hH,k⟩:=h
  rfl
 ·obtain ⟨p,us,hs,rfl,hH,k⟩:=h
  have hu:=bq hr
  rw [show au ow=[_] from rfl]
  refine ⟨_,(ay (aJ (cS (bu ["_law_one"] [] [] rfl (by decide +kernel) (by decide +kernel) (by with_unfolding_all rfl) (by exact trivial) (by rfl) rfl (by rfl)) rfl (jj (pv 0)) (fun _ _ _ _=>(aN (i:=0) (show List.Nodup (["_law_one"]:List Str) by decide +kernel) rfl (Or.inl rfl) (Or.inr rfl))) (fun _ _ _ _=>(sZ (aK (EW (K:=K) rfl (uN hr)) (cS (bu ["_law_param"] [] [] rfl (by decide +kernel) (by decide +kernel) (by with_unfolding_all rfl) (by exact trivial) (by rfl) rfl (by rfl)) rfl (Oh (K:=K) rfl (aH (Gx (K:=K) rfl) (pv 0) aj (fun _ _=>rfl))) (fun _ _ _ _=>(aN (i:=0) (show List.Nodup (["_law_param"]:List Str) by decide +kernel) rfl (Or.inl rfl) (Or.inr rfl))) (fun _ _ _ _=>(sZ (aK di (aH uX (pv 0) aj (fun _ _=>rfl)) aY (aP _)))) (fun _ _ _ _=>(pv 0))) (cZ ah) (aP _)))) (fun _ _ _ _=>(pv 0))))),?_⟩
  obtain ⟨ep,hp,hg,hl⟩:=hH
  have rV:=aA hp
  refine ⟨_,rfl,p,rfl,⟨us,ck.of ep⟩,gu (xs:=us) (fun i ys H'=>aF H H'∧ys.length≤i) ⟨aF.refl _,Nat.le_refl _⟩ (fun i ys H' _ q=>ck.of (q.1 _ _ ep)) ?_ ?_⟩
  ·rintro i x ys H' hix ⟨sm,qI⟩
   obtain ⟨h,hhi,hx⟩:=bH hp hix
   have hm:=List.mem_of_getElem? hhi
   have Af:=(List.getElem?_eq_some_iff.mp hhi).1
   obtain ⟨r,t1,t2,v1,v2,t3,Z3,rfl,er,e1,_⟩:=hx
   have gn:=(hg h hm).nm.ps
   have gl:=(hg h hm).ok.ps
   refine ⟨Ext.one,?_⟩
   refine ⟨_,rfl,r,_,1,_,rfl,rfl,aV.of (sm _ _ er),rfl,t1,rfl,⟨_,aV.of (sm _ _ e1)⟩,dj (xs:=h.ps.map V.str) (fun j zs H2=>aF H' H2∧zs.length≤j) ⟨aF.refl _,Nat.le_refl _⟩ (fun j zs H2 _ q=>aV.of (q.1 _ _ (sm _ _ e1))) ?_ ?_⟩
   ·rintro j y zs H2 hj ⟨s2,lz⟩
    have hjl:j < h.ps.length:=by have:=(List.getElem?_eq_some_iff.mp hj).1;rw [List.length_map] at this;exact this
    rw [jE hjl] at hj
    cases hj
    obtain ⟨n1,n2⟩:=gn h.ps[j] (List.getElem_mem hjl)
    obtain ⟨c,hc⟩:=FU n1
    refine ⟨Ext.one,_,rfl,_,0,c,rfl,rfl,Nat.le_of_lt (line _ (by omega)),hc,rfl,_,rfl,?_⟩
    refine vX (fun hb=>?_) fun hb=>?_
    ·exact ⟨_,rfl,line _ (by omega),s2,by rw [List.length_append];show zs.length+1≤j+1;omega⟩
    ·exact ⟨s2,by omega⟩
   rintro zs H2 ⟨s2,lz⟩ q hq
   refine ⟨(Nat.zero_le _),fun q2 hq2=>?_⟩
   refine ⟨q,q2,_,rfl,rfl,ck.of (new hq2 _ _ af),ck.of af,_,rfl,?_⟩
   have sC:=(sm.trans (s2.trans (new (o:=.lst zs) hq))).trans (new (o:=.lst []) hq2)
   refine vX (fun hb=>?_) fun hb=>?_
   ·exact ⟨_,rfl,line _ (by omega),sC,by rw [List.length_append];show ys.length+1≤i+1;omega⟩
   ·exact ⟨sC,by omega⟩
  rintro ys H' ⟨sm,qI⟩ q hq
  exact k q ys _ (sm.trans (new hq)) af
abbrev kU:Stmt:=top 40
theorem zz:aO ["_law_draw","_law_own","_law_many","_law_deep","_law_helpers"] ["_law_draw","_law_own","_law_many","_law_deep","_law_helpers"] (ak kU):=⟨rfl,rfl,rfl,by decide +kernel,rfl,by decide +kernel,by decide +kernel⟩
theorem yR {f:Addr} {fd:FuncData} {Y:Cy} {fS:Addr} {n:Nat} (F:fG K "_law_steps" "_law_steps" kU f fd) (T:Txt K mg Y.z.s) (U:fB K mg Y.z) (J:gD K mg Y fS) (SV:Dn P w K mg base (2*n+6) "_law_step" ["_law_draw","_law_own","_law_deep","_law_helpers"] (sO n)):bT P w K mg base dX (2*n+7) f fd ["_law_draw","_law_own","_law_many","_law_deep","_law_helpers"] (fL n):=by
 obtain ⟨a8N,Y8,Tq,OA,OE,Tc⟩:=SV
 refine F.ok zz (fun vs H Q E h=>?_) (fun cdv A outer s H vs Q E hr h=>?_)
 ·obtain ⟨d,p,q,m,kk,o,us,hs,rfl,hk,hm,hd,hO,ho,hH,k⟩:=h
  rfl
 ·obtain ⟨d,p,q,m,kk,o,us,hs,rfl,hk,hm,hd,hO,ho,hH,k⟩:=h
  have hu:=bq hr
  rw [show au kU=[_] from rfl]
  refine ⟨_,(ay (aJ (aS aI (by rfl) T.tuple boot_tuple (aa (cS (bu ["_law_k"] ["_law_draw","_law_own","_law_deep","_law_helpers"] [0,1,3,4] rfl (by decide +kernel) (by decide +kernel) (by with_unfolding_all rfl) (by exact ⟨rfl,rfl,rfl,rfl,trivial⟩) (by rfl) rfl (by rfl)) rfl (gT rfl T.range (aa (pv 2) ah)) (fun _ _ _ _=>(aN (i:=0) (show List.Nodup (["_law_k","_law_draw","_law_own","_law_deep","_law_helpers"]:List Str) by decide +kernel) rfl (Or.inl rfl) (Or.inr rfl))) (fun _ _ _ _=>cI) (fun _ _ _ _=>(aq Tq (hr.mono (by first | decide | omega)) rfl OA OE Tc .nil az (aa (pv 1) (aa (pv 2) (aa (pv 3) (aa (pv 4) ah))))))) ah)))),?_⟩
  refine ⟨_,rfl,(m:Int),rfl,by omega,by omega,kC (n:=(m:Int).toNat) (fun i ys H'=>bE d H H'∧Dr H' d∧∃ l:List cV,jZ H' l ys∧vF l∧ku l≤kk+1∧l.length=i) ⟨fun _ _ z _=>z,hd,[],(by unfold jZ;rfl),(by unfold vF;trivial),Nat.zero_le _,rfl⟩ ?_ ?_⟩
  ·rintro i ys H' hi ⟨F,D,l,hR,ok',dp,ll⟩
   have qI:=aA (j8.mp hR)
   refine ⟨Ext.one,jd ⟨_,rfl,_,rfl,_,rfl,_,rfl,d,p,q,kk,o,us,hs,rfl,hk,D,hO.next hd F,ho,hH.next hd F,fun v s H1 b1 d1 hv o1 e1=>⟨line _ (by omega),F.trans b1,d1,l++[s],?_,xA ok' o1,?_,?_⟩⟩⟩
   ·exact j8.mpr (bB (j8.mp (jZ.ao (D.soft b1) hR)) hv)
   ·rw [qz];omega
   ·rw [List.length_append,ll];rfl
  rintro ys H' ⟨F,D,l,hR,ok',dp,ll⟩ q1 hq
  refine ⟨q1,_,rfl,.inl ⟨ck.of af,fun r hr'=>?_⟩⟩
  have s3:aF H' (upd (upd H' q1 (.lst ys)) r (.tup ys)):=aF.new (new hq) hr'
  exact k r ys l _ ((F.new hq).new hr') (D.same s3) af (jZ.ao (av.of s3) hR) ok' dp (by rw [ll];omega)
abbrev oz:Stmt:=top 39
theorem ic:aO ["_law_draw","_law_own","_law_helper_here","_law_names_here","_law_things","_law_makes","_law_uses","_law_answers","_law_given","_law_param"] ["_law_draw","_law_own","_law_helper_here"] (ak oz):=⟨rfl,rfl,rfl,by decide +kernel,rfl,by decide +kernel,by decide +kernel⟩
theorem Lk {f:Addr} {fd:FuncData} {Y:Cy} {fS:Addr} {n:Nat} (F:fG K "_law_call" "_law_call" oz f fd) (T:Txt K mg Y.z.s) (U:fB K mg Y.z) (J:gD K mg Y fS) (bI:Dn P w K mg base 2 "_law_next" ["_law_draw","_law_size"] eS) (cH:Dn P w K mg base 3 "_law_sum" ["_law_draw","_law_things"] iJ):bT P w K mg base dX 4 f fd ["_law_draw","_law_own","_law_helper_here"] ir:=by
 obtain ⟨iw,fc,bA,aT,aU,bz⟩:=bI
 obtain ⟨lF,jm,iZ,fQ,fU,iY⟩:=cH
 refine F.ok ic (fun vs H Q E h=>?_) (fun cdv A outer s H vs Q E hr h=>?_)
 ·obtain ⟨d,p,v,o,h,rfl,hd,hO,ho,hR,hg,k⟩:=h
  rfl
 ·obtain ⟨d,p,v,o,h,rfl,hd,hO,ho,hR,hg,k⟩:=h
  have hu:=bq hr
  rw [show au oz=[_,_,_,_,_,_] from rfl]
  refine ⟨_,(ai (xr (pv 1) (uG rfl (cC (aN (i:=3) ic.nd rfl (Or.inl rfl)) (cC (aN (i:=4) ic.nd rfl (Or.inl rfl)) (cC (aN (i:=5) ic.nd rfl (Or.inl rfl)) (cC (aN (i:=6) ic.nd rfl (Or.inl rfl)) kI))))))
   (ai (aR (i:=7) ic.nd rfl (Or.inl rfl) (aH aG (pv 2) aj (fun _ _=>rfl)))
   (ai (cO (aK KP (bF bZ (by rfl) T.len PySem.boot_len (aa (pv 7) ah)) (bF bZ (by rfl) T.len PySem.boot_len (aa (pv 3) ah)) (aP _)) (ay (aJ (aQ (aa aY (aa (aH cU (pv 3) aj (fun _ _=>rfl)) (aa (aq iZ (hr.mono (by first | decide | omega)) rfl fQ fU iY .nil az (aa (pv 0) (aa (pv 4) ah))) ah)))))) bx)
   (ai (aR (i:=8) ic.nd rfl (Or.inl rfl) (cZ ah))
   (ai (oE PassesOwn.never rfl (gF (aH aG (pv 2) aj (fun _ _=>rfl))) (aN (i:=9) ic.nd rfl (Or.inl rfl)) (ay (cO (aK di (aH uX (pv 9) aj (fun _ _=>rfl)) aY (aP _)) (ay (gO (q9 PySem.F.plainAttrs_list PySem.F.slot_list_append PySem.F.type_list_append lU (pv 8) (aa (aQ (aa (aQ (aa (aQ (aa (bX kg aY (aH cU (pv 6) (aq bA (hr.mono (by first | decide | omega)) rfl aT aU bz .nil az (aa (pv 0) (aa (bF bZ (by rfl) T.len PySem.boot_len (aa (pv 6) ah)) ah))) (fun _ _=>rfl))) (aa aj ah))) ah)) (aa aj ah))) ah)))) (ay (gO (q9 PySem.F.plainAttrs_list PySem.F.slot_list_append PySem.F.type_list_append lU (pv 8) (aa (aq iZ (hr.mono (by first | decide | omega)) rfl fQ fU iY .nil az (aa (pv 0) (aa (pv 4) ah))) ah)))))))
   (ay (aJ (aQ (aa aY (aa (aS aI (by rfl) T.tuple boot_tuple (aa (fO oh (pv 3) kH (eX (bF bZ (by rfl) T.len PySem.boot_len (aa (pv 7) ah)))) ah)) (aa (aH aG (pv 2) aj (fun _ _=>rfl)) (aa (aS aI (by rfl) T.tuple boot_tuple (aa (pv 8) ah)) ah)))))))))))),?_⟩
  obtain ⟨a1,a2,a3,a4,eo,ea,eb,ec,ee⟩:=id hO
  obtain ⟨r,t1,t2,v1,v2,t3,Z3,rfl,er,e1,e2,_⟩:=id hR
  have two:2≤sizeLine:=Nat.le_of_lt (line 2 (by decide))
  have one:1≤sizeLine:=Nat.le_of_lt (line 1 (by decide))
  have w1:=ho.w1
  have w9:=ho.w9
  have lan:=hg.ok.an
  have lps:=hg.ok.ps
  refine ⟨_,rfl,p,_,rfl,aV.of eo,rfl,_,_,rfl,_,_,rfl,_,_,rfl,_,_,rfl,rfl,?_⟩
  refine ⟨_,rfl,r,_,2,_,rfl,rfl,aV.of er,rfl,?_⟩
  refine ⟨_,rfl,t2,_,rfl,.inr (aV.of e2),_,rfl,a1,_,rfl,.inl (ck.of ea),_,_,rfl,rfl,_,rfl,?_⟩
  refine vX (fun hb=>?_) fun hb=>?_
  ·refine ⟨_,rfl,a1,_,0,_,rfl,rfl,ck.of ea,bN (j:=0) (jE (by omega)),?_⟩
   refine ⟨_,rfl,_,rfl,d,a2,o.th,rfl,hd,eb,(by have:=ho.t9;omega),ho.tl,fun rs ts m H1 b1 d1 D1 C1 L1 _ S1=>⟨(szl 3),fun q hq=>?_⟩⟩
   refine k (.ref q) (.flat 0 0 [.tx o.ws[0],.sm ts m]) _ (b1.new hq) (d1.same (new hq)) ?_ (by unfold cV.ok;exact ⟨⟨_,_,_,rfl⟩,fun a ha=>by rcases List.mem_cons.mp ha with h | h;(rw [h];trivial);(rw [List.mem_singleton.mp h];exact ⟨C1,L1,S1⟩)⟩) rfl
   unfold qp
   exact ⟨q,_,rfl,af,.cons rfl (.cons ⟨rs,rfl,D1.same (new hq)⟩ .nil)⟩
  refine ⟨(Nat.zero_le _),fun G hG=>?_⟩
  have nGd:G≠d:=hd.ne hG
  have sG:=new (o:=.lst []) hG
  have nG4:a4≠G:=aB ee hG
  have nG2:a2≠G:=aB eb hG
  refine ⟨_,rfl,r,_,1,_,rfl,rfl,aV.of (sG _ _ er),rfl,t1,rfl,⟨_,aV.of (sG _ _ e1)⟩,Ai (xs:=h.ps.map V.str) (fun i σ H'=>∃ (k9:Option V) (us:List V) (qs:List (Ps×Int)),σ=[some (.ref d),some (.ref p),some (.ref r),some (.ref a1),some (.ref a2),some (.ref a3),some (.ref a4),some (.ref t2),some (.ref G),k9]∧bE d H H'∧Dr H' d∧H' G=some (.lst us)∧Paired (ua H') us qs∧(∀ q∈qs,yb q.1 q.2)∧qs.length=i) ⟨none,[],[],rfl,bE.of sG,hd.same sG,af,.nil,(fun _ h=>nomatch h),rfl⟩ ?_ ?_ ?_⟩
  ·rintro i σ H' _ ⟨k9,us,qs,rfl,F,D,eG,pq,gq,lq⟩
   exact aV.of ((hd.soft F).t _ _ e1)
  ·rintro i x σ H' hi ⟨k9,us,qs,rfl,F,D,eG,pq,gq,lq⟩
   have hil:i < h.ps.length:=by have:=(List.getElem?_eq_some_iff.mp hi).1;rw [List.length_map] at this;exact this
   rw [jE hil] at hi
   cases hi
   obtain ⟨n1,n2⟩:=hg.nm.ps h.ps[i] (List.getElem_mem hil)
   obtain ⟨c,hc⟩:=FU n1
   have rV:=aA pq
   have ee':=F _ _ ee (aW hd ee)
   have eb':=F _ _ eb (aW hd eb)
   have fin:∀ (rq:Addr) (ts:Ps) (m:Int) (H1:Hp),bE d H H1→Dr H1 d→av H' H1→H1 G=some (.lst us)→eW H1 rq ts m→yb ts m→∃ (k9:Option V) (us':List V) (qs':List (Ps×Int)),[some (V.ref d),some (.ref p),some (.ref r),some (.ref a1),some (.ref a2),some (.ref a3),some (.ref a4),some (.ref t2),some (.ref G),some (.str h.ps[i])]=[some (.ref d),some (.ref p),some (.ref r),some (.ref a1),some (.ref a2),some (.ref a3),some (.ref a4),some (.ref t2),some (.ref G),k9]∧bE d H (upd H1 G (.lst (us++[.ref rq])))∧Dr (upd H1 G (.lst (us++[.ref rq]))) d∧upd H1 G (.lst (us++[.ref rq])) G=some (.lst us')∧Paired (ua (upd H1 G (.lst (us++[.ref rq])))) us' qs'∧(∀ q∈qs',yb q.1 q.2)∧qs'.length=i+1:=fun rq ts m H1 F1 D1 k1 SN Dq gg=>by
    have bG:bE G H1 (upd H1 G (.lst (us++[.ref rq]))):=bE.upd
    have kG:av H1 (upd H1 G (.lst (us++[.ref rq]))):=av.soft bG SN zx
    refine ⟨_,us++[.ref rq],qs++[(ts,m)],rfl,fun b' o' e' n'=>?_,let ⟨x,y,e⟩:=D1;⟨x,y,bG _ _ e nGd.symm⟩,af,bB (L2.Paired.dg pq fun _ _ z=>(z.ao k1).ao kG) ⟨rq,rfl,Dq.ao kG⟩,fun q hq=>?_,by rw [List.length_append,lq];rfl⟩
    ·rw [aX (aB e' hG)];exact F1 b' o' e' n'
    ·rcases List.mem_append.mp hq with z | z
     ·exact gq q z
     ·rw [List.mem_singleton.mp z];exact gg
   refine ⟨_,rfl,_,0,c,rfl,rfl,Nat.le_of_lt (line _ (by omega)),hc,rfl,_,rfl,?_⟩
   refine vX (fun hb=>?_) fun hb=>?_
   ·have u1:=ho.u1
    have u9:=ho.u9
    refine ⟨_,rfl,.inl ⟨rfl,_,ck.of eG⟩,_,rfl,_,rfl,_,rfl,a4,_,rfl,.inl (ck.of ee'),d,(o.us.length:Int),(congrArg (fun z:Nat=>[V.ref d,V.int (z:Int)]) (List.length_map ..)),D,by omega,fun r1 H1 h1 b1 d1=>?_⟩
    have hr1:r1 < o.us.length:=by omega
    have ul:=ho.ul _ (List.getElem_mem hr1)
    have ee1:=b1 _ _ ee' (aW D ee')
    refine ⟨a4,_,_,_,rfl,rfl,ck.of ee1,bN (jE hr1),_,_,rfl,rfl,(by show 1+_≤_;exact Nat.le_of_lt (line _ (by omega))),two,fun x1 Vl=>⟨one,fun x2 hx2=>⟨two,fun x3 hx3=>?_⟩⟩⟩
    have s3:=((new (o:=.tup [.str (("#":Str)++o.us[r1]),.int 1]) Vl).trans (new (o:=.tup [.ref x1]) hx2)).trans (new (o:=.tup [.ref x2,.int 0]) hx3)
    have SN:=s3 _ _ (b1 _ _ eG nGd)
    refine ⟨G,us,_,rfl,rfl,SN,line _ (by omega),?_⟩
    exact fin x3 [(("#":Str)++o.us[r1],1)] 0 _ ((F.trans b1).trans (bE.of s3)) (d1.same s3) (D.soft (b1.trans (bE.of s3))) SN ⟨x2,af,[.ref x1],new hx3 _ _ af,tD ⟨x1,rfl,new hx3 _ _ (new hx2 _ _ af)⟩⟩ (UA (by decide) Jz JA)
   ·refine ⟨_,rfl,.inl ⟨rfl,_,ck.of eG⟩,_,rfl,_,rfl,d,a2,o.th,rfl,D,eb',(by have:=ho.t9;omega),ho.tl,fun rs ts m H1 b1 d1 D1 C1 L1 _ S1=>?_⟩
    have SN:=b1 _ _ eG nGd
    refine ⟨G,us,_,rfl,rfl,SN,line _ (by omega),?_⟩
    exact fin rs ts m H1 (F.trans b1) d1 (D.soft b1) SN D1 ⟨C1,L1,S1⟩
  rintro σ H' ⟨k9,us,qs,rfl,F,D,eG,pq,gq,lq⟩
  have k1:av H H':=hd.soft F
  have rV:=aA pq
  have ea':=F _ _ ea (aW hd ea)
  rw [List.length_map] at lq
  refine ⟨_,rfl,_,rfl,t2,_,rfl,.inr (aV.of (k1.t _ _ e2)),_,rfl,a1,_,rfl,ck.of ea',fun l1 hl1=>?_⟩
  rw [List.length_map,GU]
  refine ⟨l1,_,rfl,.inl ⟨ck.of af,fun r5 hr5=>?_⟩⟩
  have s5:aF H' (upd (upd H' l1 (.lst ((o.ws.take h.an.length).map V.str))) r5 (.tup ((o.ws.take h.an.length).map V.str))):=aF.new (new hl1) hr5
  refine ⟨_,rfl,r,_,0,_,rfl,rfl,aV.of (s5 _ _ (k1.t _ _ er)),rfl,?_⟩
  refine ⟨_,rfl,G,_,rfl,.inl ⟨ck.of (s5 _ _ eG),fun r6 hr6=>⟨(szl 4),fun q hq=>?_⟩⟩⟩
  have s6:=(s5.trans (new (o:=.tup us) hr6)).trans (new (o:=.tup [.str "call",.ref r5,.str h.nm,.ref r6]) hq)
  refine k (.ref q) (.flat 6 0 [.N3 (o.ws.take h.an.length),.tx h.nm,.Oc qs]) _ (F.trans (bE.of s6)) (D.same s6) ?_ ?_ rfl
  ·unfold qp
   exact ⟨q,_,rfl,af,.cons ⟨r5,rfl,new hq _ _ (new hr6 _ _ af)⟩ (.cons rfl (.cons ⟨r6,us,rfl,new hq _ _ af,L2.Paired.dg pq fun _ _ z=>z.ao (av.of s6)⟩ .nil))⟩
  ·unfold cV.ok
   refine ⟨⟨_,_,_,rfl⟩,fun a ha=>?_⟩
   rcases List.mem_cons.mp ha with h1 | h1
   ·rw [h1];show (o.ws.take h.an.length).length≤20;rw [List.length_take];omega
   ·rcases List.mem_cons.mp h1 with h2 | h2
    ·rw [h2];trivial
    ·rw [List.mem_singleton.mp h2];exact ⟨by omega,gq⟩
abbrev cN:Stmt:=top 37
theorem cK:aO ["_law_draw","_law_own","_law_deep","_law_helpers","_law_names_here","_law_things","_law_makes","_law_uses","_law_kind","_law_name","_law_word","_law_by","_law_thing","_law_sizes","_law_then","_law_other","_law_holds","_law_falls","_law_body","_law_some"] ["_law_draw","_law_own","_law_deep","_law_helpers"] (ak cN):=⟨rfl,rfl,rfl,by decide +kernel,rfl,by decide +kernel,by decide +kernel⟩
abbrev sD (i:Nat):Stmt:=(au cN).getD i (.Pass ⟨0,0,0,0⟩)
theorem ds4 {f:Addr} {Y:Cy} {fS:Addr} {n:Nat} (T:Txt K mg Y.z.s) (U:fB K mg Y.z) (J:gD K mg Y fS) (bI:Dn P w K mg base 2 "_law_next" ["_law_draw","_law_size"] eS) (cH:Dn P w K mg base 3 "_law_sum" ["_law_draw","_law_things"] iJ) (aD:Dn P w K mg base 5 "_law_condition" ["_law_draw","_law_things","_law_deep"] (dm 2)) (cz:Dn P w K mg base (2*n+7) "_law_steps" ["_law_draw","_law_own","_law_many","_law_deep","_law_helpers"] (fL n)) (cA:Dn P w K mg base 1 "_law_plain" ["_law_helpers"] ig) (cW:Dn P w K mg base 4 "_law_call" ["_law_draw","_law_own","_law_helper_here"] ir) {cdv:Value} {A:Around} {outer:List Env} {s:Shared} {H0:Hp} {E:XK} (hr:dZ (2*n+7) (A.deeper (envOfC "_law_step" (ak cN) s.heap.objs.size f cdv))) :
  ∃ t,PS (jQ dX P w K mg base ["_law_draw","_law_own","_law_deep","_law_helpers","_law_names_here","_law_things","_law_makes","_law_uses","_law_kind","_law_name","_law_word","_law_by","_law_thing","_law_sizes","_law_then","_law_other","_law_holds","_law_falls","_law_body","_law_some"] "_law_step" (ak cN) f cdv A outer s H0 E).uH (sD 4) t∧∀ (D:Ends) (d p q a1 a2 a3 a4:Addr) (kk r1:Nat) (x9:Str) (o:Own) (us:List V) (hs:List Hl) (H H2:Hp),kk < n+1→o.ok→W9 H H2 d p q a1 a2 a3 a4 o us hs→(∀ H3,W9 H H3 d p q a1 a2 a3 a4 o us hs→D.nx [some (.ref d),some (.ref p),some (.int (kk:Int)),some (.ref q),some (.ref a1),some (.ref a2),some (.ref a3),some (.ref a4),some (.int (r1:Int)),some (.str x9),none,none,none,none,none,none,none,none,none,none] H3)→(∀ (v:V) (s:cV) (H':Hp),bE d H H'→Dr H' d→qp H' s v→s.ok→s.dep≤kk+1→D.rt v H')→t D [some (.ref d),some (.ref p),some (.int (kk:Int)),some (.ref q),some (.ref a1),some (.ref a2),some (.ref a3),some (.ref a4),some (.int (r1:Int)),some (.str x9),none,none,none,none,none,none,none,none,none,none] H2:=by
 obtain ⟨iw,fc,bA,aT,aU,bz⟩:=bI
 obtain ⟨lF,jm,iZ,fQ,fU,iY⟩:=cH
 obtain ⟨cF,bY,bD,aZ,bf,bC⟩:=aD
 obtain ⟨jN,iU,iA,fR,fV,iy⟩:=cz
 obtain ⟨kQ,fd_plain,jo,iD,iE,jn⟩:=cA
 obtain ⟨nJ,kO,mR,jK,jL,mL⟩:=cW
 have hu:=bq hr
 refine ⟨_,(cO (PW.pt (lA (aK di (pv 8) aj (aP _)) (jH (aK (nR (uN hr)) (pv 7) (cZ ah) (aP _))))) (ay (aJ (aQ (aa aY (aa (pv 9) (aa (aH cU (pv 7) (aq bA (hr.mono (by first | decide | omega)) rfl aT aU bz .nil az (aa (pv 0) (aa (bF bZ (by rfl) T.len PySem.boot_len (aa (pv 7) ah)) ah))) (fun _ _=>rfl)) (aa (aq iZ (hr.mono (by first | decide | omega)) rfl fQ fU iY .nil az (aa (pv 0) (aa (pv 5) ah))) ah))))))) bx),fun D d p q a1 a2 a3 a4 kk r1 x9 o us hs H H2 hkn ho W nx k=>?_⟩
 refine ⟨_,rfl,rfl,_,rfl,?_⟩
 by_cases hk:r1=1
 ·refine dF (by rw [hk];rfl) ?_
  refine ⟨_,rfl,(Nat.zero_le _),fun z1 hz1=>⟨a4,z1,_,rfl,rfl,ck.of (new hz1 _ _ W.ee),ck.of af,_,rfl,?_⟩⟩
  have W:=W.same (new (o:=.lst []) hz1)
  refine pZ (z8 ho.u1) ?_
  refine ⟨_,rfl,?_⟩
  have UI:=ho.u1
  refine ⟨_,rfl,_,rfl,_,rfl,a4,_,rfl,.inl (ck.of W.ee),d,((o.us).length:Int),(congrArg (fun z:Nat=>[V.ref d,V.int (z:Int)]) (List.length_map ..)),W.d,by omega,fun sY IX h11 qA Ay=>?_⟩
  have Fd:sY < (o.us).length:=by omega
  have kx:=W.d.soft qA
  have W:=W.next qA Ay
  refine ⟨a4,_,_,_,rfl,rfl,ck.of W.ee,bN (jE Fd),?_⟩
  refine ⟨_,rfl,_,rfl,d,a2,o.th,rfl,W.d,W.eb,(by have:=ho.t9;omega),ho.tl,fun zE Jt U0 Pj BR O0 PD XT Xz _ Xp=>?_⟩
  have kx:=W.d.soft BR
  have W:=W.next BR O0
  refine ⟨(szl 4),fun qq hq=>?_⟩
  refine k (.ref qq) (.flat 2 0 [.tx (x9),.tx ((o.us)[sY]),.sm Jt U0]) _ (W.f.new hq) (W.d.same (new hq)) ?_ (by unfold cV.ok;exact ⟨⟨_,_,_,_,rfl⟩,fun a ha=>by rcases List.mem_cons.mp ha with ha | ha;(rw [ha];exact trivial);(rcases List.mem_cons.mp ha with ha | ha;(rw [ha];exact trivial);(rw [List.mem_singleton.mp ha];exact ⟨XT,Xz,Xp⟩))⟩) (by unfold cV.dep;omega)
  unfold qp
  exact ⟨qq,_,rfl,af,(.cons (rfl) (.cons (rfl) (.cons (⟨zE,rfl,PD.ao (av.of (new hq))⟩) .nil)))⟩
 exact bJ (fun e=>hk (by have:=V.int.inj e;omega)) (ia (nx _ W))
theorem ds5 {f:Addr} {Y:Cy} {fS:Addr} {n:Nat} (T:Txt K mg Y.z.s) (U:fB K mg Y.z) (J:gD K mg Y fS) (bI:Dn P w K mg base 2 "_law_next" ["_law_draw","_law_size"] eS) (cH:Dn P w K mg base 3 "_law_sum" ["_law_draw","_law_things"] iJ) (aD:Dn P w K mg base 5 "_law_condition" ["_law_draw","_law_things","_law_deep"] (dm 2)) (cz:Dn P w K mg base (2*n+7) "_law_steps" ["_law_draw","_law_own","_law_many","_law_deep","_law_helpers"] (fL n)) (cA:Dn P w K mg base 1 "_law_plain" ["_law_helpers"] ig) (cW:Dn P w K mg base 4 "_law_call" ["_law_draw","_law_own","_law_helper_here"] ir) {cdv:Value} {A:Around} {outer:List Env} {s:Shared} {H0:Hp} {E:XK} (hr:dZ (2*n+7) (A.deeper (envOfC "_law_step" (ak cN) s.heap.objs.size f cdv))) :
  ∃ t,PS (jQ dX P w K mg base ["_law_draw","_law_own","_law_deep","_law_helpers","_law_names_here","_law_things","_law_makes","_law_uses","_law_kind","_law_name","_law_word","_law_by","_law_thing","_law_sizes","_law_then","_law_other","_law_holds","_law_falls","_law_body","_law_some"] "_law_step" (ak cN) f cdv A outer s H0 E).uH (sD 5) t∧∀ (D:Ends) (d p q a1 a2 a3 a4:Addr) (kk r1:Nat) (x9:Str) (o:Own) (us:List V) (hs:List Hl) (H H2:Hp),kk < n+1→o.ok→W9 H H2 d p q a1 a2 a3 a4 o us hs→(∀ H3,W9 H H3 d p q a1 a2 a3 a4 o us hs→D.nx [some (.ref d),some (.ref p),some (.int (kk:Int)),some (.ref q),some (.ref a1),some (.ref a2),some (.ref a3),some (.ref a4),some (.int (r1:Int)),some (.str x9),none,none,none,none,none,none,none,none,none,none] H3)→(∀ (v:V) (s:cV) (H':Hp),bE d H H'→Dr H' d→qp H' s v→s.ok→s.dep≤kk+1→D.rt v H')→t D [some (.ref d),some (.ref p),some (.int (kk:Int)),some (.ref q),some (.ref a1),some (.ref a2),some (.ref a3),some (.ref a4),some (.int (r1:Int)),some (.str x9),none,none,none,none,none,none,none,none,none,none] H2:=by
 obtain ⟨iw,fc,bA,aT,aU,bz⟩:=bI
 obtain ⟨lF,jm,iZ,fQ,fU,iY⟩:=cH
 obtain ⟨cF,bY,bD,aZ,bf,bC⟩:=aD
 obtain ⟨jN,iU,iA,fR,fV,iy⟩:=cz
 obtain ⟨kQ,fd_plain,jo,iD,iE,jn⟩:=cA
 obtain ⟨nJ,kO,mR,jK,jL,mL⟩:=cW
 have hu:=bq hr
 refine ⟨_,(cO (PW.pt (lA (aK di (pv 8) aj (aP _)) (jH (aK (nR (uN hr)) (pv 7) (cZ ah) (aP _))))) (ay (aJ (aQ (aa aY (aa (aH cU (pv 7) (aq bA (hr.mono (by first | decide | omega)) rfl aT aU bz .nil az (aa (pv 0) (aa (bF bZ (by rfl) T.len PySem.boot_len (aa (pv 7) ah)) ah))) (fun _ _=>rfl)) (aa (aq iZ (hr.mono (by first | decide | omega)) rfl fQ fU iY .nil az (aa (pv 0) (aa (pv 5) ah))) (aa (aq iZ (hr.mono (by first | decide | omega)) rfl fQ fU iY .nil az (aa (pv 0) (aa (pv 5) ah))) ah))))))) bx),fun D d p q a1 a2 a3 a4 kk r1 x9 o us hs H H2 hkn ho W nx k=>?_⟩
 refine ⟨_,rfl,rfl,_,rfl,?_⟩
 by_cases hk:r1=2
 ·refine dF (by rw [hk];rfl) ?_
  refine ⟨_,rfl,(Nat.zero_le _),fun z1 hz1=>⟨a4,z1,_,rfl,rfl,ck.of (new hz1 _ _ W.ee),ck.of af,_,rfl,?_⟩⟩
  have W:=W.same (new (o:=.lst []) hz1)
  refine pZ (z8 ho.u1) ?_
  have UI:=ho.u1
  refine ⟨_,rfl,_,rfl,_,rfl,a4,_,rfl,.inl (ck.of W.ee),d,((o.us).length:Int),(congrArg (fun z:Nat=>[V.ref d,V.int (z:Int)]) (List.length_map ..)),W.d,by omega,fun sY IX h11 qA Ay=>?_⟩
  have Fd:sY < (o.us).length:=by omega
  have kx:=W.d.soft qA
  have W:=W.next qA Ay
  refine ⟨a4,_,_,_,rfl,rfl,ck.of W.ee,bN (jE Fd),?_⟩
  refine ⟨_,rfl,_,rfl,d,a2,o.th,rfl,W.d,W.eb,(by have:=ho.t9;omega),ho.tl,fun zE Jt U0 Pj BR O0 PD XT Xz _ Xp=>?_⟩
  have kx:=W.d.soft BR
  have W:=W.next BR O0
  refine ⟨_,rfl,_,rfl,d,a2,o.th,rfl,W.d,W.eb,(by have:=ho.t9;omega),ho.tl,fun a1p Z8 m13 Ph Nt We D13 C13 L13 _ Z13=>?_⟩
  have kx:=W.d.soft Nt
  have PD:=PD.ao kx
  have W:=W.next Nt We
  refine ⟨(szl 4),fun qq hq=>?_⟩
  refine k (.ref qq) (.flat 3 0 [.tx ((o.us)[sY]),.sm Jt U0,.sm Z8 m13]) _ (W.f.new hq) (W.d.same (new hq)) ?_ (by unfold cV.ok;exact ⟨⟨_,_,_,_,_,rfl⟩,fun a ha=>by rcases List.mem_cons.mp ha with ha | ha;(rw [ha];exact trivial);(rcases List.mem_cons.mp ha with ha | ha;(rw [ha];exact ⟨XT,Xz,Xp⟩);(rw [List.mem_singleton.mp ha];exact ⟨C13,L13,Z13⟩))⟩) (by unfold cV.dep;omega)
  unfold qp
  exact ⟨qq,_,rfl,af,(.cons (rfl) (.cons (⟨zE,rfl,PD.ao (av.of (new hq))⟩) (.cons (⟨a1p,rfl,D13.ao (av.of (new hq))⟩) .nil)))⟩
 exact bJ (fun e=>hk (by have:=V.int.inj e;omega)) (ia (nx _ W))
theorem ds6 {f:Addr} {Y:Cy} {fS:Addr} {n:Nat} (T:Txt K mg Y.z.s) (U:fB K mg Y.z) (J:gD K mg Y fS) (bI:Dn P w K mg base 2 "_law_next" ["_law_draw","_law_size"] eS) (cH:Dn P w K mg base 3 "_law_sum" ["_law_draw","_law_things"] iJ) (aD:Dn P w K mg base 5 "_law_condition" ["_law_draw","_law_things","_law_deep"] (dm 2)) (cz:Dn P w K mg base (2*n+7) "_law_steps" ["_law_draw","_law_own","_law_many","_law_deep","_law_helpers"] (fL n)) (cA:Dn P w K mg base 1 "_law_plain" ["_law_helpers"] ig) (cW:Dn P w K mg base 4 "_law_call" ["_law_draw","_law_own","_law_helper_here"] ir) {cdv:Value} {A:Around} {outer:List Env} {s:Shared} {H0:Hp} {E:XK} (hr:dZ (2*n+7) (A.deeper (envOfC "_law_step" (ak cN) s.heap.objs.size f cdv))) :
  ∃ t,PS (jQ dX P w K mg base ["_law_draw","_law_own","_law_deep","_law_helpers","_law_names_here","_law_things","_law_makes","_law_uses","_law_kind","_law_name","_law_word","_law_by","_law_thing","_law_sizes","_law_then","_law_other","_law_holds","_law_falls","_law_body","_law_some"] "_law_step" (ak cN) f cdv A outer s H0 E).uH (sD 6) t∧∀ (D:Ends) (d p q a1 a2 a3 a4:Addr) (kk r1:Nat) (x9:Str) (o:Own) (us:List V) (hs:List Hl) (H H2:Hp),kk < n+1→o.ok→W9 H H2 d p q a1 a2 a3 a4 o us hs→(∀ H3,W9 H H3 d p q a1 a2 a3 a4 o us hs→D.nx [some (.ref d),some (.ref p),some (.int (kk:Int)),some (.ref q),some (.ref a1),some (.ref a2),some (.ref a3),some (.ref a4),some (.int (r1:Int)),some (.str x9),none,none,none,none,none,none,none,none,none,none] H3)→(∀ (v:V) (s:cV) (H':Hp),bE d H H'→Dr H' d→qp H' s v→s.ok→s.dep≤kk+1→D.rt v H')→t D [some (.ref d),some (.ref p),some (.int (kk:Int)),some (.ref q),some (.ref a1),some (.ref a2),some (.ref a3),some (.ref a4),some (.int (r1:Int)),some (.str x9),none,none,none,none,none,none,none,none,none,none] H2:=by
 obtain ⟨iw,fc,bA,aT,aU,bz⟩:=bI
 obtain ⟨lF,jm,iZ,fQ,fU,iY⟩:=cH
 obtain ⟨cF,bY,bD,aZ,bf,bC⟩:=aD
 obtain ⟨jN,iU,iA,fR,fV,iy⟩:=cz
 obtain ⟨kQ,fd_plain,jo,iD,iE,jn⟩:=cA
 obtain ⟨nJ,kO,mR,jK,jL,mL⟩:=cW
 have hu:=bq hr
 refine ⟨_,(cO (PW.pt (lA (aK di (pv 8) aj (aP _)) (jH (aK (nR (uN hr)) (pv 6) (cZ ah) (aP _))))) (ai (aR (i:=12) cK.nd rfl (Or.inl rfl) (aH cU (pv 5) (aq bA (hr.mono (by first | decide | omega)) rfl aT aU bz .nil az (aa (pv 0) (aa (bF bZ (by rfl) T.len PySem.boot_len (aa (pv 5) ah)) ah))) (fun _ _=>rfl)))
   (ai (aR (i:=13) cK.nd rfl (Or.inl rfl) (cZ (aa (aQ (aa (aQ ah) (aa (aq bA (hr.mono (by first | decide | omega)) rfl aT aU bz .nil az (aa (pv 0) (aa aj ah))) ah))) (aa (aQ (aa (aQ ah) (aa (bX rm (yN uv aj) (aq bA (hr.mono (by first | decide | omega)) rfl aT aU bz .nil az (aa (pv 0) (aa aj ah)))) ah))) (aa (aQ (aa (aQ (aa (aQ (aa (pv 12) (aa aj ah))) ah)) (aa aj ah))) ah)))))
   (ay (aJ (aQ (aa aY (aa (aH cU (pv 6) (aq bA (hr.mono (by first | decide | omega)) rfl aT aU bz .nil az (aa (pv 0) (aa (bF bZ (by rfl) T.len PySem.boot_len (aa (pv 6) ah)) ah))) (fun _ _=>rfl)) (aa (aH cU (pv 13) (bX tK (aq bA (hr.mono (by first | decide | omega)) rfl aT aU bz .nil az (aa (pv 0) (aa aj ah))) aj) (fun _ _=>rfl)) ah)))))))) bx),fun D d p q a1 a2 a3 a4 kk r1 x9 o us hs H H2 hkn ho W nx k=>?_⟩
 refine ⟨_,rfl,rfl,_,rfl,?_⟩
 by_cases hk:r1=3
 ·refine dF (by rw [hk];rfl) ?_
  refine ⟨_,rfl,(Nat.zero_le _),fun z1 hz1=>⟨a3,z1,_,rfl,rfl,ck.of (new hz1 _ _ W.ec),ck.of af,_,rfl,?_⟩⟩
  have W:=W.same (new (o:=.lst []) hz1)
  by_cases hm:o.mr.map V.str=[]
  ·exact nu hm (nx _ W)
  refine pZ hm ?_
  have m1:1≤o.mr.length:=by
   cases hmr:o.mr with
   | nil=>rw [hmr] at hm;exact absurd rfl hm
   | cons a b=>show 1≤b.length+1;omega
  have UI:=ho.t1
  refine ⟨_,rfl,_,rfl,_,rfl,a2,_,rfl,.inl (ck.of W.eb),d,((o.th).length:Int),(congrArg (fun z:Nat=>[V.ref d,V.int (z:Int)]) (List.length_map ..)),W.d,by omega,fun sY IX h11 qA Ay=>?_⟩
  have Fd:sY < (o.th).length:=by omega
  have kx:=W.d.soft qA
  have W:=W.next qA Ay
  refine ⟨a2,_,_,_,rfl,rfl,ck.of W.eb,bN (jE Fd),?_⟩
  refine ⟨(Nat.zero_le _),fun ta NU=>?_⟩
  have kx:=av.of (new (o:=.tup []) NU)
  have W:=W.same (new (o:=.tup []) NU)
  have eta:(upd IX ta (.tup [])) ta=some (.tup []):=af
  refine ⟨_,rfl,d,6,rfl,W.d,(by decide),fun P8 Pj h12 BR O0=>?_⟩
  have eta:=BR _ _ eta (fun z=>by obtain ⟨_,_,e9⟩:=W.d;rw [← z,eta] at e9;cases e9)
  have kx:=W.d.soft BR
  have W:=W.next BR O0
  refine ⟨(szl 2),fun xa hxa=>?_⟩
  have eta:=new (o:=.tup [V.ref ta,V.int (P8:Int)]) hxa _ _ eta
  have kx:=av.of (new (o:=.tup [V.ref ta,V.int (P8:Int)]) hxa)
  have W:=W.same (new (o:=.tup [V.ref ta,V.int (P8:Int)]) hxa)
  have exa:(upd Pj xa (.tup [V.ref ta,V.int (P8:Int)])) xa=some (.tup [V.ref ta,V.int (P8:Int)]):=af
  have Da:eW (upd Pj xa (.tup [V.ref ta,V.int (P8:Int)])) xa [] (P8:Int):=⟨ta,exa,[],eta,.nil⟩
  refine ⟨(Nat.zero_le _),fun tb htb=>?_⟩
  have kx:=av.of (new (o:=.tup []) htb)
  have Da:=Da.ao kx
  have W:=W.same (new (o:=.tup []) htb)
  have Ql:(upd (upd Pj xa (.tup [V.ref ta,V.int (P8:Int)])) tb (.tup [])) tb=some (.tup []):=af
  refine ⟨_,rfl,_,rfl,d,2,rfl,W.d,(by decide),fun EU Ph h13 Nt We=>⟨_,_,rfl,rfl,?_⟩⟩
  have Ql:=Nt _ _ Ql (fun z=>by obtain ⟨_,_,e9⟩:=W.d;rw [← z,Ql] at e9;cases e9)
  have kx:=W.d.soft Nt
  have Da:=Da.ao kx
  have W:=W.next Nt We
  refine ⟨(szl 2),fun xb hxb=>?_⟩
  have Ql:=new (o:=.tup [V.ref tb,V.int (-1 - (EU:Int))]) hxb _ _ Ql
  have kx:=av.of (new (o:=.tup [V.ref tb,V.int (-1 - (EU:Int))]) hxb)
  have Da:=Da.ao kx
  have W:=W.same (new (o:=.tup [V.ref tb,V.int (-1 - (EU:Int))]) hxb)
  have exb:(upd Ph xb (.tup [V.ref tb,V.int (-1 - (EU:Int))])) xb=some (.tup [V.ref tb,V.int (-1 - (EU:Int))]):=af
  have Db:eW (upd Ph xb (.tup [V.ref tb,V.int (-1 - (EU:Int))])) xb [] (-1 - (EU:Int)):=⟨tb,exb,[],Ql,.nil⟩
  refine ⟨_,rfl,?_⟩
  refine ⟨(szl 2),fun y1 hy1=>?_⟩
  have kx:=av.of (new (o:=.tup [V.str ((o.th)[sY]),V.int 1]) hy1)
  have Da:=Da.ao kx
  have Db:=Db.ao kx
  have W:=W.same (new (o:=.tup [V.str ((o.th)[sY]),V.int 1]) hy1)
  have VQ:(upd (upd Ph xb (.tup [V.ref tb,V.int (-1 - (EU:Int))])) y1 (.tup [V.str ((o.th)[sY]),V.int 1])) y1=some (.tup [V.str ((o.th)[sY]),V.int 1]):=af
  refine ⟨(szl 1),fun y2 hy2=>?_⟩
  have VQ:=new (o:=.tup [V.ref y1]) hy2 _ _ VQ
  have kx:=av.of (new (o:=.tup [V.ref y1]) hy2)
  have Da:=Da.ao kx
  have Db:=Db.ao kx
  have W:=W.same (new (o:=.tup [V.ref y1]) hy2)
  have ey2:(upd (upd (upd Ph xb (.tup [V.ref tb,V.int (-1 - (EU:Int))])) y1 (.tup [V.str ((o.th)[sY]),V.int 1])) y2 (.tup [V.ref y1])) y2=some (.tup [V.ref y1]):=af
  refine ⟨(szl 2),fun xc hxc=>?_⟩
  have VQ:=new (o:=.tup [V.ref y2,V.int 0]) hxc _ _ VQ
  have ey2:=new (o:=.tup [V.ref y2,V.int 0]) hxc _ _ ey2
  have kx:=av.of (new (o:=.tup [V.ref y2,V.int 0]) hxc)
  have Da:=Da.ao kx
  have Db:=Db.ao kx
  have W:=W.same (new (o:=.tup [V.ref y2,V.int 0]) hxc)
  have exc:(upd (upd (upd (upd Ph xb (.tup [V.ref tb,V.int (-1 - (EU:Int))])) y1 (.tup [V.str ((o.th)[sY]),V.int 1])) y2 (.tup [V.ref y1])) xc (.tup [V.ref y2,V.int 0])) xc=some (.tup [V.ref y2,V.int 0]):=af
  have Dc:eW (upd (upd (upd (upd Ph xb (.tup [V.ref tb,V.int (-1 - (EU:Int))])) y1 (.tup [V.str ((o.th)[sY]),V.int 1])) y2 (.tup [V.ref y1])) xc (.tup [V.ref y2,V.int 0])) xc [((o.th)[sY],1)] 0:=⟨y2,exc,[.ref y1],ey2,tD ⟨y1,rfl,VQ⟩⟩
  refine ⟨(szl 3),fun Ls hLs=>?_⟩
  have nLs:Ls≠d:=W.d.ne hLs
  have kx:=av.of (new (o:=.lst [V.ref xa,V.ref xb,V.ref xc]) hLs)
  have Da:=Da.ao kx
  have Db:=Db.ao kx
  have Dc:=Dc.ao kx
  have W:=W.same (new (o:=.lst [V.ref xa,V.ref xb,V.ref xc]) hLs)
  have V1:(upd (upd (upd (upd (upd Ph xb (.tup [V.ref tb,V.int (-1 - (EU:Int))])) y1 (.tup [V.str ((o.th)[sY]),V.int 1])) y2 (.tup [V.ref y1])) xc (.tup [V.ref y2,V.int 0])) Ls (.lst [V.ref xa,V.ref xb,V.ref xc])) Ls=some (.lst [V.ref xa,V.ref xb,V.ref xc]):=af
  refine ⟨_,rfl,_,rfl,_,rfl,a3,_,rfl,.inl (ck.of W.ec),d,((o.mr).length:Int),(congrArg (fun z:Nat=>[V.ref d,V.int (z:Int)]) (List.length_map ..)),W.d,by omega,fun r14 H14 h14 Qu d14=>?_⟩
  have a77:r14 < o.mr.length:=by omega
  have V1:=Qu _ _ V1 nLs
  have kx:=W.d.soft Qu
  have Da:=Da.ao kx
  have Db:=Db.ao kx
  have Dc:=Dc.ao kx
  have W:=W.next Qu d14
  refine ⟨a3,_,_,_,rfl,rfl,ck.of W.ec,bN (jE a77),?_⟩
  refine ⟨_,rfl,_,rfl,d,12,rfl,W.d,(by decide),fun X8 H15 h15 Qt d15=>⟨_,_,rfl,rfl,⟨by decide,by decide⟩,?_⟩⟩
  have V1:=Qt _ _ V1 nLs
  have kx:=W.d.soft Qt
  have Da:=Da.ao kx
  have Db:=Db.ao kx
  have Dc:=Dc.ao kx
  have W:=W.next Qt d15
  obtain ⟨rb,tb_,mb,hb,Dy,gy⟩:∃ (rb:Addr) (tb:Ps) (mb:Int),Cm ([V.ref xa,.ref xb,.ref xc]:List V) ((X8:Int) / 5)=some (.ref rb)∧eW H15 rb tb mb∧yb tb mb:=by
   have hq:(X8:Int) / 5=0∨(X8:Int) / 5=1∨(X8:Int) / 5=2:=by omega
   rcases hq with hq | hq | hq
   ·exact ⟨xa,[],_,by rw [hq];rfl,Da,Q0 ⟨by omega,by omega⟩⟩
   ·exact ⟨xb,[],_,by rw [hq];rfl,Db,Q0 ⟨by omega,by omega⟩⟩
   ·exact ⟨xc,_,_,by rw [hq];rfl,Dc,UA (by decide) Jz JA⟩
  refine ⟨Ls,_,_,_,rfl,rfl,ck.of V1,hb,?_⟩
  refine ⟨(szl 3),fun qq hq=>?_⟩
  refine k (.ref qq) (.flat 4 0 [.tx (o.mr[r14]),.sm tb_ mb]) _ (W.f.new hq) (W.d.same (new hq)) ?_ (by unfold cV.ok;exact ⟨⟨_,_,_,rfl⟩,fun a ha=>by rcases List.mem_cons.mp ha with ha | ha;(rw [ha];exact trivial);(rw [List.mem_singleton.mp ha];exact gy)⟩) (by unfold cV.dep;omega)
  unfold qp
  exact ⟨qq,_,rfl,af,(.cons (rfl) (.cons (⟨rb,rfl,Dy.ao (av.of (new hq))⟩) .nil))⟩
 exact bJ (fun e=>hk (by have:=V.int.inj e;omega)) (ia (nx _ W))
theorem ds7 {f:Addr} {Y:Cy} {fS:Addr} {n:Nat} (T:Txt K mg Y.z.s) (U:fB K mg Y.z) (J:gD K mg Y fS) (bI:Dn P w K mg base 2 "_law_next" ["_law_draw","_law_size"] eS) (cH:Dn P w K mg base 3 "_law_sum" ["_law_draw","_law_things"] iJ) (aD:Dn P w K mg base 5 "_law_condition" ["_law_draw","_law_things","_law_deep"] (dm 2)) (cz:Dn P w K mg base (2*n+7) "_law_steps" ["_law_draw","_law_own","_law_many","_law_deep","_law_helpers"] (fL n)) (cA:Dn P w K mg base 1 "_law_plain" ["_law_helpers"] ig) (cW:Dn P w K mg base 4 "_law_call" ["_law_draw","_law_own","_law_helper_here"] ir) {cdv:Value} {A:Around} {outer:List Env} {s:Shared} {H0:Hp} {E:XK} (hr:dZ (2*n+7) (A.deeper (envOfC "_law_step" (ak cN) s.heap.objs.size f cdv))) :
  ∃ t,PS (jQ dX P w K mg base ["_law_draw","_law_own","_law_deep","_law_helpers","_law_names_here","_law_things","_law_makes","_law_uses","_law_kind","_law_name","_law_word","_law_by","_law_thing","_law_sizes","_law_then","_law_other","_law_holds","_law_falls","_law_body","_law_some"] "_law_step" (ak cN) f cdv A outer s H0 E).uH (sD 7) t∧∀ (D:Ends) (d p q a1 a2 a3 a4:Addr) (kk r1:Nat) (x9:Str) (o:Own) (us:List V) (hs:List Hl) (H H2:Hp),kk < n+1→o.ok→W9 H H2 d p q a1 a2 a3 a4 o us hs→(∀ H3,W9 H H3 d p q a1 a2 a3 a4 o us hs→D.nx [some (.ref d),some (.ref p),some (.int (kk:Int)),some (.ref q),some (.ref a1),some (.ref a2),some (.ref a3),some (.ref a4),some (.int (r1:Int)),some (.str x9),none,none,none,none,none,none,none,none,none,none] H3)→(∀ (v:V) (s:cV) (H':Hp),bE d H H'→Dr H' d→qp H' s v→s.ok→s.dep≤kk+1→D.rt v H')→t D [some (.ref d),some (.ref p),some (.int (kk:Int)),some (.ref q),some (.ref a1),some (.ref a2),some (.ref a3),some (.ref a4),some (.int (r1:Int)),some (.str x9),none,none,none,none,none,none,none,none,none,none] H2:=by
 obtain ⟨iw,fc,bA,aT,aU,bz⟩:=bI
 obtain ⟨lF,jm,iZ,fQ,fU,iY⟩:=cH
 obtain ⟨cF,bY,bD,aZ,bf,bC⟩:=aD
 obtain ⟨jN,iU,iA,fR,fV,iy⟩:=cz
 obtain ⟨kQ,fd_plain,jo,iD,iE,jn⟩:=cA
 obtain ⟨nJ,kO,mR,jK,jL,mL⟩:=cW
 have hu:=bq hr
 refine ⟨_,(cO (aK di (pv 8) aj (aP _)) (ay (aJ (aQ (aa aY (aa (aq bD (hr.mono (by first | decide | omega)) rfl aZ bf bC .nil az (aa (pv 0) (aa (pv 5) (aa aj ah)))) ah))))) bx),fun D d p q a1 a2 a3 a4 kk r1 x9 o us hs H H2 hkn ho W nx k=>?_⟩
 refine ⟨_,rfl,rfl,_,rfl,?_⟩
 by_cases hk:r1=4
 ·refine dF (by rw [hk];rfl) ?_
  refine ⟨_,rfl,_,rfl,d,a2,1,o.th,rfl,(by decide),W.d,W.eb,(by have:=ho.t9;omega),ho.tl,fun v11 Xl IX qA Ay D11 c0Z g11=>?_⟩
  have kx:=W.d.soft qA
  have W:=W.next qA Ay
  refine ⟨(szl 2),fun qq hq=>?_⟩
  refine k (.ref qq) (.flat 5 0 [.cd Xl]) _ (W.f.new hq) (W.d.same (new hq)) ?_ (by unfold cV.ok;exact ⟨⟨_,rfl⟩,fun a ha=>by rw [List.mem_singleton.mp ha];exact ⟨⟨_,g11⟩,by omega⟩⟩) (by unfold cV.dep;omega)
  unfold qp
  exact ⟨qq,_,rfl,af,(.cons (bg.ao (av.of (new hq)) D11) .nil)⟩
 exact bJ (fun e=>hk (by have:=V.int.inj e;omega)) (nx _ W)
theorem ds8 {f:Addr} {Y:Cy} {fS:Addr} {n:Nat} (T:Txt K mg Y.z.s) (U:fB K mg Y.z) (J:gD K mg Y fS) (bI:Dn P w K mg base 2 "_law_next" ["_law_draw","_law_size"] eS) (cH:Dn P w K mg base 3 "_law_sum" ["_law_draw","_law_things"] iJ) (aD:Dn P w K mg base 5 "_law_condition" ["_law_draw","_law_things","_law_deep"] (dm 2)) (cz:Dn P w K mg base (2*n+7) "_law_steps" ["_law_draw","_law_own","_law_many","_law_deep","_law_helpers"] (fL n)) (cA:Dn P w K mg base 1 "_law_plain" ["_law_helpers"] ig) (cW:Dn P w K mg base 4 "_law_call" ["_law_draw","_law_own","_law_helper_here"] ir) {cdv:Value} {A:Around} {outer:List Env} {s:Shared} {H0:Hp} {E:XK} (hr:dZ (2*n+7) (A.deeper (envOfC "_law_step" (ak cN) s.heap.objs.size f cdv))) :
  ∃ t,PS (jQ dX P w K mg base ["_law_draw","_law_own","_law_deep","_law_helpers","_law_names_here","_law_things","_law_makes","_law_uses","_law_kind","_law_name","_law_word","_law_by","_law_thing","_law_sizes","_law_then","_law_other","_law_holds","_law_falls","_law_body","_law_some"] "_law_step" (ak cN) f cdv A outer s H0 E).uH (sD 8) t∧∀ (D:Ends) (d p q a1 a2 a3 a4:Addr) (kk r1:Nat) (x9:Str) (o:Own) (us:List V) (hs:List Hl) (H H2:Hp),kk < n+1→o.ok→W9 H H2 d p q a1 a2 a3 a4 o us hs→(∀ H3,W9 H H3 d p q a1 a2 a3 a4 o us hs→D.nx [some (.ref d),some (.ref p),some (.int (kk:Int)),some (.ref q),some (.ref a1),some (.ref a2),some (.ref a3),some (.ref a4),some (.int (r1:Int)),some (.str x9),none,none,none,none,none,none,none,none,none,none] H3)→(∀ (v:V) (s:cV) (H':Hp),bE d H H'→Dr H' d→qp H' s v→s.ok→s.dep≤kk+1→D.rt v H')→t D [some (.ref d),some (.ref p),some (.int (kk:Int)),some (.ref q),some (.ref a1),some (.ref a2),some (.ref a3),some (.ref a4),some (.int (r1:Int)),some (.str x9),none,none,none,none,none,none,none,none,none,none] H2:=by
 obtain ⟨iw,fc,bA,aT,aU,bz⟩:=bI
 obtain ⟨lF,jm,iZ,fQ,fU,iY⟩:=cH
 obtain ⟨cF,bY,bD,aZ,bf,bC⟩:=aD
 obtain ⟨jN,iU,iA,fR,fV,iy⟩:=cz
 obtain ⟨kQ,fd_plain,jo,iD,iE,jn⟩:=cA
 obtain ⟨nJ,kO,mR,jK,jL,mL⟩:=cW
 have hu:=bq hr
 refine ⟨_,(cO (PW.pt (lA (aK lT (pv 8) (aQ (aa aj (aa aj ah))) (by rfl)) (jH (aK KP (pv 2) aj (aP _))))) (ai (aR (i:=14) cK.nd rfl (Or.inl rfl) (aq iA (hr.mono (by first | decide | omega)) rfl fR fV iy .nil az (aa (pv 0) (aa (pv 1) (aa (aq bA (hr.mono (by first | decide | omega)) rfl aT aU bz .nil az (aa (pv 0) (aa aj ah))) (aa (bX rm (pv 2) aj) (aa (pv 3) ah)))))))
   (ai (aR (i:=15) cK.nd rfl (Or.inl rfl) (aq iA (hr.mono (by first | decide | omega)) rfl fR fV iy .nil az (aa (pv 0) (aa (pv 1) (aa (aq bA (hr.mono (by first | decide | omega)) rfl aT aU bz .nil az (aa (pv 0) (aa aj ah))) (aa (bX rm (pv 2) aj) (aa (pv 3) ah)))))))
   (ay (aJ (aQ (aa aY (aa (aq bD (hr.mono (by first | decide | omega)) rfl aZ bf bC .nil az (aa (pv 0) (aa (pv 5) (aa aj ah)))) (aa (pv 14) (aa (pv 15) ah))))))))) bx),fun D d p q a1 a2 a3 a4 kk r1 x9 o us hs H H2 hkn ho W nx k=>?_⟩
 refine ⟨_,rfl,(szl 2),fun qi5 a8a=>?_⟩
 refine ⟨qi5,_,rfl,.inr (aV.of af),rfl,rfl,_,rfl,?_⟩
 have W:=W.same (new (o:=.tup [V.int 5,V.int 6]) a8a)
 have ei:(if false=true then !tQ (.int (r1:Int)) [V.int 5,V.int 6] else tQ (.int (r1:Int)) [V.int 5,V.int 6])=decide (r1=5∨r1=6):=in2 r1 5 6
 rw [ei]
 clear ei
 by_cases hk:r1=5∨r1=6
 rotate_left
 ·exact bJ hk (ia (nx _ W))
 refine dF hk ⟨_,rfl,_,_,rfl,rfl,_,rfl,?_⟩
 by_cases Mx:kk=0
 ·exact bJ (by omega) (nx _ W)
 refine dF (by omega) ?_
 refine ⟨_,rfl,_,rfl,_,rfl,d,3,rfl,W.d,(by decide),fun sY IX h11 qA Ay=>?_⟩
 have kx:=W.d.soft qA
 have W:=W.next qA Ay
 refine ⟨_,rfl,_,_,rfl,rfl,_,rfl,d,p,q,sY,kk - 1,o,us,hs,(congrArg (fun z:Int=>[V.ref d,V.ref p,V.int (sY:Int),V.int z,V.ref q]) (show ((kk:Int) - 1)=((kk - 1:Nat):Int) by omega)),by omega,by omega,W.d,W.own,ho,W.hl,fun t12 Z2 TU Pj BR O0 E12 P12 O12 c0Y b9l=>?_⟩
 have kx:=W.d.soft BR
 have W:=W.next BR O0
 have N1:Ue Pj TU (.ref t12):=⟨t12,Z2,rfl,E12,P12⟩
 refine ⟨_,rfl,_,rfl,_,rfl,d,3,rfl,W.d,(by decide),fun EU Ph h13 Nt We=>?_⟩
 have kx:=W.d.soft Nt
 have N1:=N1.ao kx
 have W:=W.next Nt We
 refine ⟨_,rfl,_,_,rfl,rfl,_,rfl,d,p,q,EU,kk - 1,o,us,hs,(congrArg (fun z:Int=>[V.ref d,V.ref p,V.int (EU:Int),V.int z,V.ref q]) (show ((kk:Int) - 1)=((kk - 1:Nat):Int) by omega)),by omega,by omega,W.d,W.own,ho,W.hl,fun X4 Z1 Qd H14 Qu d14 E14 P14 O14 c0X b9k=>?_⟩
 have kx:=W.d.soft Qu
 have N1:=N1.ao kx
 have W:=W.next Qu d14
 have ZY:Ue H14 Qd (.ref X4):=⟨X4,Z1,rfl,E14,P14⟩
 refine ⟨_,rfl,_,rfl,d,a2,1,o.th,rfl,(by decide),W.d,W.eb,(by have:=ho.t9;omega),ho.tl,fun v15 Xk H15 Qt d15 D15 c0W g15=>?_⟩
 have kx:=W.d.soft Qt
 have N1:=N1.ao kx
 have ZY:=ZY.ao kx
 have W:=W.next Qt d15
 refine ⟨_,rfl,_,rfl,?_⟩
 refine ⟨(szl 4),fun qq hq=>?_⟩
 obtain ⟨_,_,e1,E1,P1⟩:=N1
 cases e1
 obtain ⟨_,_,e2,E2,P2⟩:=ZY
 cases e2
 refine k (.ref qq) (.ny 0 Xk TU Qd) _ (W.f.new hq) (W.d.same (new hq)) ?_ (by unfold cV.ok;exact ⟨⟨⟨_,g15⟩,by omega⟩,by omega,by omega,O12,O14⟩) (by unfold cV.dep;omega)
 unfold qp
 exact ⟨qq,v15,t12,X4,_,_,rfl,af,bg.ao (av.of (new hq)) D15,new hq _ _ E1,jZ.ao (av.of (new hq)) P1,new hq _ _ E2,jZ.ao (av.of (new hq)) P2⟩
theorem ds9 {f:Addr} {Y:Cy} {fS:Addr} {n:Nat} (T:Txt K mg Y.z.s) (U:fB K mg Y.z) (J:gD K mg Y fS) (bI:Dn P w K mg base 2 "_law_next" ["_law_draw","_law_size"] eS) (cH:Dn P w K mg base 3 "_law_sum" ["_law_draw","_law_things"] iJ) (aD:Dn P w K mg base 5 "_law_condition" ["_law_draw","_law_things","_law_deep"] (dm 2)) (cz:Dn P w K mg base (2*n+7) "_law_steps" ["_law_draw","_law_own","_law_many","_law_deep","_law_helpers"] (fL n)) (cA:Dn P w K mg base 1 "_law_plain" ["_law_helpers"] ig) (cW:Dn P w K mg base 4 "_law_call" ["_law_draw","_law_own","_law_helper_here"] ir) {cdv:Value} {A:Around} {outer:List Env} {s:Shared} {H0:Hp} {E:XK} (hr:dZ (2*n+7) (A.deeper (envOfC "_law_step" (ak cN) s.heap.objs.size f cdv))) :
  ∃ t,PS (jQ dX P w K mg base ["_law_draw","_law_own","_law_deep","_law_helpers","_law_names_here","_law_things","_law_makes","_law_uses","_law_kind","_law_name","_law_word","_law_by","_law_thing","_law_sizes","_law_then","_law_other","_law_holds","_law_falls","_law_body","_law_some"] "_law_step" (ak cN) f cdv A outer s H0 E).uH (sD 9) t∧∀ (D:Ends) (d p q a1 a2 a3 a4:Addr) (kk r1:Nat) (x9:Str) (o:Own) (us:List V) (hs:List Hl) (H H2:Hp),kk < n+1→o.ok→W9 H H2 d p q a1 a2 a3 a4 o us hs→(∀ H3,W9 H H3 d p q a1 a2 a3 a4 o us hs→D.nx [some (.ref d),some (.ref p),some (.int (kk:Int)),some (.ref q),some (.ref a1),some (.ref a2),some (.ref a3),some (.ref a4),some (.int (r1:Int)),some (.str x9),none,none,none,none,none,none,none,none,none,none] H3)→(∀ (v:V) (s:cV) (H':Hp),bE d H H'→Dr H' d→qp H' s v→s.ok→s.dep≤kk+1→D.rt v H')→t D [some (.ref d),some (.ref p),some (.int (kk:Int)),some (.ref q),some (.ref a1),some (.ref a2),some (.ref a3),some (.ref a4),some (.int (r1:Int)),some (.str x9),none,none,none,none,none,none,none,none,none,none] H2:=by
 obtain ⟨iw,fc,bA,aT,aU,bz⟩:=bI
 obtain ⟨lF,jm,iZ,fQ,fU,iY⟩:=cH
 obtain ⟨cF,bY,bD,aZ,bf,bC⟩:=aD
 obtain ⟨jN,iU,iA,fR,fV,iy⟩:=cz
 obtain ⟨kQ,fd_plain,jo,iD,iE,jn⟩:=cA
 obtain ⟨nJ,kO,mR,jK,jL,mL⟩:=cW
 have hu:=bq hr
 refine ⟨_,(cO (PW.pt (lA (aK lT (pv 8) (aQ (aa aj (aa aj ah))) (by rfl)) (jH (aK KP (pv 2) aj (aP _))))) (ai (aR (i:=16) cK.nd rfl (Or.inl rfl) (aS aI (by rfl) T.tuple boot_tuple (aa (cS (bu ["_law_k"] ["_law_draw","_law_things"] [0,5] rfl (by decide +kernel) (by decide +kernel) (by with_unfolding_all rfl) (by exact ⟨rfl,rfl,trivial⟩) (by rfl) rfl (by rfl)) rfl (gT rfl T.range (aa (aq bA (hr.mono (by first | decide | omega)) rfl aT aU bz .nil az (aa (pv 0) (aa aj ah))) ah)) (fun _ _ _ _=>(aN (i:=0) (show List.Nodup (["_law_k","_law_draw","_law_things"]:List Str) by decide +kernel) rfl (Or.inl rfl) (Or.inr rfl))) (fun _ _ _ _=>cI) (fun _ _ _ _=>(aq bD (hr.mono (by first | decide | omega)) rfl aZ bf bC .nil az (aa (pv 1) (aa (pv 2) (aa aj ah)))))) ah)))
   (ai (aR (i:=17) cK.nd rfl (Or.inl rfl) (aH cU (cZ (aa j9 (aa (aq iZ (hr.mono (by first | decide | omega)) rfl fQ fU iY .nil az (aa (pv 0) (aa (pv 5) ah))) ah))) (aq bA (hr.mono (by first | decide | omega)) rfl aT aU bz .nil az (aa (pv 0) (aa aj ah))) (fun _ _=>rfl)))
   (ai (aR (i:=18) cK.nd rfl (Or.inl rfl) (aq iA (hr.mono (by first | decide | omega)) rfl fR fV iy .nil az (aa (pv 0) (aa (pv 1) (aa (aq bA (hr.mono (by first | decide | omega)) rfl aT aU bz .nil az (aa (pv 0) (aa aj ah))) (aa (bX rm (pv 2) aj) (aa (pv 3) ah)))))))
   (ay (aJ (aQ (aa aY (aa (aq bD (hr.mono (by first | decide | omega)) rfl aZ bf bC .nil az (aa (pv 0) (aa (pv 5) (aa aj ah)))) (aa (pv 16) (aa (pv 17) (aa (pv 18) ah))))))))))) bx),fun D d p q a1 a2 a3 a4 kk r1 x9 o us hs H H2 hkn ho W nx k=>?_⟩
 refine ⟨_,rfl,(szl 2),fun qi7 a79=>?_⟩
 refine ⟨qi7,_,rfl,.inr (aV.of af),rfl,rfl,_,rfl,?_⟩
 have W:=W.same (new (o:=.tup [V.int 7,V.int 8]) a79)
 have ei:(if false=true then !tQ (.int (r1:Int)) [V.int 7,V.int 8] else tQ (.int (r1:Int)) [V.int 7,V.int 8])=decide (r1=7∨r1=8):=in2 r1 7 8
 rw [ei]
 clear ei
 by_cases hk:r1=7∨r1=8
 rotate_left
 ·exact bJ hk (ia (nx _ W))
 refine dF hk ⟨_,rfl,_,_,rfl,rfl,_,rfl,?_⟩
 by_cases Mx:kk=0
 ·exact bJ (by omega) (nx _ W)
 refine dF (by omega) ?_
 refine ⟨_,rfl,d,3,rfl,W.d,(by decide),fun sY IX h11 qA Ay=>?_⟩
 have kx:=W.d.soft qA
 have W:=W.next qA Ay
 refine ⟨(sY:Int),rfl,by omega,by omega,kC (n:=(sY:Int).toNat) (fun i ys H'=>W9 H H' d p q a1 a2 a3 a4 o us hs∧∃ cs:List (Int×Cd),Paired (fun u (q:Int×Cd)=>bg H' q.2 u) ys cs∧(∀ q∈cs,FJ q.2)∧cs.length=i) ⟨W,[],.nil,(fun _ h=>nomatch h),rfl⟩ ?_ ?_⟩
 ·rintro i ys H' hi ⟨W,cs,py,gc,lc⟩
  have qI:=aA py
  refine ⟨Ext.one,jd ⟨_,rfl,_,rfl,d,a2,1,o.th,rfl,(by decide),W.d,W.eb,(by have:=ho.t9;omega),ho.tl,fun v c H5 b5 d5 D5 Ua g5=>⟨line _ (by omega),W.next b5 d5,cs++[(0,c)],bB (L2.Paired.dg py fun _ _ z=>bg.ao (W.d.soft b5) z) D5,fun z hz=>?_,?_⟩⟩⟩
  ·rcases List.mem_append.mp hz with z1 | z1
   ·exact gc z z1
   ·rw [List.mem_singleton.mp z1];exact ⟨⟨_,g5⟩,Nat.le_trans Ua (by decide)⟩
  ·rw [List.length_append,lc];rfl
 rintro ys ZX ⟨W,cs,py,gc,lc⟩ ql Vm
 refine ⟨ql,_,rfl,.inl ⟨ck.of af,fun tr htr=>?_⟩⟩
 have s3:aF ZX (upd (upd ZX ql (.lst ys)) tr (.tup ys)):=aF.new (new Vm) htr
 have W:=W.same s3
 have Gh:iR (upd (upd ZX ql (.lst ys)) tr (.tup ys)) cs (.ref tr):=⟨tr,ys,rfl,af,L2.Paired.dg py fun _ _ z=>bg.ao (av.of s3) z⟩
 refine ⟨_,rfl,_,rfl,d,a2,o.th,rfl,W.d,W.eb,(by have:=ho.t9;omega),ho.tl,fun ET Z7 m41 H41 Qs d41 XS C41 L41 _ Z41=>?_⟩
 have kx:=W.d.soft Qs
 have Gh:=iR.ao kx Gh
 have W:=W.next Qs d41
 refine ⟨(szl 2),fun Lf hLf=>?_⟩
 have nLf:Lf≠d:=W.d.ne hLf
 have kx:=av.of (new (o:=.lst [V.eT,V.ref ET]) hLf)
 have Gh:=iR.ao kx Gh
 have XS:=XS.ao kx
 have W:=W.same (new (o:=.lst [V.eT,V.ref ET]) hLf)
 have SM:(upd H41 Lf (.lst [V.eT,V.ref ET])) Lf=some (.lst [V.eT,V.ref ET]):=af
 refine ⟨_,rfl,d,2,rfl,W.d,(by decide),fun r42 H42 h42 Qq d42=>?_⟩
 have SM:=Qq _ _ SM nLf
 have kx:=W.d.soft Qq
 have Gh:=iR.ao kx Gh
 have XS:=XS.ao kx
 have W:=W.next Qq d42
 obtain ⟨uf,ff,huf,Gf,gf⟩:∃ (uf:V) (ff:Option (Int×Ps×Int)),([V.eT,V.ref ET]:List V)[r42]?=some uf∧Pa H42 ff uf∧(∀ q,ff=some q→yb q.2.1 q.2.2):=by
  match r42,h42 with
  | 0,_=>exact ⟨.eT,none,rfl,rfl,fun _ z=>nomatch z⟩
  | 1,_=>exact ⟨.ref ET,some (0,Z7,m41),rfl,⟨ET,rfl,XS⟩,fun q z=>by cases z;exact ⟨C41,L41,Z41⟩⟩
  | m+2,hh=>exact absurd hh (by omega)
 refine ⟨Lf,_,_,_,rfl,rfl,ck.of SM,bN huf,?_⟩
 refine ⟨_,rfl,_,rfl,_,rfl,d,3,rfl,W.d,(by decide),fun r43 H43 h43 ZN d43=>?_⟩
 have kx:=W.d.soft ZN
 have Gh:=iR.ao kx Gh
 have Gf:=Pa.ao kx Gf
 have W:=W.next ZN d43
 refine ⟨_,rfl,_,_,rfl,rfl,_,rfl,d,p,q,r43,kk - 1,o,us,hs,(congrArg (fun z:Int=>[V.ref d,V.ref p,V.int (r43:Int),V.int z,V.ref q]) (show ((kk:Int) - 1)=((kk - 1:Nat):Int) by omega)),by omega,by omega,W.d,W.own,ho,W.hl,fun t44 Z0 TR H44 ZM d44 E44 P44 O44 c0V b9j=>?_⟩
 have kx:=W.d.soft ZM
 have Gh:=iR.ao kx Gh
 have Gf:=Pa.ao kx Gf
 have W:=W.next ZM d44
 have G44:Ue H44 TR (.ref t44):=⟨t44,Z0,rfl,E44,P44⟩
 refine ⟨_,rfl,_,rfl,d,a2,1,o.th,rfl,(by decide),W.d,W.eb,(by have:=ho.t9;omega),ho.tl,fun v45 Xj H45 ZL d45 D45 c0U g45=>?_⟩
 have kx:=W.d.soft ZL
 have Gh:=iR.ao kx Gh
 have Gf:=Pa.ao kx Gf
 have G44:=G44.ao kx
 have W:=W.next ZL d45
 refine ⟨_,rfl,_,rfl,_,rfl,?_⟩
 refine ⟨(szl 5),fun qq hq=>?_⟩
 obtain ⟨_,_,e2,E2,P2⟩:=G44
 cases e2
 refine k (.ref qq) (.rep 0 Xj cs ff TR) _ (W.f.new hq) (W.d.same (new hq)) ?_ (by unfold cV.ok;exact ⟨⟨⟨_,g45⟩,by omega⟩,by omega,gc,gf,by omega,O44⟩) (by unfold cV.dep;omega)
 unfold qp
 exact ⟨qq,v45,.ref tr,uf,t44,_,rfl,af,bg.ao (av.of (new hq)) D45,iR.ao (av.of (new hq)) Gh,Pa.ao (av.of (new hq)) Gf,new hq _ _ E2,jZ.ao (av.of (new hq)) P2⟩
theorem a9f {f:Addr} {Y:Cy} {fS:Addr} {n:Nat} (T:Txt K mg Y.z.s) (U:fB K mg Y.z) (J:gD K mg Y fS) (bI:Dn P w K mg base 2 "_law_next" ["_law_draw","_law_size"] eS) (cH:Dn P w K mg base 3 "_law_sum" ["_law_draw","_law_things"] iJ) (aD:Dn P w K mg base 5 "_law_condition" ["_law_draw","_law_things","_law_deep"] (dm 2)) (cz:Dn P w K mg base (2*n+7) "_law_steps" ["_law_draw","_law_own","_law_many","_law_deep","_law_helpers"] (fL n)) (cA:Dn P w K mg base 1 "_law_plain" ["_law_helpers"] ig) (cW:Dn P w K mg base 4 "_law_call" ["_law_draw","_law_own","_law_helper_here"] ir) {cdv:Value} {A:Around} {outer:List Env} {s:Shared} {H0:Hp} {E:XK} (hr:dZ (2*n+7) (A.deeper (envOfC "_law_step" (ak cN) s.heap.objs.size f cdv))) :
  ∃ t,PS (jQ dX P w K mg base ["_law_draw","_law_own","_law_deep","_law_helpers","_law_names_here","_law_things","_law_makes","_law_uses","_law_kind","_law_name","_law_word","_law_by","_law_thing","_law_sizes","_law_then","_law_other","_law_holds","_law_falls","_law_body","_law_some"] "_law_step" (ak cN) f cdv A outer s H0 E).uH (sD 10) t∧∀ (D:Ends) (d p q a1 a2 a3 a4:Addr) (kk r1:Nat) (x9:Str) (o:Own) (us:List V) (hs:List Hl) (H H2:Hp),kk < n+1→o.ok→W9 H H2 d p q a1 a2 a3 a4 o us hs→(∀ H3,W9 H H3 d p q a1 a2 a3 a4 o us hs→D.nx [some (.ref d),some (.ref p),some (.int (kk:Int)),some (.ref q),some (.ref a1),some (.ref a2),some (.ref a3),some (.ref a4),some (.int (r1:Int)),some (.str x9),none,none,none,none,none,none,none,none,none,none] H3)→(∀ (v:V) (s:cV) (H':Hp),bE d H H'→Dr H' d→qp H' s v→s.ok→s.dep≤kk+1→D.rt v H')→t D [some (.ref d),some (.ref p),some (.int (kk:Int)),some (.ref q),some (.ref a1),some (.ref a2),some (.ref a3),some (.ref a4),some (.int (r1:Int)),some (.str x9),none,none,none,none,none,none,none,none,none,none] H2:=by
 obtain ⟨iw,fc,bA,aT,aU,bz⟩:=bI
 obtain ⟨lF,jm,iZ,fQ,fU,iY⟩:=cH
 obtain ⟨cF,bY,bD,aZ,bf,bC⟩:=aD
 obtain ⟨jN,iU,iA,fR,fV,iy⟩:=cz
 obtain ⟨kQ,fd_plain,jo,iD,iE,jn⟩:=cA
 obtain ⟨nJ,kO,mR,jK,jL,mL⟩:=cW
 have hu:=bq hr
 refine ⟨_,(cO (PW.pt (lA (aK lT (pv 8) (aQ (aa aj (aa aj ah))) (by rfl)) (lA (aK (nR (uN hr)) (pv 3) (cZ ah) (aP _)) (jH (PW.pt (oV (aK (nR (uN hr)) (pv 7) (cZ ah) (aP _)) (mj (aK (nG 1 (uL hr)) (aq jo (hr.mono (by first | decide | omega)) rfl iD iE jn .nil az (aa (pv 3) ah)) (cZ ah) (aP _))))))))) (ai (aR (i:=19) cK.nd rfl (Or.inl rfl) (aH cU (cZ (aa (pv 3) (aa (aq jo (hr.mono (by first | decide | omega)) rfl iD iE jn .nil az (aa (pv 3) ah)) ah))) (aS vg (by rfl) T.int boot_int (aa (gi (yQ (uN hr)) (pv 7) (cZ ah) (aP _)) ah)) (fun _ _=>rfl)))
   (ay (aJ (aq mR (hr.mono (by first | decide | omega)) rfl jK jL mL .nil az (aa (pv 0) (aa (pv 1) (aa (aH cU (pv 19) (aq bA (hr.mono (by first | decide | omega)) rfl aT aU bz .nil az (aa (pv 0) (aa (bF bZ (by rfl) T.len PySem.boot_len (aa (pv 19) ah)) ah))) (fun _ _=>rfl)) ah))))))) bx),fun D d p q a1 a2 a3 a4 kk r1 x9 o us hs H H2 hkn ho W nx k=>?_⟩
 refine ⟨_,rfl,(szl 2),fun qi9 a78=>?_⟩
 refine ⟨qi9,_,rfl,.inr (aV.of af),rfl,rfl,_,rfl,?_⟩
 have W:=W.same (new (o:=.tup [V.int 9,V.int 10]) a78)
 have ei:(if false=true then !tQ (.int (r1:Int)) [V.int 9,V.int 10] else tQ (.int (r1:Int)) [V.int 9,V.int 10])=decide (r1=9∨r1=10):=in2 r1 9 10
 rw [ei]
 clear ei
 by_cases hk:r1=9∨r1=10
 rotate_left
 ·exact bJ hk (ia (nx _ W))
 refine dF hk ?_
 refine ⟨_,rfl,(Nat.zero_le _),fun z1 hz1=>⟨q,z1,_,rfl,rfl,ck.of (new hz1 _ _ W.hl.1),ck.of af,_,rfl,?_⟩⟩
 have W:=W.same (new (o:=.lst []) hz1)
 by_cases hu9:us=[]
 ·exact nu hu9 (ia (nx _ W))
 refine pZ hu9 ?_
 have ul:1≤us.length:=by
  cases us with
  | nil=>exact absurd rfl hu9
  | cons a b=>show 1≤b.length+1;omega
 refine ⟨_,rfl,(Nat.zero_le _),fun z2 hz2=>⟨a4,z2,_,rfl,rfl,ck.of (new hz2 _ _ W.ee),ck.of af,_,rfl,?_⟩⟩
 have W:=W.same (new (o:=.lst []) hz2)
 refine pZ (z8 ho.u1) (uY ?_)
 refine ⟨_,rfl,_,rfl,q,us,hs,rfl,W.hl,fun lp wp Hp9 sp9 ep9=>?_⟩
 have W:=W.same sp9
 refine ⟨(szl 2),fun Lf hLf=>?_⟩
 have nLf:Lf≠d:=W.d.ne hLf
 have kx:=av.of (new (o:=.lst [V.ref q,V.ref lp]) hLf)
 have W:=W.same (new (o:=.lst [V.ref q,V.ref lp]) hLf)
 have SM:(upd Hp9 Lf (.lst [V.ref q,V.ref lp])) Lf=some (.lst [V.ref q,V.ref lp]):=af
 refine ⟨_,rfl,(Nat.zero_le _),fun e1 he1=>?_⟩
 have SM:=new (o:=.lst []) he1 _ _ SM
 have W:=W.same (new (o:=.lst []) he1)
 refine ⟨a4,e1,_,rfl,rfl,ck.of W.ee,ck.of af,.inr ⟨false,congrArg (fun z=>[V.bl z]) (decide_eq_false (z8 ho.u1)),Lf,_,_,_,rfl,rfl,ck.of SM,rfl,?_⟩⟩
 refine ⟨_,rfl,_,rfl,_,rfl,_,rfl,_,rfl,q,_,rfl,.inl (ck.of W.hl.1),d,(us.length:Int),rfl,W.d,by omega,fun sY IX h11 qA Ay=>?_⟩
 have kx:=W.d.soft qA
 have W:=W.next qA Ay
 have Fd:sY < us.length:=by omega
 have hu:=List.getElem?_eq_getElem Fd
 obtain ⟨hh,hhi,hx⟩:=bH W.hl.2.1 hu
 refine ⟨q,_,_,_,rfl,rfl,ck.of W.hl.1,bN hu,d,p,_,o,hh,rfl,W.d,W.own,ho,hx,W.hl.2.2.1 hh (List.mem_of_getElem? hhi),fun v' s' H' b' d' R' o' e'=>?_⟩
 exact k v' s' H' (W.f.trans b') d' R' o' (by omega)
theorem a9e {f:Addr} {Y:Cy} {fS:Addr} {n:Nat} (T:Txt K mg Y.z.s) (U:fB K mg Y.z) (J:gD K mg Y fS) (bI:Dn P w K mg base 2 "_law_next" ["_law_draw","_law_size"] eS) (cH:Dn P w K mg base 3 "_law_sum" ["_law_draw","_law_things"] iJ) (aD:Dn P w K mg base 5 "_law_condition" ["_law_draw","_law_things","_law_deep"] (dm 2)) (cz:Dn P w K mg base (2*n+7) "_law_steps" ["_law_draw","_law_own","_law_many","_law_deep","_law_helpers"] (fL n)) (cA:Dn P w K mg base 1 "_law_plain" ["_law_helpers"] ig) (cW:Dn P w K mg base 4 "_law_call" ["_law_draw","_law_own","_law_helper_here"] ir) {cdv:Value} {A:Around} {outer:List Env} {s:Shared} {H0:Hp} {E:XK} (hr:dZ (2*n+7) (A.deeper (envOfC "_law_step" (ak cN) s.heap.objs.size f cdv))) :
  ∃ t,PS (jQ dX P w K mg base ["_law_draw","_law_own","_law_deep","_law_helpers","_law_names_here","_law_things","_law_makes","_law_uses","_law_kind","_law_name","_law_word","_law_by","_law_thing","_law_sizes","_law_then","_law_other","_law_holds","_law_falls","_law_body","_law_some"] "_law_step" (ak cN) f cdv A outer s H0 E).uH (sD 11) t∧∀ (D:Ends) (d p q a1 a2 a3 a4:Addr) (kk r1:Nat) (x9:Str) (o:Own) (us:List V) (hs:List Hl) (H H2:Hp),kk < n+1→o.ok→W9 H H2 d p q a1 a2 a3 a4 o us hs→(∀ (v:V) (s:cV) (H':Hp),bE d H H'→Dr H' d→qp H' s v→s.ok→s.dep≤kk+1→D.rt v H')→t D [some (.ref d),some (.ref p),some (.int (kk:Int)),some (.ref q),some (.ref a1),some (.ref a2),some (.ref a3),some (.ref a4),some (.int (r1:Int)),some (.str x9),none,none,none,none,none,none,none,none,none,none] H2:=by
 obtain ⟨iw,fc,bA,aT,aU,bz⟩:=bI
 obtain ⟨lF,jm,iZ,fQ,fU,iY⟩:=cH
 obtain ⟨cF,bY,bD,aZ,bf,bC⟩:=aD
 obtain ⟨jN,iU,iA,fR,fV,iy⟩:=cz
 obtain ⟨kQ,fd_plain,jo,iD,iE,jn⟩:=cA
 obtain ⟨nJ,kO,mR,jK,jL,mL⟩:=cW
 have hu:=bq hr
 refine ⟨_,(aJ (aQ (aa aY (aa (pv 9) (aa (aq iZ (hr.mono (by first | decide | omega)) rfl fQ fU iY .nil az (aa (pv 0) (aa (pv 5) ah))) ah))))),fun D d p q a1 a2 a3 a4 kk r1 x9 o us hs H H2 hkn ho W k=>?_⟩
 refine ⟨_,rfl,?_⟩
 refine ⟨_,rfl,_,rfl,d,a2,o.th,rfl,W.d,W.eb,(by have:=ho.t9;omega),ho.tl,fun a1q Z9 m11 IX qA Ay D11 C11 L11 _ Z11=>?_⟩
 have kx:=W.d.soft qA
 have W:=W.next qA Ay
 refine ⟨(szl 3),fun qq hq=>?_⟩
 refine k (.ref qq) (.flat 0 0 [.tx (x9),.sm Z9 m11]) _ (W.f.new hq) (W.d.same (new hq)) ?_ (by unfold cV.ok;exact ⟨⟨_,_,_,rfl⟩,fun a ha=>by rcases List.mem_cons.mp ha with ha | ha;(rw [ha];exact trivial);(rw [List.mem_singleton.mp ha];exact ⟨C11,L11,Z11⟩)⟩) (by unfold cV.dep;omega)
 unfold qp
 exact ⟨qq,_,rfl,af,(.cons (rfl) (.cons (⟨a1q,rfl,D11.ao (av.of (new hq))⟩) .nil))⟩
def Uz (e:Expr):Expr:=match e with | .Subscript v _ _=>v | _=>e
def elE (e:Expr) (i:Nat):Expr:=match e with | .List es _=>es.getD i e | .Tuple es _ _=>es.getD i e | _=>e
abbrev V3:Expr:=Uz (Te (ifB (sD 3) 1))
abbrev SJ:Expr:=Uz (elE (elE V3 0) 1)
theorem Wb {f:Addr} {Y:Cy} {fS:Addr} {n:Nat} (T:Txt K mg Y.z.s) (U:fB K mg Y.z) (J:gD K mg Y fS) (bI:Dn P w K mg base 2 "_law_next" ["_law_draw","_law_size"] eS) (cH:Dn P w K mg base 3 "_law_sum" ["_law_draw","_law_things"] iJ) (aD:Dn P w K mg base 5 "_law_condition" ["_law_draw","_law_things","_law_deep"] (dm 2)) (cz:Dn P w K mg base (2*n+7) "_law_steps" ["_law_draw","_law_own","_law_many","_law_deep","_law_helpers"] (fL n)) (cA:Dn P w K mg base 1 "_law_plain" ["_law_helpers"] ig) (cW:Dn P w K mg base 4 "_law_call" ["_law_draw","_law_own","_law_helper_here"] ir) {cdv:Value} {A:Around} {outer:List Env} {s:Shared} {H0:Hp} {E:XK} (hr:dZ (2*n+7) (A.deeper (envOfC "_law_step" (ak cN) s.heap.objs.size f cdv))):∃ te,PE (jQ dX P w K mg base ["_law_draw","_law_own","_law_deep","_law_helpers","_law_names_here","_law_things","_law_makes","_law_uses","_law_kind","_law_name","_law_word","_law_by","_law_thing","_law_sizes","_law_then","_law_other","_law_holds","_law_falls","_law_body","_law_some"] "_law_step" (ak cN) f cdv A outer s H0 E).uH SJ te∧∀ (σ:L2.St) (H:Hp) (Q:VK),(∀ q,H q=none→Q (.ref q) (upd H q (.lst [V.int 2,V.int 3,V.int (-2),V.int 1,V.int 7,V.int 0])))→te σ H Q:=by
 refine ⟨_,(cZ (aa aj (aa aj (aa (yN uv aj) (aa aj (aa aj (aa aj ah))))))),fun σ H Q h=>?_⟩
 exact ⟨_,rfl,(szl 6),fun q hq=>h q hq⟩
theorem Wc {f:Addr} {Y:Cy} {fS:Addr} {n:Nat} (T:Txt K mg Y.z.s) (U:fB K mg Y.z) (J:gD K mg Y fS) (bI:Dn P w K mg base 2 "_law_next" ["_law_draw","_law_size"] eS) (cH:Dn P w K mg base 3 "_law_sum" ["_law_draw","_law_things"] iJ) (aD:Dn P w K mg base 5 "_law_condition" ["_law_draw","_law_things","_law_deep"] (dm 2)) (cz:Dn P w K mg base (2*n+7) "_law_steps" ["_law_draw","_law_own","_law_many","_law_deep","_law_helpers"] (fL n)) (cA:Dn P w K mg base 1 "_law_plain" ["_law_helpers"] ig) (cW:Dn P w K mg base 4 "_law_call" ["_law_draw","_law_own","_law_helper_here"] ir) {cdv:Value} {A:Around} {outer:List Env} {s:Shared} {H0:Hp} {E:XK} (hr:dZ (2*n+7) (A.deeper (envOfC "_law_step" (ak cN) s.heap.objs.size f cdv))):∃ te,PE (jQ dX P w K mg base ["_law_draw","_law_own","_law_deep","_law_helpers","_law_names_here","_law_things","_law_makes","_law_uses","_law_kind","_law_name","_law_word","_law_by","_law_thing","_law_sizes","_law_then","_law_other","_law_holds","_law_falls","_law_body","_law_some"] "_law_step" (ak cN) f cdv A outer s H0 E).uH V3 te∧∀ (d p q a1 a2 a3 a4:Addr) (kk r1:Nat) (x9:Str) (x10:Option V) (o:Own) (us:List V) (hs:List Hl) (H H2:Hp) (Q:VK),o.ok→W9 H H2 d p q a1 a2 a3 a4 o us hs→(∀ (L xa rs:Addr) (b m:Int) (ts:Ps) (H3:Hp),W9 H H3 d p q a1 a2 a3 a4 o us hs→L≠d→H3 L=some (.lst [V.ref xa,V.ref rs])→eW H3 xa [] b→yb [] b→eW H3 rs ts m→yb ts m→Q (.ref L) H3)→te [some (.ref d),some (.ref p),some (.int (kk:Int)),some (.ref q),some (.ref a1),some (.ref a2),some (.ref a3),some (.ref a4),some (.int (r1:Int)),some (.str x9),x10,none,none,none,none,none,none,none,none,none] H2 Q:=by
 obtain ⟨t6,q6,r6⟩:=Wb (f:=f) (n:=n) T U J bI cH aD cz cA cW (cdv:=cdv) (A:=A) (outer:=outer) (s:=s) (H0:=H0) (E:=E) hr
 obtain ⟨iw,fc,bA,aT,aU,bz⟩:=bI
 obtain ⟨lF,jm,iZ,fQ,fU,iY⟩:=cH
 obtain ⟨cF,bY,bD,aZ,bf,bC⟩:=aD
 obtain ⟨jN,iU,iA,fR,fV,iy⟩:=cz
 obtain ⟨kQ,fd_plain,jo,iD,iE,jn⟩:=cA
 obtain ⟨nJ,kO,mR,jK,jL,mL⟩:=cW
 have hu:=bq hr
 rw [show V3=.List [.Tuple [.Tuple [] _ _,.Subscript SJ _ _] _ _,_] _ from rfl]
 generalize SJ=z6 at q6 ⊢
 refine ⟨_,(cZ (aa (aQ (aa (aQ ah) (aa (aH cU q6 (aq bA (hr.mono (by first | decide | omega)) rfl aT aU bz .nil az (aa (pv 0) (aa aj ah))) (fun _ _=>rfl)) ah))) (aa (aq iZ (hr.mono (by first | decide | omega)) rfl fQ fU iY .nil az (aa (pv 0) (aa (pv 5) ah))) ah))),fun d p q a1 a2 a3 a4 kk r1 x9 x10 o us hs H H2 Q ho W kq=>?_⟩
 refine ⟨(Nat.zero_le _),fun ta NU=>?_⟩
 have kx:=av.of (new (o:=.tup []) NU)
 have W:=W.same (new (o:=.tup []) NU)
 have eta:(upd H2 ta (.tup [])) ta=some (.tup []):=af
 refine r6 _ _ _ fun Lb Y5=>?_
 have nLb:Lb≠d:=W.d.ne Y5
 have eta:=new (o:=.lst [V.int 2,V.int 3,V.int (-2),V.int 1,V.int 7,V.int 0]) Y5 _ _ eta
 have kx:=av.of (new (o:=.lst [V.int 2,V.int 3,V.int (-2),V.int 1,V.int 7,V.int 0]) Y5)
 have W:=W.same (new (o:=.lst [V.int 2,V.int 3,V.int (-2),V.int 1,V.int 7,V.int 0]) Y5)
 have eLb:(upd (upd H2 ta (.tup [])) Lb (.lst [V.int 2,V.int 3,V.int (-2),V.int 1,V.int 7,V.int 0])) Lb=some (.lst [V.int 2,V.int 3,V.int (-2),V.int 1,V.int 7,V.int 0]):=af
 refine ⟨_,rfl,d,6,rfl,W.d,(by decide),fun sY IX h11 qA Ay=>?_⟩
 have eLb:=qA _ _ eLb nLb
 have eta:=qA _ _ eta (fun z=>by obtain ⟨_,_,e9⟩:=W.d;rw [← z,eta] at e9;cases e9)
 have kx:=W.d.soft qA
 have W:=W.next qA Ay
 obtain ⟨by_,hby,sby⟩:=Q2 (r:=sY) (by omega)
 refine ⟨Lb,_,_,_,rfl,rfl,ck.of eLb,bN hby,?_⟩
 refine ⟨(szl 2),fun xa hxa=>?_⟩
 have eta:=new (o:=.tup [V.ref ta,V.int by_]) hxa _ _ eta
 have kx:=av.of (new (o:=.tup [V.ref ta,V.int by_]) hxa)
 have W:=W.same (new (o:=.tup [V.ref ta,V.int by_]) hxa)
 have exa:(upd IX xa (.tup [V.ref ta,V.int by_])) xa=some (.tup [V.ref ta,V.int by_]):=af
 have Db:eW (upd IX xa (.tup [V.ref ta,V.int by_])) xa [] by_:=⟨ta,exa,[],eta,.nil⟩
 refine ⟨_,rfl,_,rfl,d,a2,o.th,rfl,W.d,W.eb,(by have:=ho.t9;omega),ho.tl,fun zE Jt U0 Pj BR O0 PD XT Xz _ Xp=>?_⟩
 have kx:=W.d.soft BR
 have Db:=Db.ao kx
 have W:=W.next BR O0
 refine ⟨(szl 2),fun Lc OQ=>?_⟩
 have nLc:Lc≠d:=W.d.ne OQ
 have kx:=av.of (new (o:=.lst [V.ref xa,V.ref zE]) OQ)
 have Db:=Db.ao kx
 have PD:=PD.ao kx
 have W:=W.same (new (o:=.lst [V.ref xa,V.ref zE]) OQ)
 have V2:(upd Pj Lc (.lst [V.ref xa,V.ref zE])) Lc=some (.lst [V.ref xa,V.ref zE]):=af
 exact kq Lc xa zE by_ U0 Jt _ W nLc V2 Db (Q0 sby) PD ⟨XT,Xz,Xp⟩
theorem ds3 {f:Addr} {Y:Cy} {fS:Addr} {n:Nat} (T:Txt K mg Y.z.s) (U:fB K mg Y.z) (J:gD K mg Y fS) (bI:Dn P w K mg base 2 "_law_next" ["_law_draw","_law_size"] eS) (cH:Dn P w K mg base 3 "_law_sum" ["_law_draw","_law_things"] iJ) (aD:Dn P w K mg base 5 "_law_condition" ["_law_draw","_law_things","_law_deep"] (dm 2)) (cz:Dn P w K mg base (2*n+7) "_law_steps" ["_law_draw","_law_own","_law_many","_law_deep","_law_helpers"] (fL n)) (cA:Dn P w K mg base 1 "_law_plain" ["_law_helpers"] ig) (cW:Dn P w K mg base 4 "_law_call" ["_law_draw","_law_own","_law_helper_here"] ir) {cdv:Value} {A:Around} {outer:List Env} {s:Shared} {H0:Hp} {E:XK} (hr:dZ (2*n+7) (A.deeper (envOfC "_law_step" (ak cN) s.heap.objs.size f cdv))) :
  ∃ t,PS (jQ dX P w K mg base ["_law_draw","_law_own","_law_deep","_law_helpers","_law_names_here","_law_things","_law_makes","_law_uses","_law_kind","_law_name","_law_word","_law_by","_law_thing","_law_sizes","_law_then","_law_other","_law_holds","_law_falls","_law_body","_law_some"] "_law_step" (ak cN) f cdv A outer s H0 E).uH (sD 3) t∧∀ (D:Ends) (d p q a1 a2 a3 a4:Addr) (kk r1:Nat) (x9:Str) (o:Own) (us:List V) (hs:List Hl) (H H2:Hp),kk < n+1→o.ok→W9 H H2 d p q a1 a2 a3 a4 o us hs→(∀ H3,W9 H H3 d p q a1 a2 a3 a4 o us hs→D.nx [some (.ref d),some (.ref p),some (.int (kk:Int)),some (.ref q),some (.ref a1),some (.ref a2),some (.ref a3),some (.ref a4),some (.int (r1:Int)),some (.str x9),none,none,none,none,none,none,none,none,none,none] H3)→(∀ (v:V) (s:cV) (H':Hp),bE d H H'→Dr H' d→qp H' s v→s.ok→s.dep≤kk+1→D.rt v H')→t D [some (.ref d),some (.ref p),some (.int (kk:Int)),some (.ref q),some (.ref a1),some (.ref a2),some (.ref a3),some (.ref a4),some (.int (r1:Int)),some (.str x9),none,none,none,none,none,none,none,none,none,none] H2:=by
 obtain ⟨tL,qL,rL⟩:=Wc (f:=f) (n:=n) T U J bI cH aD cz cA cW (cdv:=cdv) (A:=A) (outer:=outer) (s:=s) (H0:=H0) (E:=E) hr
 obtain ⟨iw,fc,bA,aT,aU,bz⟩:=bI
 obtain ⟨lF,jm,iZ,fQ,fU,iY⟩:=cH
 obtain ⟨cF,bY,bD,aZ,bf,bC⟩:=aD
 obtain ⟨jN,iU,iA,fR,fV,iy⟩:=cz
 obtain ⟨kQ,fd_plain,jo,iD,iE,jn⟩:=cA
 obtain ⟨nJ,kO,mR,jK,jL,mL⟩:=cW
 have hu:=bq hr
 rw [show sD 3=.If _ [_,.Assign _ (.Subscript V3 _ _) _,_] _ _ from rfl]
 generalize V3=zL at qL ⊢
 refine ⟨_,(cO (aK di (pv 8) aj (aP _)) (ai (aR (i:=10) cK.nd rfl (Or.inl rfl) (aH cU (cZ (aa aY (aa aY ah))) (aq bA (hr.mono (by first | decide | omega)) rfl aT aU bz .nil az (aa (pv 0) (aa aj ah))) (fun _ _=>rfl)))
   (ai (aR (i:=11) cK.nd rfl (Or.inl rfl) (aH cU qL (bX tK (aq bA (hr.mono (by first | decide | omega)) rfl aT aU bz .nil az (aa (pv 0) (aa aj ah))) aj) (fun _ _=>rfl)))
   (ay (aJ (aQ (aa aY (aa (pv 9) (aa (pv 10) (aa (aq iZ (hr.mono (by first | decide | omega)) rfl fQ fU iY .nil az (aa (pv 0) (aa (pv 5) ah))) (aa (pv 11) ah)))))))))) bx),fun D d p q a1 a2 a3 a4 kk r1 x9 o us hs H H2 hkn ho W nx k=>?_⟩
 refine ⟨_,rfl,rfl,_,rfl,?_⟩
 by_cases hk:r1=0
 ·refine dF (by rw [hk];rfl) ?_
  refine ⟨(szl 2),fun La hLa=>?_⟩
  have nLa:La≠d:=W.d.ne hLa
  have kx:=av.of (new (o:=.lst [V.str "div",V.str "mod"]) hLa)
  have W:=W.same (new (o:=.lst [V.str "div",V.str "mod"]) hLa)
  have eLa:(upd H2 La (.lst [V.str "div",V.str "mod"])) La=some (.lst [V.str "div",V.str "mod"]):=af
  refine ⟨_,rfl,d,2,rfl,W.d,(by decide),fun sY IX h11 qA Ay=>?_⟩
  have eLa:=qA _ _ eLa nLa
  have kx:=W.d.soft qA
  have W:=W.next qA Ay
  obtain ⟨wd,hwd⟩:∃ wd:Str,([V.str "div",V.str "mod"]:List V)[sY]?=some (V.str wd):=by
   match sY,h11 with
   | 0,_=>exact ⟨"div",rfl⟩
   | 1,_=>exact ⟨"mod",rfl⟩
   | m+2,hh=>exact absurd hh (by omega)
  refine ⟨La,_,_,_,rfl,rfl,ck.of eLa,bN hwd,?_⟩
  refine rL d p q a1 a2 a3 a4 kk r1 x9 _ o us hs H _ _ ho W fun Lc xa rs by_ mm tt ZX W nLc V2 Db gb Dm gm=>?_
  refine ⟨_,rfl,d,4,rfl,W.d,(by decide),fun r41 H41 h41 Qs d41=>⟨_,_,rfl,rfl,⟨by decide,by decide⟩,?_⟩⟩
  have V2:=Qs _ _ V2 nLc
  have kx:=W.d.soft Qs
  have Db:=Db.ao kx
  have Dm:=Dm.ao kx
  have W:=W.next Qs d41
  obtain ⟨rb,tb,mb,hb,Dy,gy⟩:∃ (rb:Addr) (tb:Ps) (mb:Int),Cm ([V.ref xa,V.ref rs]:List V) ((r41:Int) / 3)=some (.ref rb)∧eW H41 rb tb mb∧yb tb mb:=by
   have hq:(r41:Int) / 3=0∨(r41:Int) / 3=1:=by omega
   rcases hq with hq | hq
   ·exact ⟨xa,[],by_,by rw [hq];rfl,Db,gb⟩
   ·exact ⟨rs,tt,mm,by rw [hq];rfl,Dm,gm⟩
  refine ⟨Lc,_,_,_,rfl,rfl,ck.of V2,hb,?_⟩
  refine ⟨_,rfl,?_⟩
  refine ⟨_,rfl,?_⟩
  refine ⟨_,rfl,_,rfl,d,a2,o.th,rfl,W.d,W.eb,(by have:=ho.t9;omega),ho.tl,fun a1o Z6 m42 H42 Qq d42 D42 C42 L42 _ Z42=>?_⟩
  have kx:=W.d.soft Qq
  have Dy:=Dy.ao kx
  have W:=W.next Qq d42
  refine ⟨_,rfl,?_⟩
  refine ⟨(szl 5),fun qq hq=>?_⟩
  refine k (.ref qq) (.flat 1 0 [.tx x9,.tx wd,.sm Z6 m42,.sm tb mb]) _ (W.f.new hq) (W.d.same (new hq)) ?_ (by unfold cV.ok;exact ⟨⟨_,_,_,_,_,_,rfl⟩,fun a ha=>by rcases List.mem_cons.mp ha with ha | ha;(rw [ha];exact trivial);(rcases List.mem_cons.mp ha with ha | ha;(rw [ha];exact trivial);(rcases List.mem_cons.mp ha with ha | ha;(rw [ha];exact ⟨C42,L42,Z42⟩);(rw [List.mem_singleton.mp ha];exact gy)))⟩) (by unfold cV.dep;omega)
  unfold qp
  exact ⟨qq,_,rfl,af,(.cons (rfl) (.cons (rfl) (.cons (⟨a1o,rfl,D42.ao (av.of (new hq))⟩) (.cons (⟨rb,rfl,Dy.ao (av.of (new hq))⟩) .nil))))⟩
 exact bJ (fun e=>hk (by have:=V.int.inj e;omega)) (nx _ W)
theorem Lj {f:Addr} {fd:FuncData} {Y:Cy} {fS:Addr} {n:Nat} (F:fG K "_law_step" "_law_step" cN f fd) (T:Txt K mg Y.z.s) (U:fB K mg Y.z) (J:gD K mg Y fS) (bI:Dn P w K mg base 2 "_law_next" ["_law_draw","_law_size"] eS) (cH:Dn P w K mg base 3 "_law_sum" ["_law_draw","_law_things"] iJ) (aD:Dn P w K mg base 5 "_law_condition" ["_law_draw","_law_things","_law_deep"] (dm 2)) (cz:Dn P w K mg base (2*n+7) "_law_steps" ["_law_draw","_law_own","_law_many","_law_deep","_law_helpers"] (fL n)) (cA:Dn P w K mg base 1 "_law_plain" ["_law_helpers"] ig) (cW:Dn P w K mg base 4 "_law_call" ["_law_draw","_law_own","_law_helper_here"] ir):bT P w K mg base dX (2*n+8) f fd ["_law_draw","_law_own","_law_deep","_law_helpers"] (sO (n+1)):=by
 refine F.ok cK (fun vs H Q E h=>?_) (fun cdv A outer s H vs Q E hr h=>?_)
 ·obtain ⟨d,p,q,kk,o,us,hs,rfl,hkn,hd,hO,ho,hH,k⟩:=h
  rfl
 ·obtain ⟨d,p,q,kk,o,us,hs,rfl,hkn,hd,hO,ho,hH,k⟩:=h
  obtain ⟨t3,p3,l3⟩:=ds3 (f:=f) (n:=n) T U J bI cH aD cz cA cW (cdv:=cdv) (A:=A) (outer:=outer) (s:=s) (H0:=H) (E:=E) hr
  obtain ⟨t4,p4,l4⟩:=ds4 (f:=f) (n:=n) T U J bI cH aD cz cA cW (cdv:=cdv) (A:=A) (outer:=outer) (s:=s) (H0:=H) (E:=E) hr
  obtain ⟨t5,p5,l5⟩:=ds5 (f:=f) (n:=n) T U J bI cH aD cz cA cW (cdv:=cdv) (A:=A) (outer:=outer) (s:=s) (H0:=H) (E:=E) hr
  obtain ⟨t6,p6,l6⟩:=ds6 (f:=f) (n:=n) T U J bI cH aD cz cA cW (cdv:=cdv) (A:=A) (outer:=outer) (s:=s) (H0:=H) (E:=E) hr
  obtain ⟨t7,p7,l7⟩:=ds7 (f:=f) (n:=n) T U J bI cH aD cz cA cW (cdv:=cdv) (A:=A) (outer:=outer) (s:=s) (H0:=H) (E:=E) hr
  obtain ⟨t8,p8,l8⟩:=ds8 (f:=f) (n:=n) T U J bI cH aD cz cA cW (cdv:=cdv) (A:=A) (outer:=outer) (s:=s) (H0:=H) (E:=E) hr
  obtain ⟨t9,p9,l9⟩:=ds9 (f:=f) (n:=n) T U J bI cH aD cz cA cW (cdv:=cdv) (A:=A) (outer:=outer) (s:=s) (H0:=H) (E:=E) hr
  obtain ⟨t10,p10,NR⟩:=a9f (f:=f) (n:=n) T U J bI cH aD cz cA cW (cdv:=cdv) (A:=A) (outer:=outer) (s:=s) (H0:=H) (E:=E) hr
  obtain ⟨t11,p11,RU⟩:=a9e (f:=f) (n:=n) T U J bI cH aD cz cA cW (cdv:=cdv) (A:=A) (outer:=outer) (s:=s) (H0:=H) (E:=E) hr
  obtain ⟨iw,fc,bA,aT,aU,bz⟩:=bI
  obtain ⟨lF,jm,iZ,fQ,fU,iY⟩:=cH
  obtain ⟨cF,bY,bD,aZ,bf,bC⟩:=aD
  obtain ⟨jN,iU,iA,fR,fV,iy⟩:=cz
  obtain ⟨kQ,fd_plain,jo,iD,iE,jn⟩:=cA
  obtain ⟨nJ,kO,mR,jK,jL,mL⟩:=cW
  have hu:=bq hr
  rw [show au cN=[_,_,_,sD 3,sD 4,sD 5,sD 6,sD 7,sD 8,sD 9,sD 10,sD 11] from rfl]
  refine ⟨_,(ai (xr (pv 1) (uG rfl (cC (aN (i:=4) cK.nd rfl (Or.inl rfl)) (cC (aN (i:=5) cK.nd rfl (Or.inr rfl)) (cC (aN (i:=6) cK.nd rfl (Or.inl rfl)) (cC (aN (i:=7) cK.nd rfl (Or.inl rfl)) kI))))))
   (ai (aR (i:=8) cK.nd rfl (Or.inl rfl) (aq bA (hr.mono (by first | decide | omega)) rfl aT aU bz .nil az (aa (pv 0) (aa aj ah))))
   (ai (aR (i:=9) cK.nd rfl (Or.inl rfl) (aH cU (pv 4) (aq bA (hr.mono (by first | decide | omega)) rfl aT aU bz .nil az (aa (pv 0) (aa (bF bZ (by rfl) T.len PySem.boot_len (aa (pv 4) ah)) ah))) (fun _ _=>rfl)))
   (ai p3 (ai p4 (ai p5 (ai p6 (ai p7 (ai p8 (ai p9 (ai p10 (ay p11)))))))))))),?_⟩
  obtain ⟨a1,a2,a3,a4,eo,ea,eb,ec,ee⟩:=id hO
  have W:W9 H H d p q a1 a2 a3 a4 o us hs:=⟨fun _ _ z _=>z,hd,eo,ea,eb,ec,ee,hH⟩
  have w1:=ho.w1
  refine ⟨_,rfl,p,_,rfl,aV.of eo,rfl,_,_,rfl,_,_,rfl,_,_,rfl,_,_,rfl,rfl,?_⟩
  refine ⟨_,rfl,d,14,rfl,W.d,(by decide),fun r1 H1 h1 b1 d1=>?_⟩
  have W:=W.next b1 d1
  refine ⟨_,rfl,_,rfl,_,rfl,a1,_,rfl,.inl (ck.of W.ea),d,(o.ws.length:Int),(congrArg (fun z:Nat=>[V.ref d,V.int (z:Int)]) (List.length_map ..)),W.d,by omega,fun r2 H2 h2 b2 d2=>?_⟩
  have hr2:r2 < o.ws.length:=by omega
  have W:=W.next b2 d2
  refine ⟨a1,_,_,_,rfl,rfl,ck.of W.ea,bN (jE hr2),?_⟩
  refine l3 _ d p q a1 a2 a3 a4 kk r1 o.ws[r2] o us hs H _ hkn ho W (fun H43 W=>?_) k
  refine l4 _ d p q a1 a2 a3 a4 kk r1 o.ws[r2] o us hs H _ hkn ho W (fun H44 W=>?_) k
  refine l5 _ d p q a1 a2 a3 a4 kk r1 o.ws[r2] o us hs H _ hkn ho W (fun H45 W=>?_) k
  refine l6 _ d p q a1 a2 a3 a4 kk r1 o.ws[r2] o us hs H _ hkn ho W (fun H46 W=>?_) k
  refine l7 _ d p q a1 a2 a3 a4 kk r1 o.ws[r2] o us hs H _ hkn ho W (fun H47 W=>?_) k
  refine l8 _ d p q a1 a2 a3 a4 kk r1 o.ws[r2] o us hs H _ hkn ho W (fun H48 W=>?_) k
  refine l9 _ d p q a1 a2 a3 a4 kk r1 o.ws[r2] o us hs H _ hkn ho W (fun H49 W=>?_) k
  refine NR _ d p q a1 a2 a3 a4 kk r1 o.ws[r2] o us hs H _ hkn ho W (fun H50 W=>?_) k
  exact RU _ d p q a1 a2 a3 a4 kk r1 o.ws[r2] o us hs H _ hkn ho W k
abbrev lZ:Stmt:=top 41
theorem cB:aO ["_law_draw","_law_name","_law_names_here","_law_many","_law_helpers","_law_params","_law_more","_law_answers","_law_uses","_law_things","_law_known","_law_needs","_law_gives","_law_writes","_law_makes","_law_steps_here"] ["_law_draw","_law_name","_law_names_here","_law_many","_law_helpers"] (ak lZ):=⟨rfl,rfl,rfl,by decide +kernel,rfl,by decide +kernel,by decide +kernel⟩
theorem Hx {f:Addr} {fd:FuncData} {Y:Cy} {fS:Addr} {n:Nat} (F:fG K "_law_helper" "_law_helper" lZ f fd) (T:Txt K mg Y.z.s) (U:fB K mg Y.z) (J:gD K mg Y fS) (bI:Dn P w K mg base 2 "_law_next" ["_law_draw","_law_size"] eS) (aD:Dn P w K mg base 5 "_law_condition" ["_law_draw","_law_things","_law_deep"] (dm 2)) (cz:Dn P w K mg base 13 "_law_steps" ["_law_draw","_law_own","_law_many","_law_deep","_law_helpers"] (fL 3)):bT P w K mg base dX 14 f fd ["_law_draw","_law_name","_law_names_here","_law_many","_law_helpers"] uw:=by
 obtain ⟨iw,fc,bA,aT,aU,bz⟩:=bI
 obtain ⟨cF,bY,bD,aZ,bf,bC⟩:=aD
 obtain ⟨jN,iU,iA,fR,fV,iy⟩:=cz
 refine F.ok cB (fun vs H Q E h=>?_) (fun cdv A outer s H vs Q E hr h=>?_)
 ·obtain ⟨d,l,q,x,m,xs,us,hs,rfl,hd,hx,el,l8,hn,nd,hm,hH,k⟩:=h
  rfl
 ·obtain ⟨d,l,q,x,m,xs,us,hs,rfl,hd,hx,el,l8,hn,nd,hm,hH,k⟩:=h
  have hu:=bq hr
  rw [show au lZ=[_,_,_,_,_,_,_,_,_,_,_,_,_,_,_] from rfl]
  refine ⟨_,(ai (aR (i:=5) cB.nd rfl (Or.inr rfl) (aS aI (by rfl) T.tuple boot_tuple (aa (fO oh (pv 2) kH (eX (aq bA (hr.mono (by first | decide | omega)) rfl aT aU bz .nil az (aa (pv 0) (aa aj ah))))) ah)))
   (ai (aR (i:=6) cB.nd rfl (Or.inl rfl) (bX tK (aq bA (hr.mono (by first | decide | omega)) rfl aT aU bz .nil az (aa (pv 0) (aa aj ah))) aj))
   (ai (aR (i:=5) cB.nd rfl (Or.inr rfl) (bX oG (pv 5) (aS aI (by rfl) T.tuple boot_tuple (aa (cS (bu ["_law_row"] [] [] rfl (by decide +kernel) (by decide +kernel) (by with_unfolding_all rfl) (by exact trivial) (by rfl) rfl (by rfl)) rfl (jj (fO oh (pv 2) (eX aj) (eX (bX ju aj (pv 6))))) (fun _ _ _ _=>(aN (i:=0) (show List.Nodup (["_law_row"]:List Str) by decide +kernel) rfl (Or.inl rfl) (Or.inr rfl))) (fun _ _ _ _=>cI) (fun _ _ _ _=>(bX kg aY (pv 0)))) ah))))
   (ai (aR (i:=7) cB.nd rfl (Or.inr rfl) (aS aI (by rfl) T.tuple boot_tuple (aa (fO oh (pv 2) (eX aj) (eX (bX ju aj (aq bA (hr.mono (by first | decide | omega)) rfl aT aU bz .nil az (aa (pv 0) (aa aj ah)))))) ah)))
   (ai (nc (i:=8) cB.nd rfl (Or.inl rfl) (bu ["_law_row"] [] [] rfl (by decide +kernel) (by decide +kernel) (by with_unfolding_all rfl) (by exact trivial) (by rfl) rfl (by rfl)) rfl (jj (fO oh (pv 2) (eX aj) (eX aj))) (fun _ _ _ _=>(aN (i:=0) (show List.Nodup (["_law_row"]:List Str) by decide +kernel) rfl (Or.inl rfl) (Or.inr rfl))) (fun _ _ _ _=>cI) (fun _ _ _ _=>(pv 0)))
   (ai (aR (i:=9) cB.nd rfl (Or.inl rfl) (bX xy (fO oh (pv 2) kH (eX aj)) (cS (bu ["_law_row"] [] [] rfl (by decide +kernel) (by decide +kernel) (by with_unfolding_all rfl) (by exact trivial) (by rfl) rfl (by rfl)) rfl (jj (pv 8)) (fun _ _ _ _=>(aN (i:=0) (show List.Nodup (["_law_row"]:List Str) by decide +kernel) rfl (Or.inl rfl) (Or.inr rfl))) (fun _ _ _ _=>cI) (fun _ _ _ _=>(bX kg aY (pv 0))))))
   (ai (aR (i:=10) cB.nd rfl (Or.inr rfl) (cS (bu ["_law_param"] [] [] rfl (by decide +kernel) (by decide +kernel) (by with_unfolding_all rfl) (by exact trivial) (by rfl) rfl (by rfl)) rfl (gF (pv 5)) (fun _ _ _ _=>(aN (i:=0) (show List.Nodup (["_law_param"]:List Str) by decide +kernel) rfl (Or.inl rfl) (Or.inr rfl))) (fun _ _ _ _=>cI) (fun _ _ _ _=>(pv 0))))
   (ai (aR (i:=6) cB.nd rfl (Or.inl rfl) (aq bA (hr.mono (by first | decide | omega)) rfl aT aU bz .nil az (aa (pv 0) (aa aj ah))))
   (ai (aR (i:=11) cB.nd rfl (Or.inl rfl) (aS aI (by rfl) T.tuple boot_tuple (aa (cS (bu ["_law_k"] ["_law_draw","_law_known"] [0,10] rfl (by decide +kernel) (by decide +kernel) (by with_unfolding_all rfl) (by exact ⟨rfl,rfl,trivial⟩) (by rfl) rfl (by rfl)) rfl (gT rfl T.range (aa (pv 6) ah)) (fun _ _ _ _=>(aN (i:=0) (show List.Nodup (["_law_k","_law_draw","_law_known"]:List Str) by decide +kernel) rfl (Or.inl rfl) (Or.inr rfl))) (fun _ _ _ _=>cI) (fun _ _ _ _=>(aq bD (hr.mono (by first | decide | omega)) rfl aZ bf bC .nil az (aa (pv 1) (aa (pv 2) (aa aj ah)))))) ah)))
   (ai (aR (i:=6) cB.nd rfl (Or.inl rfl) (aq bA (hr.mono (by first | decide | omega)) rfl aT aU bz .nil az (aa (pv 0) (aa aj ah))))
   (ai (aR (i:=12) cB.nd rfl (Or.inl rfl) (aS aI (by rfl) T.tuple boot_tuple (aa (cS (bu ["_law_k"] ["_law_draw","_law_known","_law_answers"] [0,10,7] rfl (by decide +kernel) (by decide +kernel) (by with_unfolding_all rfl) (by exact ⟨rfl,rfl,rfl,trivial⟩) (by rfl) rfl (by rfl)) rfl (gT rfl T.range (aa (pv 6) ah)) (fun _ _ _ _=>(aN (i:=0) (show List.Nodup (["_law_k","_law_draw","_law_known","_law_answers"]:List Str) by decide +kernel) rfl (Or.inl rfl) (Or.inr rfl))) (fun _ _ _ _=>cI) (fun _ _ _ _=>(aq bD (hr.mono (by first | decide | omega)) rfl aZ bf bC .nil az (aa (pv 1) (aa (bX xy (pv 2) (aS (yt (K:=K) rfl) (by rfl) T.list boot_list (aa (pv 3) ah))) (aa aj ah)))))) ah)))
   (ai (nc (i:=13) cB.nd rfl (Or.inl rfl) (bu ["_law_one"] ["_law_params"] [5] rfl (by decide +kernel) (by decide +kernel) (by with_unfolding_all rfl) (by exact ⟨rfl,trivial⟩) (by rfl) rfl (by rfl)) rfl (jj (fO oh (pv 2) kH (eX aj))) (fun _ _ _ _=>(aN (i:=0) (show List.Nodup (["_law_one","_law_params"]:List Str) by decide +kernel) rfl (Or.inl rfl) (Or.inr rfl))) (fun _ _ _ _=>(sZ (aK (qH (K:=K) rfl) (pv 0) (pv 1) (by rfl)))) (fun _ _ _ _=>(pv 0)))
   (ai (nc (i:=14) cB.nd rfl (Or.inl rfl) (bu ["_law_row"] ["_law_params"] [5] rfl (by decide +kernel) (by decide +kernel) (by with_unfolding_all rfl) (by exact ⟨rfl,trivial⟩) (by rfl) rfl (by rfl)) rfl (jj (pv 8)) (fun _ _ _ _=>(aN (i:=0) (show List.Nodup (["_law_row","_law_params"]:List Str) by decide +kernel) rfl (Or.inl rfl) (Or.inr rfl))) (fun _ _ _ _=>(sZ (aK (qH (K:=K) rfl) (bX kg aY (pv 0)) (pv 1) (by rfl)))) (fun _ _ _ _=>(pv 0)))
   (ai (aR (i:=15) cB.nd rfl (Or.inl rfl) (aq iA (hr.mono (by first | decide | omega)) rfl fR fV iy .nil az (aa (pv 0) (aa (aQ (aa (pv 13) (aa (pv 9) (aa (pv 14) (aa (pv 8) ah))))) (aa (pv 3) (aa aj (aa (pv 4) ah)))))))
   (ay (aJ (aQ (aa (pv 1) (aa (pv 5) (aa (pv 7) (aa (pv 11) (aa (pv 12) (aa (pv 15) ah))))))))))))))))))))))),?_⟩
  have F:bE d H H:=fun _ _ z _=>z
  have D:=hd
  have Qc:∀ y∈xs,y.length≤8:=fun y hy=>(hn y hy).le
  refine ⟨_,rfl,_,rfl,d,3,rfl,D,(by decide),fun r1 H1 h1 b1 d1=>?_⟩
  have el:=b1 _ _ el (aW D el)
  have hH:=hH.next D b1
  have F:=F.trans b1
  have D:=d1
  refine ⟨_,rfl,l,_,rfl,ck.of el,fun pa hpa=>?_⟩
  rw [GU]
  have el:=(new (o:=.lst ((xs.take r1).map V.str)) hpa) _ _ el
  have hH:=hH.same (new (o:=.lst ((xs.take r1).map V.str)) hpa)
  have F:=F.trans (bE.of (new (o:=.lst ((xs.take r1).map V.str)) hpa))
  have D:=D.same (new (o:=.lst ((xs.take r1).map V.str)) hpa)
  have epa:upd H1 pa (.lst ((xs.take r1).map V.str)) pa=some (.lst ((xs.take r1).map V.str)):=af
  refine ⟨pa,_,rfl,.inl ⟨ck.of epa,fun ta NU=>?_⟩⟩
  have el:=(new (o:=.tup ((xs.take r1).map V.str)) NU) _ _ el
  have hH:=hH.same (new (o:=.tup ((xs.take r1).map V.str)) NU)
  have F:=F.trans (bE.of (new (o:=.tup ((xs.take r1).map V.str)) NU))
  have D:=D.same (new (o:=.tup ((xs.take r1).map V.str)) NU)
  have eta:upd (upd H1 pa (.lst ((xs.take r1).map V.str))) ta (.tup ((xs.take r1).map V.str)) ta=some (.tup ((xs.take r1).map V.str)):=af
  generalize (upd (upd H1 pa (.lst ((xs.take r1).map V.str))) ta (.tup ((xs.take r1).map V.str)))=G1 at F D el hH eta  ⊢
  refine ⟨_,rfl,d,3,rfl,D,(by decide),fun r2 H2 h2 b2 d2=>⟨_,_,rfl,rfl,⟨by decide,by decide⟩,?_⟩⟩
  have el:=b2 _ _ el (aW D el)
  have hH:=hH.next D b2
  have eta:=(D.soft b2).t _ _ eta
  have F:=F.trans b2
  have D:=d2
  refine ⟨_,rfl,_,rfl,_,rfl,_,rfl,_,_,rfl,rfl,_,rfl,l,_,rfl,ck.of el,fun pb ON=>?_⟩
  rw [show (6:Int)+(r2:Int) / 2=((6+r2 / 2:Nat):Int) by omega,show (some (6:Int))=some ((6:Nat):Int) from rfl,Ni]
  have msl:((xs.drop 6).take (6+r2 / 2 - 6)).length≤8:=by rw [List.length_take,List.length_drop];omega
  have msm:∀ y∈(xs.drop 6).take (6+r2 / 2 - 6),y∈xs:=fun y hy=>List.mem_of_mem_drop (List.mem_of_mem_take hy)
  generalize (xs.drop 6).take (6+r2 / 2 - 6)=ms at msl msm ⊢
  have el:=(new (o:=.lst (ms.map V.str)) ON) _ _ el
  have hH:=hH.same (new (o:=.lst (ms.map V.str)) ON)
  have eta:=(new (o:=.lst (ms.map V.str)) ON) _ _ eta
  have F:=F.trans (bE.of (new (o:=.lst (ms.map V.str)) ON))
  have D:=D.same (new (o:=.lst (ms.map V.str)) ON)
  have iB:upd H2 pb (.lst (ms.map V.str)) pb=some (.lst (ms.map V.str)):=af
  generalize (upd H2 pb (.lst (ms.map V.str)))=G2 at F D el hH eta iB ⊢
  refine ⟨pb,rfl,⟨_,ck.of iB⟩,gu (xs:=(ms).map V.str) (fun i ys H'=>aF G2 H'∧ys=(((ms).take i).map hsh).map V.str) ⟨aF.refl _,rfl⟩ (fun i ys H' _ q=>ck.of (q.1 _ _ iB)) ?_ ?_⟩
  ·rintro i v ys H' hi ⟨sm,rfl⟩
   obtain ⟨y,hy,rfl⟩:=kj hi
   have hil:=(List.getElem?_eq_some_iff.mp hy).1
   have Qf:=List.mem_of_getElem? hy
   refine ⟨Ext.one,jd ⟨_,rfl,_,_,rfl,rfl,(by have:=Qc y (msm y Qf);show 1+y.length≤sizeLine;exact Nat.le_of_lt (line _ (by omega))),?_,sm,?_⟩⟩
   ·rw [List.length_map,List.length_map,List.length_take]
    exact line _ (by omega)
   ·rw [take_snoc hy,List.map_append,List.map_append]
    rfl
  rintro ys G3 ⟨sm,rfl⟩ qb Qh
  rw [List.length_map,List.take_length]
  have el:=sm _ _ el
  have hH:=hH.same sm
  have eta:=sm _ _ eta
  have iB:=sm _ _ iB
  have F:=F.trans (bE.of sm)
  have D:=D.same sm
  have el:=(new (o:=.lst ((ms.map hsh).map V.str)) Qh) _ _ el
  have hH:=hH.same (new (o:=.lst ((ms.map hsh).map V.str)) Qh)
  have eta:=(new (o:=.lst ((ms.map hsh).map V.str)) Qh) _ _ eta
  have iB:=(new (o:=.lst ((ms.map hsh).map V.str)) Qh) _ _ iB
  have F:=F.trans (bE.of (new (o:=.lst ((ms.map hsh).map V.str)) Qh))
  have D:=D.same (new (o:=.lst ((ms.map hsh).map V.str)) Qh)
  have eqb:upd G3 qb (.lst ((ms.map hsh).map V.str)) qb=some (.lst ((ms.map hsh).map V.str)):=af
  refine ⟨qb,_,rfl,.inl ⟨ck.of eqb,fun tb htb=>?_⟩⟩
  have el:=(new (o:=.tup ((ms.map hsh).map V.str)) htb) _ _ el
  have hH:=hH.same (new (o:=.tup ((ms.map hsh).map V.str)) htb)
  have eta:=(new (o:=.tup ((ms.map hsh).map V.str)) htb) _ _ eta
  have iB:=(new (o:=.tup ((ms.map hsh).map V.str)) htb) _ _ iB
  have F:=F.trans (bE.of (new (o:=.tup ((ms.map hsh).map V.str)) htb))
  have D:=D.same (new (o:=.tup ((ms.map hsh).map V.str)) htb)
  have Ql:upd (upd G3 qb (.lst ((ms.map hsh).map V.str))) tb (.tup ((ms.map hsh).map V.str)) tb=some (.tup ((ms.map hsh).map V.str)):=af
  refine Nm eta Ql (by rw [List.length_take,List.length_map];omega) fun tp G4 TH iL=>?_
  have el:=TH _ _ el
  have hH:=hH.same TH
  have eta:=TH _ _ eta
  have iB:=TH _ _ iB
  have F:=F.trans (bE.of TH)
  have D:=D.same TH
  have psl:(xs.take r1++ms.map hsh).length≤10:=by rw [List.length_append,List.length_take,List.length_map];omega
  have Yb:∀ y∈xs.take r1++ms.map hsh,1≤y.length∧y.length≤20:=fun y hy=>by
   rcases List.mem_append.mp hy with z | z
   ·have:=hn y (List.mem_of_mem_take z);exact ⟨this.ge,by have:=this.le;omega⟩
   ·obtain ⟨w,hw,rfl⟩:=List.mem_map.mp z
    have:=Qc w (msm w hw)
    rw [GH];omega
  have psf:∀ y∈xs.drop 2,y ∉ xs.take r1++ms.map hsh:=fun y hy hz=>by
   rcases List.mem_append.mp hz with z | z
   ·have e:=List.nodup_append.mp (show (xs.take 2++xs.drop 2).Nodup by rw [List.take_append_drop];exact nd)
    have z2:y∈xs.take 2:=by
     have:xs.take r1=(xs.take 2).take r1:=by rw [List.take_take,Nat.min_eq_left (by omega)]
     rw [this] at z
     exact List.mem_of_mem_take z
    exact e.2.2 y z2 y hy rfl
   ·obtain ⟨w,hw,e⟩:=List.mem_map.mp z
    have h1:=(hn y (List.mem_of_mem_drop hy)).no
    rw [← e,Mu] at h1
    exact h1 rfl
  generalize xs.take r1++ms.map hsh=ps at iL psl Yb psf ⊢
  refine ⟨_,rfl,_,rfl,_,rfl,d,3,rfl,D,(by decide),fun r3 H3 h3 b3 d3=>⟨_,_,rfl,rfl,_,rfl,l,_,rfl,ck.of (b3 _ _ el (aW D el)),fun pc Ic=>?_⟩⟩
  have el:=b3 _ _ el (aW D el)
  have hH:=hH.next D b3
  have eta:=(D.soft b3).t _ _ eta
  have iB:=b3 _ _ iB (aW D iB)
  have iL:=(D.soft b3).t _ _ iL
  have F:=F.trans b3
  have D:=d3
  rw [show (3:Int)+(r3:Int)=((3+r3:Nat):Int) by omega,show (some (3:Int))=some ((3:Nat):Int) from rfl,Ni]
  have anl:((xs.drop 3).take (3+r3 - 3)).length≤10:=by rw [List.length_take];omega
  have anm:∀ y∈(xs.drop 3).take (3+r3 - 3),y.length≤20:=fun y hy=>by have:=Qc y (List.mem_of_mem_drop (List.mem_of_mem_take hy));omega
  generalize (xs.drop 3).take (3+r3 - 3)=an at anl anm ⊢
  have el:=(new (o:=.lst (an.map V.str)) Ic) _ _ el
  have hH:=hH.same (new (o:=.lst (an.map V.str)) Ic)
  have eta:=(new (o:=.lst (an.map V.str)) Ic) _ _ eta
  have iB:=(new (o:=.lst (an.map V.str)) Ic) _ _ iB
  have iL:=(new (o:=.lst (an.map V.str)) Ic) _ _ iL
  have F:=F.trans (bE.of (new (o:=.lst (an.map V.str)) Ic))
  have D:=D.same (new (o:=.lst (an.map V.str)) Ic)
  have epc:upd H3 pc (.lst (an.map V.str)) pc=some (.lst (an.map V.str)):=af
  refine ⟨pc,_,rfl,.inl ⟨ck.of epc,fun tc htc=>?_⟩⟩
  have el:=(new (o:=.tup (an.map V.str)) htc) _ _ el
  have hH:=hH.same (new (o:=.tup (an.map V.str)) htc)
  have eta:=(new (o:=.tup (an.map V.str)) htc) _ _ eta
  have iB:=(new (o:=.tup (an.map V.str)) htc) _ _ iB
  have iL:=(new (o:=.tup (an.map V.str)) htc) _ _ iL
  have F:=F.trans (bE.of (new (o:=.tup (an.map V.str)) htc))
  have D:=D.same (new (o:=.tup (an.map V.str)) htc)
  have jX:upd (upd H3 pc (.lst (an.map V.str))) tc (.tup (an.map V.str)) tc=some (.tup (an.map V.str)):=af
  generalize (upd (upd H3 pc (.lst (an.map V.str))) tc (.tup (an.map V.str)))=G5 at F D el hH eta iB iL jX  ⊢
  refine ⟨_,rfl,_,rfl,_,rfl,l,_,rfl,ck.of el,fun pd Qi=>?_⟩
  rw [show (some (6:Int))=some ((6:Nat):Int) from rfl,show (some (8:Int))=some ((8:Nat):Int) from rfl,Ni]
  have usl:((xs.drop 6).take (8 - 6)).length=2:=by rw [List.length_take,List.length_drop,l8];rfl
  have Uj:∀ y∈(xs.drop 6).take (8 - 6),y∈xs:=fun y hy=>List.mem_of_mem_drop (List.mem_of_mem_take hy)
  generalize (xs.drop 6).take (8 - 6)=iI at usl Uj ⊢
  have el:=(new (o:=.lst (iI.map V.str)) Qi) _ _ el
  have hH:=hH.same (new (o:=.lst (iI.map V.str)) Qi)
  have eta:=(new (o:=.lst (iI.map V.str)) Qi) _ _ eta
  have iB:=(new (o:=.lst (iI.map V.str)) Qi) _ _ iB
  have iL:=(new (o:=.lst (iI.map V.str)) Qi) _ _ iL
  have jX:=(new (o:=.lst (iI.map V.str)) Qi) _ _ jX
  have F:=F.trans (bE.of (new (o:=.lst (iI.map V.str)) Qi))
  have D:=D.same (new (o:=.lst (iI.map V.str)) Qi)
  have jO:upd G5 pd (.lst (iI.map V.str)) pd=some (.lst (iI.map V.str)):=af
  generalize (upd G5 pd (.lst (iI.map V.str)))=G6 at F D el hH eta iB iL jX jO ⊢
  refine ⟨pd,rfl,⟨_,ck.of jO⟩,gu (xs:=(iI).map V.str) (fun i ys H'=>aF G6 H'∧ys=(((iI).take i).map id).map V.str) ⟨aF.refl _,rfl⟩ (fun i ys H' _ q=>ck.of (q.1 _ _ jO)) ?_ ?_⟩
  ·rintro i v ys H' hi ⟨sm,rfl⟩
   obtain ⟨y,hy,rfl⟩:=kj hi
   have hil:=(List.getElem?_eq_some_iff.mp hy).1
   have Qf:=List.mem_of_getElem? hy
   refine ⟨Ext.one,jd ⟨_,rfl,?_,sm,?_⟩⟩
   ·rw [List.length_map,List.length_map,List.length_take]
    exact line _ (by omega)
   ·rw [take_snoc hy,List.map_append,List.map_append]
    rfl
  rintro ys G7 ⟨sm,rfl⟩ qd OM
  rw [List.length_map,List.take_length]
  have el:=sm _ _ el
  have hH:=hH.same sm
  have eta:=sm _ _ eta
  have iB:=sm _ _ iB
  have iL:=sm _ _ iL
  have jX:=sm _ _ jX
  have jO:=sm _ _ jO
  have F:=F.trans (bE.of sm)
  have D:=D.same sm
  rw [List.map_id]
  have el:=(new (o:=.lst (iI.map V.str)) OM) _ _ el
  have hH:=hH.same (new (o:=.lst (iI.map V.str)) OM)
  have eta:=(new (o:=.lst (iI.map V.str)) OM) _ _ eta
  have iB:=(new (o:=.lst (iI.map V.str)) OM) _ _ iB
  have iL:=(new (o:=.lst (iI.map V.str)) OM) _ _ iL
  have jX:=(new (o:=.lst (iI.map V.str)) OM) _ _ jX
  have jO:=(new (o:=.lst (iI.map V.str)) OM) _ _ jO
  have F:=F.trans (bE.of (new (o:=.lst (iI.map V.str)) OM))
  have D:=D.same (new (o:=.lst (iI.map V.str)) OM)
  have jY:upd G7 qd (.lst (iI.map V.str)) qd=some (.lst (iI.map V.str)):=af
  generalize (upd G7 qd (.lst (iI.map V.str)))=G8 at F D el hH eta iB iL jX jO jY ⊢
  refine ⟨_,rfl,_,rfl,l,_,rfl,ck.of el,fun pe NV=>?_⟩
  rw [show (some (6:Int))=some ((6:Nat):Int) from rfl,GU]
  have el:=(new (o:=.lst ((xs.take 6).map V.str)) NV) _ _ el
  have hH:=hH.same (new (o:=.lst ((xs.take 6).map V.str)) NV)
  have eta:=(new (o:=.lst ((xs.take 6).map V.str)) NV) _ _ eta
  have iB:=(new (o:=.lst ((xs.take 6).map V.str)) NV) _ _ iB
  have iL:=(new (o:=.lst ((xs.take 6).map V.str)) NV) _ _ iL
  have jX:=(new (o:=.lst ((xs.take 6).map V.str)) NV) _ _ jX
  have jO:=(new (o:=.lst ((xs.take 6).map V.str)) NV) _ _ jO
  have jY:=(new (o:=.lst ((xs.take 6).map V.str)) NV) _ _ jY
  have F:=F.trans (bE.of (new (o:=.lst ((xs.take 6).map V.str)) NV))
  have D:=D.same (new (o:=.lst ((xs.take 6).map V.str)) NV)
  have lG:upd G8 pe (.lst ((xs.take 6).map V.str)) pe=some (.lst ((xs.take 6).map V.str)):=af
  generalize (upd G8 pe (.lst ((xs.take 6).map V.str)))=G9 at F D el hH eta iB iL jX jO jY lG ⊢
  refine ⟨_,rfl,qd,rfl,⟨_,ck.of jY⟩,gu (xs:=(iI).map V.str) (fun i ys H'=>aF G9 H'∧ys=(((iI).take i).map hsh).map V.str) ⟨aF.refl _,rfl⟩ (fun i ys H' _ q=>ck.of (q.1 _ _ jY)) ?_ ?_⟩
  ·rintro i v ys H' hi ⟨sm,rfl⟩
   obtain ⟨y,hy,rfl⟩:=kj hi
   have hil:=(List.getElem?_eq_some_iff.mp hy).1
   have Qf:=List.mem_of_getElem? hy
   refine ⟨Ext.one,jd ⟨_,rfl,_,_,rfl,rfl,(by have:=Qc y (Uj y Qf);show 1+y.length≤sizeLine;exact Nat.le_of_lt (line _ (by omega))),?_,sm,?_⟩⟩
   ·rw [List.length_map,List.length_map,List.length_take]
    exact line _ (by omega)
   ·rw [take_snoc hy,List.map_append,List.map_append]
    rfl
  rintro ys G10 ⟨sm,rfl⟩ qe Mv
  rw [List.length_map,List.take_length]
  have el:=sm _ _ el
  have hH:=hH.same sm
  have eta:=sm _ _ eta
  have iB:=sm _ _ iB
  have iL:=sm _ _ iL
  have jX:=sm _ _ jX
  have jO:=sm _ _ jO
  have jY:=sm _ _ jY
  have lG:=sm _ _ lG
  have F:=F.trans (bE.of sm)
  have D:=D.same sm
  have el:=(new (o:=.lst ((iI.map hsh).map V.str)) Mv) _ _ el
  have hH:=hH.same (new (o:=.lst ((iI.map hsh).map V.str)) Mv)
  have eta:=(new (o:=.lst ((iI.map hsh).map V.str)) Mv) _ _ eta
  have iB:=(new (o:=.lst ((iI.map hsh).map V.str)) Mv) _ _ iB
  have iL:=(new (o:=.lst ((iI.map hsh).map V.str)) Mv) _ _ iL
  have jX:=(new (o:=.lst ((iI.map hsh).map V.str)) Mv) _ _ jX
  have jO:=(new (o:=.lst ((iI.map hsh).map V.str)) Mv) _ _ jO
  have jY:=(new (o:=.lst ((iI.map hsh).map V.str)) Mv) _ _ jY
  have lG:=(new (o:=.lst ((iI.map hsh).map V.str)) Mv) _ _ lG
  have F:=F.trans (bE.of (new (o:=.lst ((iI.map hsh).map V.str)) Mv))
  have D:=D.same (new (o:=.lst ((iI.map hsh).map V.str)) Mv)
  have eqe:upd G10 qe (.lst ((iI.map hsh).map V.str)) qe=some (.lst ((iI.map hsh).map V.str)):=af
  refine ⟨pe,qe,_,_,rfl,rfl,lG,eqe,(by rw [List.length_map,List.length_map,List.length_map,List.length_take];exact Nat.le_of_lt (line _ (by omega))),fun pt Ci=>?_⟩
  rw [← List.map_append]
  have el:=(new (o:=.lst ((xs.take 6++iI.map hsh).map V.str)) Ci) _ _ el
  have hH:=hH.same (new (o:=.lst ((xs.take 6++iI.map hsh).map V.str)) Ci)
  have eta:=(new (o:=.lst ((xs.take 6++iI.map hsh).map V.str)) Ci) _ _ eta
  have iB:=(new (o:=.lst ((xs.take 6++iI.map hsh).map V.str)) Ci) _ _ iB
  have iL:=(new (o:=.lst ((xs.take 6++iI.map hsh).map V.str)) Ci) _ _ iL
  have jX:=(new (o:=.lst ((xs.take 6++iI.map hsh).map V.str)) Ci) _ _ jX
  have jO:=(new (o:=.lst ((xs.take 6++iI.map hsh).map V.str)) Ci) _ _ jO
  have jY:=(new (o:=.lst ((xs.take 6++iI.map hsh).map V.str)) Ci) _ _ jY
  have lG:=(new (o:=.lst ((xs.take 6++iI.map hsh).map V.str)) Ci) _ _ lG
  have F:=F.trans (bE.of (new (o:=.lst ((xs.take 6++iI.map hsh).map V.str)) Ci))
  have D:=D.same (new (o:=.lst ((xs.take 6++iI.map hsh).map V.str)) Ci)
  have nK:upd (upd G10 qe (.lst ((iI.map hsh).map V.str))) pt (.lst ((xs.take 6++iI.map hsh).map V.str)) pt=some (.lst ((xs.take 6++iI.map hsh).map V.str)):=af
  generalize (upd (upd G10 qe (.lst ((iI.map hsh).map V.str))) pt (.lst ((xs.take 6++iI.map hsh).map V.str)))=G11 at F D el hH eta iB iL jX jO jY lG nK ⊢
  refine ⟨_,rfl,tp,rfl,⟨_,aV.of iL⟩,dj (xs:=(ps).map V.str) (fun i ys H'=>aF G11 H'∧ys=(((ps).take i).map id).map V.str) ⟨aF.refl _,rfl⟩ (fun i ys H' _ q=>aV.of (q.1 _ _ iL)) ?_ ?_⟩
  ·rintro i v ys H' hi ⟨sm,rfl⟩
   obtain ⟨y,hy,rfl⟩:=kj hi
   have hil:=(List.getElem?_eq_some_iff.mp hy).1
   have Qf:=List.mem_of_getElem? hy
   refine ⟨Ext.one,jd ⟨_,rfl,?_,sm,?_⟩⟩
   ·rw [List.length_map,List.length_map,List.length_take]
    exact line _ (by omega)
   ·rw [take_snoc hy,List.map_append,List.map_append]
    rfl
  rintro ys N1 ⟨sm,rfl⟩ qk IK
  rw [List.length_map,List.take_length]
  have el:=sm _ _ el
  have hH:=hH.same sm
  have eta:=sm _ _ eta
  have iB:=sm _ _ iB
  have iL:=sm _ _ iL
  have jX:=sm _ _ jX
  have jO:=sm _ _ jO
  have jY:=sm _ _ jY
  have lG:=sm _ _ lG
  have nK:=sm _ _ nK
  have F:=F.trans (bE.of sm)
  have D:=D.same sm
  rw [List.map_id]
  have el:=(new (o:=.lst (ps.map V.str)) IK) _ _ el
  have hH:=hH.same (new (o:=.lst (ps.map V.str)) IK)
  have eta:=(new (o:=.lst (ps.map V.str)) IK) _ _ eta
  have iB:=(new (o:=.lst (ps.map V.str)) IK) _ _ iB
  have iL:=(new (o:=.lst (ps.map V.str)) IK) _ _ iL
  have jX:=(new (o:=.lst (ps.map V.str)) IK) _ _ jX
  have jO:=(new (o:=.lst (ps.map V.str)) IK) _ _ jO
  have jY:=(new (o:=.lst (ps.map V.str)) IK) _ _ jY
  have lG:=(new (o:=.lst (ps.map V.str)) IK) _ _ lG
  have nK:=(new (o:=.lst (ps.map V.str)) IK) _ _ nK
  have F:=F.trans (bE.of (new (o:=.lst (ps.map V.str)) IK))
  have D:=D.same (new (o:=.lst (ps.map V.str)) IK)
  have nY:upd N1 qk (.lst (ps.map V.str)) qk=some (.lst (ps.map V.str)):=af
  generalize (upd N1 qk (.lst (ps.map V.str)))=G13 at F D el hH eta iB iL jX jO jY lG nK nY ⊢
  refine ⟨_,rfl,d,3,rfl,D,(by decide),fun r4 H4 h4 b4 d4=>?_⟩
  have el:=b4 _ _ el (aW D el)
  have hH:=hH.next D b4
  have eta:=(D.soft b4).t _ _ eta
  have iB:=b4 _ _ iB (aW D iB)
  have iL:=(D.soft b4).t _ _ iL
  have jX:=(D.soft b4).t _ _ jX
  have jO:=b4 _ _ jO (aW D jO)
  have jY:=b4 _ _ jY (aW D jY)
  have lG:=b4 _ _ lG (aW D lG)
  have nK:=b4 _ _ nK (aW D nK)
  have nY:=b4 _ _ nY (aW D nY)
  have F:=F.trans b4
  have D:=d4
  refine ⟨_,rfl,(r4:Int),rfl,by omega,by omega,kC (n:=(r4:Int).toNat) (fun i ys H'=>bE d H4 H'∧Dr H' d∧∃ cs:List (Int×Cd),Paired (fun u (q:Int×Cd)=>bg H' q.2 u) ys cs∧(∀ q∈cs,FJ q.2)∧cs.length=i) ⟨fun _ _ z _=>z,D,[],.nil,(fun _ h=>nomatch h),rfl⟩ ?_ ?_⟩
  ·rintro i ys H' hi ⟨F',D',cs,py,gc,lc⟩
   have qI:=aA py
   refine ⟨Ext.one,jd ⟨_,rfl,_,rfl,d,qk,1,ps,rfl,(by decide),D',F' _ _ nY (aW D nY),(by omega),(fun y hy=>by have:=(Yb y hy).2;omega),fun v c H5 b5 d5 D5 Ua g5=>⟨line _ (by omega),F'.trans b5,d5,cs++[(0,c)],bB (L2.Paired.dg py fun _ _ z=>bg.ao (D'.soft b5) z) D5,fun z hz=>?_,?_⟩⟩⟩
   ·rcases List.mem_append.mp hz with z1 | z1
    ·exact gc z z1
    ·rw [List.mem_singleton.mp z1];exact ⟨⟨_,g5⟩,Nat.le_trans Ua (by decide)⟩
   ·rw [List.length_append,lc];rfl
  rintro ys Pn ⟨F',D',csn,py,gcn,lcn⟩ ql Vm
  have el:=F' _ _ el (aW D el)
  have hH:=hH.next D F'
  have eta:=(D.soft F').t _ _ eta
  have iB:=F' _ _ iB (aW D iB)
  have iL:=(D.soft F').t _ _ iL
  have jX:=(D.soft F').t _ _ jX
  have jO:=F' _ _ jO (aW D jO)
  have jY:=F' _ _ jY (aW D jY)
  have lG:=F' _ _ lG (aW D lG)
  have nK:=F' _ _ nK (aW D nK)
  have nY:=F' _ _ nY (aW D nY)
  have F:=F.trans F'
  have D:=D'
  refine ⟨ql,_,rfl,.inl ⟨ck.of af,fun tn uZ=>?_⟩⟩
  have s3:aF Pn (upd (upd Pn ql (.lst ys)) tn (.tup ys)):=aF.new (new Vm) uZ
  have Rn:iR (upd (upd Pn ql (.lst ys)) tn (.tup ys)) csn (.ref tn):=⟨tn,ys,rfl,af,L2.Paired.dg py fun _ _ z=>bg.ao (av.of s3) z⟩
  have el:=s3 _ _ el
  have hH:=hH.same s3
  have eta:=s3 _ _ eta
  have iB:=s3 _ _ iB
  have iL:=s3 _ _ iL
  have jX:=s3 _ _ jX
  have jO:=s3 _ _ jO
  have jY:=s3 _ _ jY
  have lG:=s3 _ _ lG
  have nK:=s3 _ _ nK
  have nY:=s3 _ _ nY
  have F:=F.trans (bE.of s3)
  have D:=D.same s3
  generalize upd (upd Pn ql (.lst ys)) tn (.tup ys)=ZY at F D el hH eta iB iL jX jO jY lG nK nY Rn ⊢
  refine ⟨_,rfl,d,3,rfl,D,(by decide),fun r5 H5 h5 b5 d5=>?_⟩
  have el:=b5 _ _ el (aW D el)
  have hH:=hH.next D b5
  have eta:=(D.soft b5).t _ _ eta
  have iB:=b5 _ _ iB (aW D iB)
  have iL:=(D.soft b5).t _ _ iL
  have jX:=(D.soft b5).t _ _ jX
  have jO:=b5 _ _ jO (aW D jO)
  have jY:=b5 _ _ jY (aW D jY)
  have lG:=b5 _ _ lG (aW D lG)
  have nK:=b5 _ _ nK (aW D nK)
  have nY:=b5 _ _ nY (aW D nY)
  have Rn:=iR.ao (D.soft b5) Rn
  have F:=F.trans b5
  have D:=d5
  refine ⟨_,rfl,(r5:Int),rfl,by omega,by omega,kC (n:=(r5:Int).toNat) (fun i ys H'=>bE d H5 H'∧Dr H' d∧∃ cs:List (Int×Cd),Paired (fun u (q:Int×Cd)=>bg H' q.2 u) ys cs∧(∀ q∈cs,FJ q.2)∧cs.length=i) ⟨fun _ _ z _=>z,D,[],.nil,(fun _ h=>nomatch h),rfl⟩ ?_ ?_⟩
  ·rintro i ys H' hi ⟨F',D',cs,py,gc,lc⟩
   have qI:=aA py
   have ek':=F' _ _ nY (aW D nY)
   have ec':=(D.soft F').t _ _ jX
   refine ⟨Ext.one,jd ⟨_,rfl,_,rfl,_,rfl,tc,_,rfl,.inr (aV.of ec'),fun la hla=>?_⟩⟩
   refine ⟨qk,la,_,_,rfl,rfl,new hla _ _ ek',af,(by rw [List.length_map,List.length_map];exact Nat.le_of_lt (line _ (by omega))),fun lb hlb=>?_⟩
   rw [← List.map_append]
   have B9:=(bE.of (new (o:=.lst (an.map V.str)) hla)).trans (bE.of (d:=d) (new (o:=.lst ((ps++an).map V.str)) hlb))
   have D9:=(D'.same (new (o:=.lst (an.map V.str)) hla)).same (new (o:=.lst ((ps++an).map V.str)) hlb)
   have F9:=F'.trans B9
   have e9:upd (upd H' la (.lst (an.map V.str))) lb (.lst ((ps++an).map V.str)) lb=some (.lst ((ps++an).map V.str)):=af
   refine ⟨d,lb,1,ps++an,rfl,(by decide),D9,e9,(by rw [List.length_append];omega),(fun y hy=>by rcases List.mem_append.mp hy with z | z;(have:=(Yb y z).2;omega);(have:=anm y z;omega)),fun v c H5 b5 d5 D5 Ua g5=>⟨line _ (by omega),F9.trans b5,d5,cs++[(0,c)],bB (L2.Paired.dg py fun _ _ z=>bg.ao (D'.soft (B9.trans b5)) z) D5,fun z hz=>?_,?_⟩⟩
   ·rcases List.mem_append.mp hz with z1 | z1
    ·exact gc z z1
    ·rw [List.mem_singleton.mp z1];exact ⟨⟨_,g5⟩,Nat.le_trans Ua (by decide)⟩
   ·rw [List.length_append,lc];rfl
  rintro ys Pk ⟨F',D',csg,py,gcg,lcg⟩ ql Vm
  have el:=F' _ _ el (aW D el)
  have hH:=hH.next D F'
  have eta:=(D.soft F').t _ _ eta
  have iB:=F' _ _ iB (aW D iB)
  have iL:=(D.soft F').t _ _ iL
  have jX:=(D.soft F').t _ _ jX
  have jO:=F' _ _ jO (aW D jO)
  have jY:=F' _ _ jY (aW D jY)
  have lG:=F' _ _ lG (aW D lG)
  have nK:=F' _ _ nK (aW D nK)
  have nY:=F' _ _ nY (aW D nY)
  have Rn:=iR.ao (D.soft F') Rn
  have F:=F.trans F'
  have D:=D'
  refine ⟨ql,_,rfl,.inl ⟨ck.of af,fun tg htg=>?_⟩⟩
  have s3:aF Pk (upd (upd Pk ql (.lst ys)) tg (.tup ys)):=aF.new (new Vm) htg
  have Rg:iR (upd (upd Pk ql (.lst ys)) tg (.tup ys)) csg (.ref tg):=⟨tg,ys,rfl,af,L2.Paired.dg py fun _ _ z=>bg.ao (av.of s3) z⟩
  have el:=s3 _ _ el
  have hH:=hH.same s3
  have eta:=s3 _ _ eta
  have iB:=s3 _ _ iB
  have iL:=s3 _ _ iL
  have jX:=s3 _ _ jX
  have jO:=s3 _ _ jO
  have jY:=s3 _ _ jY
  have lG:=s3 _ _ lG
  have nK:=s3 _ _ nK
  have nY:=s3 _ _ nY
  have Rn:=iR.ao (av.of s3) Rn
  have F:=F.trans (bE.of s3)
  have D:=D.same s3
  generalize upd (upd Pk ql (.lst ys)) tg (.tup ys)=G15 at F D el hH eta iB iL jX jO jY lG nK nY Rn Rg ⊢
  change yW 12 (.ref tg) [some (.ref d),some (.str x),some (.ref l),some (.int (m:Int)),some (.ref q),some (.ref tp),some (.int (r5:Int)),some (.ref tc),some (.ref qd),some (.ref pt),some (.ref qk),some (.ref tn),none,none,none,none] G15 _
  refine ⟨_,rfl,_,rfl,l,_,rfl,ck.of el,fun pw Ff=>?_⟩
  rw [show (some (6:Int))=some ((6:Nat):Int) from rfl,GU]
  have el:=(new (o:=.lst ((xs.take 6).map V.str)) Ff) _ _ el
  have hH:=hH.same (new (o:=.lst ((xs.take 6).map V.str)) Ff)
  have eta:=(new (o:=.lst ((xs.take 6).map V.str)) Ff) _ _ eta
  have iB:=(new (o:=.lst ((xs.take 6).map V.str)) Ff) _ _ iB
  have iL:=(new (o:=.lst ((xs.take 6).map V.str)) Ff) _ _ iL
  have jX:=(new (o:=.lst ((xs.take 6).map V.str)) Ff) _ _ jX
  have jO:=(new (o:=.lst ((xs.take 6).map V.str)) Ff) _ _ jO
  have jY:=(new (o:=.lst ((xs.take 6).map V.str)) Ff) _ _ jY
  have lG:=(new (o:=.lst ((xs.take 6).map V.str)) Ff) _ _ lG
  have nK:=(new (o:=.lst ((xs.take 6).map V.str)) Ff) _ _ nK
  have nY:=(new (o:=.lst ((xs.take 6).map V.str)) Ff) _ _ nY
  have Rn:=iR.ao (av.of (new (o:=.lst ((xs.take 6).map V.str)) Ff)) Rn
  have Rg:=iR.ao (av.of (new (o:=.lst ((xs.take 6).map V.str)) Ff)) Rg
  have F:=F.trans (bE.of (new (o:=.lst ((xs.take 6).map V.str)) Ff))
  have D:=D.same (new (o:=.lst ((xs.take 6).map V.str)) Ff)
  have AN:upd G15 pw (.lst ((xs.take 6).map V.str)) pw=some (.lst ((xs.take 6).map V.str)):=af
  generalize (upd G15 pw (.lst ((xs.take 6).map V.str)))=G16 at F D el hH eta iB iL jX jO jY lG nK nY Rn Rg AN ⊢
  have x6l:(xs.take 6).length≤6:=by rw [List.length_take];omega
  refine ⟨pw,rfl,⟨_,ck.of AN⟩,gu (xs:=(xs.take 6).map V.str) (fun i ys H'=>aF G16 H'∧∃ ws:List Str,ys=ws.map V.str∧ws.length≤i∧(∀ y∈(xs.take 6).take i,y ∉ ps→y∈ws)) ⟨aF.refl _,[],rfl,Nat.le_refl _,(fun _ h=>nomatch h)⟩ (fun i ys H' _ q=>ck.of (q.1 _ _ AN)) ?_ ?_⟩
  ·rintro i v ys H' hi ⟨sm,ws,rfl,lw,hw⟩
   obtain ⟨y,hy,rfl⟩:=kj hi
   have hil:=(List.getElem?_eq_some_iff.mp hy).1
   have Qf:=List.mem_of_getElem? hy
   have e7:(if true=true then !tQ (.str y) (ps.map V.str) else tQ (.str y) (ps.map V.str))=!decide (y∈ps):=by first | (rw [if_pos rfl,jM];rfl) | rw [if_pos rfl,jM]
   refine ⟨Ext.one,_,rfl,_,rfl,tp,_,rfl,.inr (aV.of (sm _ _ iL)),rfl,i0 _,_,rfl,?_⟩
   rw [e7]
   by_cases hp:y∈ps
   ·refine nu hp ⟨sm,ws,rfl,by omega,fun z hz hnz=>?_⟩
    rw [take_snoc hy] at hz
    rcases List.mem_append.mp hz with h | h
    ·exact hw z h hnz
    ·rw [List.mem_singleton.mp h] at hnz;exact absurd hp hnz
   ·refine pZ hp ⟨_,rfl,(by rw [List.length_map];exact line _ (by omega)),sm,ws++[y],(by rw [List.map_append];rfl),(by rw [List.length_append];show ws.length+1≤i+1;omega),fun z hz hnz=>?_⟩
    rw [take_snoc hy] at hz
    rcases List.mem_append.mp hz with h | h
    ·exact List.mem_append_left _ (hw z h hnz)
    ·exact List.mem_append_right _ h
  rintro ys G17 ⟨sm,wH,rfl,lqw,mqw⟩ qw Cf
  rw [List.length_map,List.take_length] at mqw
  rw [List.length_map] at lqw
  have el:=sm _ _ el
  have hH:=hH.same sm
  have eta:=sm _ _ eta
  have iB:=sm _ _ iB
  have iL:=sm _ _ iL
  have jX:=sm _ _ jX
  have jO:=sm _ _ jO
  have jY:=sm _ _ jY
  have lG:=sm _ _ lG
  have nK:=sm _ _ nK
  have nY:=sm _ _ nY
  have Rn:=iR.ao (av.of sm) Rn
  have Rg:=iR.ao (av.of sm) Rg
  have AN:=sm _ _ AN
  have F:=F.trans (bE.of sm)
  have D:=D.same sm
  have el:=(new (o:=.lst (wH.map V.str)) Cf) _ _ el
  have hH:=hH.same (new (o:=.lst (wH.map V.str)) Cf)
  have eta:=(new (o:=.lst (wH.map V.str)) Cf) _ _ eta
  have iB:=(new (o:=.lst (wH.map V.str)) Cf) _ _ iB
  have iL:=(new (o:=.lst (wH.map V.str)) Cf) _ _ iL
  have jX:=(new (o:=.lst (wH.map V.str)) Cf) _ _ jX
  have jO:=(new (o:=.lst (wH.map V.str)) Cf) _ _ jO
  have jY:=(new (o:=.lst (wH.map V.str)) Cf) _ _ jY
  have lG:=(new (o:=.lst (wH.map V.str)) Cf) _ _ lG
  have nK:=(new (o:=.lst (wH.map V.str)) Cf) _ _ nK
  have nY:=(new (o:=.lst (wH.map V.str)) Cf) _ _ nY
  have Rn:=iR.ao (av.of (new (o:=.lst (wH.map V.str)) Cf)) Rn
  have Rg:=iR.ao (av.of (new (o:=.lst (wH.map V.str)) Cf)) Rg
  have AN:=(new (o:=.lst (wH.map V.str)) Cf) _ _ AN
  have F:=F.trans (bE.of (new (o:=.lst (wH.map V.str)) Cf))
  have D:=D.same (new (o:=.lst (wH.map V.str)) Cf)
  have IP:upd G17 qw (.lst (wH.map V.str)) qw=some (.lst (wH.map V.str)):=af
  generalize (upd G17 qw (.lst (wH.map V.str)))=G18 at F D el hH eta iB iL jX jO jY lG nK nY Rn Rg AN IP ⊢
  change yW 13 (.ref qw) [some (.ref d),some (.str x),some (.ref l),some (.int (m:Int)),some (.ref q),some (.ref tp),some (.int (r5:Int)),some (.ref tc),some (.ref qd),some (.ref pt),some (.ref qk),some (.ref tn),some (.ref tg),none,none,none] G18 _
  have ww1:1≤wH.length:=by
   have h2:2 < xs.length:=by omega
   have m1:xs[2]∈xs.take 6:=by
    rw [List.mem_iff_getElem?]
    exact ⟨2,by rw [List.getElem?_take_of_lt (by decide),List.getElem?_eq_getElem h2]⟩
   have m2:xs[2]∈xs.drop 2:=by
    rw [List.mem_iff_getElem?]
    exact ⟨0,by rw [List.getElem?_drop,List.getElem?_eq_getElem h2]⟩
   exact List.length_pos_of_mem (mqw _ m1 (psf _ m2))
  refine ⟨_,rfl,qd,rfl,⟨_,ck.of jY⟩,gu (xs:=(iI).map V.str) (fun i ys H'=>aF G18 H'∧∃ ws:List Str,ys=ws.map V.str∧ws.length≤i∧(∀ y∈(iI).take i,hsh y ∉ ps→y∈ws)) ⟨aF.refl _,[],rfl,Nat.le_refl _,(fun _ h=>nomatch h)⟩ (fun i ys H' _ q=>ck.of (q.1 _ _ jY)) ?_ ?_⟩
  ·rintro i v ys H' hi ⟨sm,ws,rfl,lw,hw⟩
   obtain ⟨y,hy,rfl⟩:=kj hi
   have hil:=(List.getElem?_eq_some_iff.mp hy).1
   have Qf:=List.mem_of_getElem? hy
   have e7:(if true=true then !tQ (.str (Str.ofString "#"++y)) (ps.map V.str) else tQ (.str (Str.ofString "#"++y)) (ps.map V.str))=!decide ((hsh y)∈ps):=by first | (rw [if_pos rfl,jM];rfl) | rw [if_pos rfl,jM]
   refine ⟨Ext.one,_,rfl,_,_,rfl,rfl,(by have:=Qc y (Uj y Qf);show 1+y.length≤sizeLine;exact Nat.le_of_lt (line _ (by omega))),_,rfl,tp,_,rfl,.inr (aV.of (sm _ _ iL)),rfl,i0 _,_,rfl,?_⟩
   rw [e7]
   by_cases hp:(hsh y)∈ps
   ·refine nu hp ⟨sm,ws,rfl,by omega,fun z hz hnz=>?_⟩
    rw [take_snoc hy] at hz
    rcases List.mem_append.mp hz with h | h
    ·exact hw z h hnz
    ·rw [List.mem_singleton.mp h] at hnz;exact absurd hp hnz
   ·refine pZ hp ⟨_,rfl,(by rw [List.length_map];exact line _ (by omega)),sm,ws++[y],(by rw [List.map_append];rfl),(by rw [List.length_append];show ws.length+1≤i+1;omega),fun z hz hnz=>?_⟩
    rw [take_snoc hy] at hz
    rcases List.mem_append.mp hz with h | h
    ·exact List.mem_append_left _ (hw z h hnz)
    ·exact List.mem_append_right _ h
  rintro ys G19 ⟨sm,wI,rfl,lqm,mqm⟩ qm Bq
  rw [List.length_map,List.take_length] at mqm
  rw [List.length_map] at lqm
  have el:=sm _ _ el
  have hH:=hH.same sm
  have eta:=sm _ _ eta
  have iB:=sm _ _ iB
  have iL:=sm _ _ iL
  have jX:=sm _ _ jX
  have jO:=sm _ _ jO
  have jY:=sm _ _ jY
  have lG:=sm _ _ lG
  have nK:=sm _ _ nK
  have nY:=sm _ _ nY
  have Rn:=iR.ao (av.of sm) Rn
  have Rg:=iR.ao (av.of sm) Rg
  have AN:=sm _ _ AN
  have IP:=sm _ _ IP
  have F:=F.trans (bE.of sm)
  have D:=D.same sm
  have el:=(new (o:=.lst (wI.map V.str)) Bq) _ _ el
  have hH:=hH.same (new (o:=.lst (wI.map V.str)) Bq)
  have eta:=(new (o:=.lst (wI.map V.str)) Bq) _ _ eta
  have iB:=(new (o:=.lst (wI.map V.str)) Bq) _ _ iB
  have iL:=(new (o:=.lst (wI.map V.str)) Bq) _ _ iL
  have jX:=(new (o:=.lst (wI.map V.str)) Bq) _ _ jX
  have jO:=(new (o:=.lst (wI.map V.str)) Bq) _ _ jO
  have jY:=(new (o:=.lst (wI.map V.str)) Bq) _ _ jY
  have lG:=(new (o:=.lst (wI.map V.str)) Bq) _ _ lG
  have nK:=(new (o:=.lst (wI.map V.str)) Bq) _ _ nK
  have nY:=(new (o:=.lst (wI.map V.str)) Bq) _ _ nY
  have Rn:=iR.ao (av.of (new (o:=.lst (wI.map V.str)) Bq)) Rn
  have Rg:=iR.ao (av.of (new (o:=.lst (wI.map V.str)) Bq)) Rg
  have AN:=(new (o:=.lst (wI.map V.str)) Bq) _ _ AN
  have IP:=(new (o:=.lst (wI.map V.str)) Bq) _ _ IP
  have F:=F.trans (bE.of (new (o:=.lst (wI.map V.str)) Bq))
  have D:=D.same (new (o:=.lst (wI.map V.str)) Bq)
  have SG:upd G19 qm (.lst (wI.map V.str)) qm=some (.lst (wI.map V.str)):=af
  generalize (upd G19 qm (.lst (wI.map V.str)))=G20 at F D el hH eta iB iL jX jO jY lG nK nY Rn Rg AN IP SG ⊢
  change yW 14 (.ref qm) [some (.ref d),some (.str x),some (.ref l),some (.int (m:Int)),some (.ref q),some (.ref tp),some (.int (r5:Int)),some (.ref tc),some (.ref qd),some (.ref pt),some (.ref qk),some (.ref tn),some (.ref tg),some (.ref qw),none,none] G20 _
  refine ⟨_,rfl,_,rfl,_,rfl,_,rfl,_,rfl,(szl 4),fun to hto=>?_⟩
  have el:=(new (o:=.tup ([V.ref qw,V.ref pt,V.ref qm,V.ref qd])) hto) _ _ el
  have hH:=hH.same (new (o:=.tup ([V.ref qw,V.ref pt,V.ref qm,V.ref qd])) hto)
  have eta:=(new (o:=.tup ([V.ref qw,V.ref pt,V.ref qm,V.ref qd])) hto) _ _ eta
  have iB:=(new (o:=.tup ([V.ref qw,V.ref pt,V.ref qm,V.ref qd])) hto) _ _ iB
  have iL:=(new (o:=.tup ([V.ref qw,V.ref pt,V.ref qm,V.ref qd])) hto) _ _ iL
  have jX:=(new (o:=.tup ([V.ref qw,V.ref pt,V.ref qm,V.ref qd])) hto) _ _ jX
  have jO:=(new (o:=.tup ([V.ref qw,V.ref pt,V.ref qm,V.ref qd])) hto) _ _ jO
  have jY:=(new (o:=.tup ([V.ref qw,V.ref pt,V.ref qm,V.ref qd])) hto) _ _ jY
  have lG:=(new (o:=.tup ([V.ref qw,V.ref pt,V.ref qm,V.ref qd])) hto) _ _ lG
  have nK:=(new (o:=.tup ([V.ref qw,V.ref pt,V.ref qm,V.ref qd])) hto) _ _ nK
  have nY:=(new (o:=.tup ([V.ref qw,V.ref pt,V.ref qm,V.ref qd])) hto) _ _ nY
  have Rn:=iR.ao (av.of (new (o:=.tup ([V.ref qw,V.ref pt,V.ref qm,V.ref qd])) hto)) Rn
  have Rg:=iR.ao (av.of (new (o:=.tup ([V.ref qw,V.ref pt,V.ref qm,V.ref qd])) hto)) Rg
  have AN:=(new (o:=.tup ([V.ref qw,V.ref pt,V.ref qm,V.ref qd])) hto) _ _ AN
  have IP:=(new (o:=.tup ([V.ref qw,V.ref pt,V.ref qm,V.ref qd])) hto) _ _ IP
  have SG:=(new (o:=.tup ([V.ref qw,V.ref pt,V.ref qm,V.ref qd])) hto) _ _ SG
  have F:=F.trans (bE.of (new (o:=.tup ([V.ref qw,V.ref pt,V.ref qm,V.ref qd])) hto))
  have D:=D.same (new (o:=.tup ([V.ref qw,V.ref pt,V.ref qm,V.ref qd])) hto)
  have eto:upd G20 to (.tup ([V.ref qw,V.ref pt,V.ref qm,V.ref qd])) to=some (.tup ([V.ref qw,V.ref pt,V.ref qm,V.ref qd])):=af
  have o9:Own.ok ⟨wH,xs.take 6++iI.map hsh,wI,iI⟩:=⟨ww1,by show wH.length≤20;omega,by show 1≤(xs.take 6++iI.map hsh).length;rw [List.length_append,List.length_map];omega,by show (xs.take 6++iI.map hsh).length≤20;rw [List.length_append,List.length_map];omega,fun y hy=>by
    rcases List.mem_append.mp hy with z | z
    ·have:=Qc y (List.mem_of_mem_take z);omega
    ·obtain ⟨w,hw,rfl⟩:=List.mem_map.mp z
     have:=Qc w (Uj w hw)
     rw [GH];omega,by show wI.length≤20;omega,by show 1≤iI.length;omega,by show iI.length≤20;omega,fun y hy=>by have:=Qc y (Uj y hy);omega⟩
  refine ⟨_,rfl,_,rfl,d,to,q,m,2,⟨wH,xs.take 6++iI.map hsh,wI,iI⟩,us,hs,rfl,(by decide),hm,D,⟨qw,pt,qm,qd,eto,IP,nK,SG,jY⟩,o9,hH,fun ts wss lss H70 BQ d70 E70 P70 O70 a9g b9h=>?_⟩
  have el:=BQ _ _ el (aW D el)
  have hH:=hH.next D BQ
  have eta:=(D.soft BQ).t _ _ eta
  have iB:=BQ _ _ iB (aW D iB)
  have iL:=(D.soft BQ).t _ _ iL
  have jX:=(D.soft BQ).t _ _ jX
  have jO:=BQ _ _ jO (aW D jO)
  have jY:=BQ _ _ jY (aW D jY)
  have lG:=BQ _ _ lG (aW D lG)
  have nK:=BQ _ _ nK (aW D nK)
  have nY:=BQ _ _ nY (aW D nY)
  have Rn:=iR.ao (D.soft BQ) Rn
  have Rg:=iR.ao (D.soft BQ) Rg
  have AN:=BQ _ _ AN (aW D AN)
  have IP:=BQ _ _ IP (aW D IP)
  have SG:=BQ _ _ SG (aW D SG)
  have F:=F.trans BQ
  have D:=d70
  refine ⟨_,rfl,_,rfl,_,rfl,_,rfl,_,rfl,_,rfl,(szl 6),fun qq hq=>?_⟩
  have sq:=new (o:=.tup [V.str x,V.ref tp,V.ref tc,V.ref tn,V.ref tg,V.ref ts]) hq
  refine k (.ref qq) ⟨0,x,ps,an,csn,csg,lss⟩ _ (F.new hq) (D.same sq) ⟨qq,tp,tc,.ref tn,.ref tg,ts,wss,rfl,af,sq _ _ iL,sq _ _ jX,iR.ao (av.of sq) Rn,iR.ao (av.of sq) Rg,sq _ _ E70,jZ.ao (av.of sq) P70⟩ ⟨⟨psl,anl,by show csn.length≤10;omega,gcn,by show csg.length≤10;omega,gcg,by show lss.length≤10;omega,O70,a9g⟩,⟨hx,Yb,anm⟩⟩ rfl
abbrev qV:Stmt:=top 42
theorem jG:aO ["_law_draw","_law_many","_law_titles","_law_helpers","_law_k"] ["_law_draw","_law_many"] (ak qV):=⟨rfl,rfl,rfl,by decide +kernel,rfl,by decide +kernel,by decide +kernel⟩
theorem EY {f:Addr} {fd:FuncData} {Y:Cy} {fS:Addr} {n:Nat} (F:fG K "_law_program" "_law_program" qV f fd) (T:Txt K mg Y.z.s) (U:fB K mg Y.z) (J:gD K mg Y fS) (OZ:Dn P w K mg base 3 "_law_names" ["_law_draw","_law_many"] wQ) (bI:Dn P w K mg base 2 "_law_next" ["_law_draw","_law_size"] eS) (Nb:Dn P w K mg base 14 "_law_helper" ["_law_draw","_law_name","_law_names_here","_law_many","_law_helpers"] uw):bT P w K mg base dX 15 f fd ["_law_draw","_law_many"] mW:=by
 obtain ⟨Zb,Vu,Hh,Bj,Bo,GZ⟩:=OZ
 obtain ⟨iw,fc,bA,aT,aU,bz⟩:=bI
 obtain ⟨Vy,T4,ND,HH,HN,Nq⟩:=Nb
 refine F.ok jG (fun vs H Q E h=>?_) (fun cdv A outer s H vs Q E hr h=>?_)
 ·obtain ⟨d,m,rfl,hd,hm,k⟩:=h
  rfl
 ·obtain ⟨d,m,rfl,hd,hm,k⟩:=h
  have hu:=bq hr
  rw [show au qV=[_,_,_,_] from rfl]
  refine ⟨_,(ai (aR (i:=2) jG.nd rfl (Or.inl rfl) (aq Hh (hr.mono (by first | decide | omega)) rfl Bj Bo GZ .nil az (aa (pv 0) (aa aj ah))))
   (ai (aR (i:=3) jG.nd rfl (Or.inl rfl) (cZ ah))
   (ai (oE PassesOwn.never rfl (gT rfl T.range (aa (aH cU (cZ (aa aj (aa aj (aa aj (aa aj ah))))) (aq bA (hr.mono (by first | decide | omega)) rfl aT aU bz .nil az (aa (pv 0) (aa aj ah))) (fun _ _=>rfl)) ah)) (aN (i:=4) jG.nd rfl (Or.inl rfl)) (ay (gO (q9 PySem.F.plainAttrs_list PySem.F.slot_list_append PySem.F.type_list_append lU (pv 3) (aa (aq ND (hr.mono (by first | decide | omega)) rfl HH HN Nq .nil az (aa (pv 0) (aa (aH cU (pv 2) (pv 4) (fun _ _=>rfl)) (aa (aq Hh (hr.mono (by first | decide | omega)) rfl Bj Bo GZ .nil az (aa (pv 0) (aa aj ah))) (aa (aq bA (hr.mono (by first | decide | omega)) rfl aT aU bz .nil az (aa (pv 0) (aa (bX ju (pv 1) aj) ah))) (aa (aS ja (by rfl) T.list boot_list (aa (pv 3) ah)) ah)))))) ah)))))
   (ay (aJ (pv 3)))))),?_⟩
  refine ⟨_,rfl,d,3,rfl,hd,(by decide),fun tl ts H1 b1 d1 f1 e1 l3 hn nd=>?_⟩
  refine ⟨(Nat.zero_le _),fun P0 hP=>?_⟩
  have nPd:P0≠d:=d1.ne hP
  have HP:H P0=none:=b1.free hP nPd
  have d2:=d1.same (new (o:=.lst []) hP)
  have e2:=new (o:=.lst []) hP _ _ e1
  have F2:=b1.new (o:=.lst []) hP
  have eP0:upd H1 P0 (.lst []) P0=some (.lst []):=af
  generalize upd H1 P0 (.lst [])=G1 at d2 e2 F2 eP0 ⊢
  refine ⟨(szl 4),fun Lc OQ=>?_⟩
  have nL:Lc≠d:=d2.ne OQ
  have d3:=d2.same (new (o:=.lst [V.int 1,V.int 1,V.int 2,V.int 2]) OQ)
  have e3:=new (o:=.lst [V.int 1,V.int 1,V.int 2,V.int 2]) OQ _ _ e2
  have F3:=F2.new (o:=.lst [V.int 1,V.int 1,V.int 2,V.int 2]) OQ
  have eP3:=new (o:=.lst [V.int 1,V.int 1,V.int 2,V.int 2]) OQ _ _ eP0
  have eL:upd G1 Lc (.lst [V.int 1,V.int 1,V.int 2,V.int 2]) Lc=some (.lst [V.int 1,V.int 1,V.int 2,V.int 2]):=af
  generalize upd G1 Lc (.lst [V.int 1,V.int 1,V.int 2,V.int 2])=G2 at d3 e3 F3 eP3 eL ⊢
  refine ⟨_,rfl,d,4,rfl,d3,(by decide),fun r0 H2 h0 b2 d4=>?_⟩
  have eL2:=b2 _ _ eL nL
  have e4:=b2 _ _ e3 (aW d3 e3)
  have eP4:=b2 _ _ eP3 nPd
  have F4:=F3.trans b2
  obtain ⟨cn,hcn,c1,c2⟩:∃ cn:Nat,([V.int 1,V.int 1,V.int 2,V.int 2]:List V)[r0]?=some (V.int (cn:Int))∧1≤cn∧cn≤2:=by
   match r0,h0 with
   | 0,_=>exact ⟨1,rfl,by decide,by decide⟩
   | 1,_=>exact ⟨1,rfl,by decide,by decide⟩
   | 2,_=>exact ⟨2,rfl,by decide,by decide⟩
   | 3,_=>exact ⟨2,rfl,by decide,by decide⟩
   | m+4,hh=>exact absurd hh (by omega)
  refine ⟨Lc,_,_,_,rfl,rfl,ck.of eL2,bN hcn,?_⟩
  refine ⟨(cn:Int),rfl,by omega,by omega,nV (n:=(cn:Int).toNat) (fun i σ H'=>∃ (k4:Option V) (us:List V) (hs:List Hl),σ=[some (.ref d),some (.int (m:Int)),some (.ref tl),some (.ref P0),k4]∧bE d H H'∧Dr H' d∧H' tl=some (.lst (ts.map V.str))∧lJ H' P0 us hs∧hs.length=i∧hs.map (·.nm)=ts.take i) ⟨none,[],[],rfl,F4,d4,e4,⟨eP4,.nil,(fun _ h=>nomatch h),Nat.zero_le _⟩,rfl,rfl⟩ ?_ ?_⟩
  ·rintro i σ H' hi ⟨k4,us,hs,rfl,F,D,et,hH,lh,hnm⟩
   have il:i < ts.length:=by omega
   have rV:=aA hH.2.1
   refine ⟨_,rfl,.inl ⟨rfl,_,ck.of hH.1⟩,_,rfl,_,rfl,_,rfl,tl,_,_,_,rfl,rfl,ck.of et,bN (by rw [Nat.zero_add];exact jE il),?_⟩
   refine ⟨_,rfl,d,8,rfl,D,(by decide),fun l2 ys H5 b5 d5 f5 e5 l8 hn8 nd8=>?_⟩
   have et5:=b5 _ _ et (aW D et)
   have hH5:=hH.next D b5
   refine ⟨_,rfl,_,rfl,_,_,rfl,rfl,d,((m:Int)+1),rfl,d5,by omega,fun r6 H6 h6 b6 d6=>?_⟩
   have et6:=b6 _ _ et5 (aW d5 et5)
   have Vq:=hH5.next d5 b6
   have e6:=b6 _ _ e5 (aW d5 e5)
   refine ⟨_,rfl,P0,_,rfl,.inl (ck.of Vq.1),fun lc hlc=>?_⟩
   have s7:=new (o:=.lst us) hlc
   have hC:lJ (upd H6 lc (.lst us)) lc us hs:=⟨af,(Vq.same s7).2.1,Vq.2.2.1,Vq.2.2.2⟩
   refine ⟨d,l2,lc,ts[i],r6,ys,us,hs,rfl,d6.same s7,hn _ (List.getElem_mem il),s7 _ _ e6,l8,hn8,nd8,by omega,hC,fun v h H8 b8 d8 R8 g8 nm8=>?_⟩
   have TY:=(Vq.same s7).next (d6.same s7) b8
   have et8:=b8 _ _ (s7 _ _ et6) (aW (d6.same s7) (s7 _ _ et6))
   refine ⟨P0,us,_,rfl,rfl,TY.1,line _ (by omega),?_⟩
   have bP:bE P0 H8 (upd H8 P0 (.lst (us++[v]))):=bE.upd
   have kP:av H8 (upd H8 P0 (.lst (us++[v]))):=av.soft bP TY.1 zx
   have F8:=(((F.trans b5).trans b6).trans (bE.of s7)).trans b8
   refine ⟨_,us++[v],hs++[h],rfl,fun b' o' e' n'=>?_,let ⟨x,y,e⟩:=d8;⟨x,y,bP _ _ e nPd.symm⟩,bP _ _ et8 (fun z=>?_),⟨af,bB (L2.Paired.dg TY.2.1 fun _ _ z=>IW.ao kP z) (IW.ao kP R8),fun q hq=>?_,by rw [List.length_append,lh];show i+1≤10;omega⟩,by rw [List.length_append,lh];rfl,?_⟩
   ·rw [aX (aB e' HP)];exact F8 b' o' e' n'
   ·rw [z] at et8
    have z2:=et8.symm.trans TY.1
    have z3:ts.map V.str=us:=HO.lst.inj (Option.some.inj z2)
    have hp:=TY.2.1
    rw [← z3] at hp
    cases ts with
    | nil=>exact absurd il (by simp)
    | cons a b=>cases hp with | cons x y=>obtain ⟨_,_,_,_,_,_,_,e,_⟩:=x;cases e
   ·rcases List.mem_append.mp hq with z | z
    ·exact TY.2.2.1 q z
    ·rw [List.mem_singleton.mp z];exact g8
   ·rw [List.map_append,hnm,take_snoc (List.getElem?_eq_getElem il)]
    show _++[h.nm]=_
    rw [nm8]
  rintro σ H' ⟨k4,us,hs,rfl,F,D,et,hH,lh,hnm⟩
  refine ⟨_,rfl,k P0 us hs H' F D HP hH (by rw [lh];omega) ?_⟩
  rw [hnm]
  exact nd.sublist (List.take_sublist _ _)
abbrev fM:Stmt:=top 53
theorem fk:aO ["_law_step_here","_law_told","_law_kinds","_law_words","_law_found"] ["_law_step_here","_law_told"] (ak fM):=⟨rfl,rfl,rfl,by decide +kernel,rfl,by decide +kernel,by decide +kernel⟩
abbrev sF (i:Nat):Stmt:=(au fM).getD i (.Pass ⟨0,0,0,0⟩)
theorem fl5 {f:Addr} {Y:Cy} {fS:Addr} {n:Nat} (T:Txt K mg Y.z.s) (U:fB K mg Y.z) (J:gD K mg Y fS) (W:Nx K Y) (bh:Dn P w K mg base (3*n+9) "_law_block_fields" ["_law_step_here","_law_told"] (jF Y (n+1))) {cdv:Value} {A:Around} {outer:List Env} {s:Shared} {H0:Hp} {E:XK} (hr:dZ (3*n+9) (A.deeper (envOfC "_law_fields" (ak fM) s.heap.objs.size f cdv))) :
  ∃ t,PS (jQ dX P w K mg base ["_law_step_here","_law_told","_law_kinds","_law_words","_law_found"] "_law_fields" (ak fM) f cdv A outer s H0 E).uH (sF 5) t∧∀ (D:Ends) (p r:Addr) (s:cV) (x2 x3:Option V) (H:Hp),cD Y H s (.ref p)→ie H s (.ref r)→s.ok→(∀ H',aF H H'→D.nx [some (.ref p),some (.ref r),x2,x3,none] H')→(∀ H',aF H H'→D.rt (.bl true) H')→t D [some (.ref p),some (.ref r),x2,x3,none] H:=by
 obtain ⟨fY,eY,eV,dS,dW,eU⟩:=bh
 have hu:=bq hr
 refine ⟨_,(cO (PW.pt (lA (aK lT (aH aG (pv 1) aj (fun _ _=>rfl)) (aQ (tG (xs:=["let","divide","fetch"]) rfl)) (by rfl)) (jH (aK Gp (aE (pv 0) rfl) (aH aG (pv 1) aj (fun _ _=>rfl)) (aP _))))) (ay (aJ ng)) bx),fun D p r s x2 x3 H hs hP ho nx k=>?_⟩
 obtain ⟨r0,iI,e0,qi⟩:=iC ho hP
 cases e0
 by_cases hk:kd s=0
 ·cases s with
  | ny at_ c t e=>exact absurd hk (by show ¬ (7=0);decide)
  | rep at_ c hs f b=>exact absurd hk (by show ¬ (8=0);decide)
  | flat kk at_ as =>
  have hk:kk=0:=hk
  subst hk
  unfold cD at hs
  unfold ie at hP
  obtain ⟨q,dx,us,e,sh,ep,pp⟩:=hs
  cases e
  obtain ⟨r',us',e',er,iQ⟩:=hP
  cases e'
  obtain ⟨x0,a1,m1,rfl⟩:=sh
  cases pp with
  | cons h0 pp =>
  cases iQ with
  | cons g0 iQ =>
   cases pp with
   | cons h1 pp =>
   cases iQ with
   | cons g1 iQ =>
   cases pp
   cases iQ
   have h0:_=V.str x0:=h0
   subst h0
   have g0:_=V.str x0:=g0
   subst g0
   obtain ⟨r1,rfl,S1⟩:=h1
   obtain ⟨d1,yd,es1,Uc,_⟩:=id S1
   obtain ⟨v1,rfl,D1⟩:=g1
   refine ⟨_,rfl,r,_,0,_,rfl,rfl,aV.of er,rfl,(szl 3),fun q1 hq1=>?_⟩
   have vH:=new (o:=.tup (([("let":Str),"divide","fetch"]:List Str).map V.str)) hq1
   have jD:upd H q1 (.tup (([("let":Str),"divide","fetch"]:List Str).map V.str)) q1=some (.tup (([("let":Str),"divide","fetch"]:List Str).map V.str)):=af
   have sA:=vH
   clear vH
   generalize upd H q1 (.tup (([("let":Str),"divide","fetch"]:List Str).map V.str))=G1 at sA jD ⊢
   refine ⟨q1,_,rfl,.inr (aV.of jD),rfl,rfl,_,rfl,ifT (by decide +kernel) ?_⟩
   exact ⟨_,rfl,p,_,dx,_,_,rfl,(sA _ _ ep),J.cl 0 (by decide),J.na 0 _ (by decide) (by decide +kernel),cG (by decide +kernel) (eu),_,rfl,r,_,2,_,rfl,rfl,aV.of (sA _ _ er),rfl,rfl,_,rfl,nu rfl (nx _ sA)⟩
 by_cases hk1:kd s=1
 ·have hk:=hk1
  cases s with
  | ny at_ c t e=>exact absurd hk (by show ¬ (7=1);decide)
  | rep at_ c hs f b=>exact absurd hk (by show ¬ (8=1);decide)
  | flat kk at_ as =>
  have hk:kk=1:=hk
  subst hk
  unfold cD at hs
  unfold ie at hP
  obtain ⟨q,dx,us,e,sh,ep,pp⟩:=hs
  cases e
  obtain ⟨r',us',e',er,iQ⟩:=hP
  cases e'
  obtain ⟨x0,x1,a2,m2,a3,m3,rfl⟩:=sh
  cases pp with
  | cons h0 pp =>
  cases iQ with
  | cons g0 iQ =>
   cases pp with
   | cons h1 pp =>
   cases iQ with
   | cons g1 iQ =>
    cases pp with
    | cons h2 pp =>
    cases iQ with
    | cons g2 iQ =>
     cases pp with
     | cons h3 pp =>
     cases iQ with
     | cons g3 iQ =>
     cases pp
     cases iQ
     have h0:_=V.str x0:=h0
     subst h0
     have g0:_=V.str x0:=g0
     subst g0
     have h1:_=V.str x1:=h1
     subst h1
     have g1:_=V.str x1:=g1
     subst g1
     obtain ⟨r2,rfl,S2⟩:=h2
     obtain ⟨d2,we,Ck,O9,_⟩:=id S2
     obtain ⟨v2,rfl,D2⟩:=g2
     obtain ⟨r3,rfl,S3⟩:=h3
     obtain ⟨d3,QS,VV,Tt3,_⟩:=id S3
     obtain ⟨v3,rfl,D3⟩:=g3
     refine ⟨_,rfl,r,_,0,_,rfl,rfl,aV.of er,rfl,(szl 3),fun q1 hq1=>?_⟩
     have vH:=new (o:=.tup (([("let":Str),"divide","fetch"]:List Str).map V.str)) hq1
     have jD:upd H q1 (.tup (([("let":Str),"divide","fetch"]:List Str).map V.str)) q1=some (.tup (([("let":Str),"divide","fetch"]:List Str).map V.str)):=af
     have sA:=vH
     clear vH
     generalize upd H q1 (.tup (([("let":Str),"divide","fetch"]:List Str).map V.str))=G1 at sA jD ⊢
     refine ⟨q1,_,rfl,.inr (aV.of jD),rfl,rfl,_,rfl,ifT (by decide +kernel) ?_⟩
     exact ⟨_,rfl,p,_,dx,_,_,rfl,(sA _ _ ep),J.cl 1 (by decide),J.na 1 _ (by decide) (by decide +kernel),cG (by decide +kernel) (cG (by decide +kernel) (cG (by decide +kernel) (eu))),_,rfl,r,_,2,_,rfl,rfl,aV.of (sA _ _ er),rfl,rfl,_,rfl,nu rfl (nx _ sA)⟩
 by_cases hk2:kd s=2
 ·have hk:=hk2
  cases s with
  | ny at_ c t e=>exact absurd hk (by show ¬ (7=2);decide)
  | rep at_ c hs f b=>exact absurd hk (by show ¬ (8=2);decide)
  | flat kk at_ as =>
  have hk:kk=2:=hk
  subst hk
  unfold cD at hs
  unfold ie at hP
  obtain ⟨q,dx,us,e,sh,ep,pp⟩:=hs
  cases e
  obtain ⟨r',us',e',er,iQ⟩:=hP
  cases e'
  obtain ⟨x0,x1,a2,m2,rfl⟩:=sh
  cases pp with
  | cons h0 pp =>
  cases iQ with
  | cons g0 iQ =>
   cases pp with
   | cons h1 pp =>
   cases iQ with
   | cons g1 iQ =>
    cases pp with
    | cons h2 pp =>
    cases iQ with
    | cons g2 iQ =>
    cases pp
    cases iQ
    have h0:_=V.str x0:=h0
    subst h0
    have g0:_=V.str x0:=g0
    subst g0
    have h1:_=V.str x1:=h1
    subst h1
    have g1:_=V.str x1:=g1
    subst g1
    obtain ⟨r2,rfl,S2⟩:=h2
    obtain ⟨d2,we,Ck,O9,_⟩:=id S2
    obtain ⟨v2,rfl,D2⟩:=g2
    refine ⟨_,rfl,r,_,0,_,rfl,rfl,aV.of er,rfl,(szl 3),fun q1 hq1=>?_⟩
    have vH:=new (o:=.tup (([("let":Str),"divide","fetch"]:List Str).map V.str)) hq1
    have jD:upd H q1 (.tup (([("let":Str),"divide","fetch"]:List Str).map V.str)) q1=some (.tup (([("let":Str),"divide","fetch"]:List Str).map V.str)):=af
    have sA:=vH
    clear vH
    generalize upd H q1 (.tup (([("let":Str),"divide","fetch"]:List Str).map V.str))=G1 at sA jD ⊢
    refine ⟨q1,_,rfl,.inr (aV.of jD),rfl,rfl,_,rfl,ifT (by decide +kernel) ?_⟩
    exact ⟨_,rfl,p,_,dx,_,_,rfl,(sA _ _ ep),J.cl 2 (by decide),J.na 2 _ (by decide) (by decide +kernel),cG (by decide +kernel) (cG (by decide +kernel) (eu)),_,rfl,r,_,2,_,rfl,rfl,aV.of (sA _ _ er),rfl,rfl,_,rfl,nu rfl (nx _ sA)⟩
 refine ⟨_,rfl,r,_,0,_,rfl,rfl,aV.of qi,Cn _ _,(szl 3),fun q1 hq1=>?_⟩
 refine ⟨q1,_,rfl,.inr (aV.of af),rfl,rfl,_,rfl,ifF ?_ (nx _ (new hq1))⟩
 show tQ (V.str (Jr (kd s))) (([("let":Str),"divide","fetch"]:List Str).map V.str)=false
 rw [jM]
 exact decide_eq_false (Ui (nU hs) hk hk1 hk2)
theorem fl6 {f:Addr} {Y:Cy} {fS:Addr} {n:Nat} (T:Txt K mg Y.z.s) (U:fB K mg Y.z) (J:gD K mg Y fS) (W:Nx K Y) (bh:Dn P w K mg base (3*n+9) "_law_block_fields" ["_law_step_here","_law_told"] (jF Y (n+1))) {cdv:Value} {A:Around} {outer:List Env} {s:Shared} {H0:Hp} {E:XK} (hr:dZ (3*n+9) (A.deeper (envOfC "_law_fields" (ak fM) s.heap.objs.size f cdv))) :
  ∃ t,PS (jQ dX P w K mg base ["_law_step_here","_law_told","_law_kinds","_law_words","_law_found"] "_law_fields" (ak fM) f cdv A outer s H0 E).uH (sF 6) t∧∀ (D:Ends) (p r:Addr) (s:cV) (x2 x3:Option V) (H:Hp),cD Y H s (.ref p)→ie H s (.ref r)→s.ok→(¬ kd s=0→D.nx [some (.ref p),some (.ref r),x2,x3,none] H)→(∀ H',aF H H'→D.rt (.bl true) H')→t D [some (.ref p),some (.ref r),x2,x3,none] H:=by
 obtain ⟨fY,eY,eV,dS,dW,eU⟩:=bh
 have hu:=bq hr
 refine ⟨_,(cO (aK di (aH aG (pv 1) aj (fun _ _=>rfl)) aY (aP _)) (ay (aJ (gi (pT 8 (uL hr)) (aQ (aa (aE (aE (pv 0) rfl) rfl) (aa (aE (aE (pv 0) rfl) rfl) ah))) (aH aG (pv 1) aj (fun _ _=>rfl)) (aP _)))) bx),fun D p r s x2 x3 H hs hP ho nx k=>?_⟩
 obtain ⟨r0,iI,e0,qi⟩:=iC ho hP
 cases e0
 by_cases hk:kd s=0
 rotate_left
 ·exact ⟨_,rfl,r,_,0,_,rfl,rfl,aV.of qi,Cn _ _,rfl,_,rfl,bJ (bL (uu (nU hs) (k:=0) (by decide) hk)) (nx hk)⟩
 cases s with
 | ny at_ c t e=>exact absurd hk (by show ¬ (7=0);decide)
 | rep at_ c hs f b=>exact absurd hk (by show ¬ (8=0);decide)
 | flat kk at_ as =>
 have hk:kk=0:=hk
 subst hk
 unfold cD at hs
 unfold ie at hP
 obtain ⟨q,dx,us,e,sh,ep,pp⟩:=hs
 cases e
 obtain ⟨r',us',e',er,iQ⟩:=hP
 cases e'
 obtain ⟨x0,a1,m1,rfl⟩:=sh
 cases pp with
 | cons h0 pp =>
 cases iQ with
 | cons g0 iQ =>
  cases pp with
  | cons h1 pp =>
  cases iQ with
  | cons g1 iQ =>
  cases pp
  cases iQ
  have h0:_=V.str x0:=h0
  subst h0
  have g0:_=V.str x0:=g0
  subst g0
  obtain ⟨r1,rfl,S1⟩:=h1
  obtain ⟨d1,yd,es1,Uc,_⟩:=id S1
  obtain ⟨v1,rfl,D1⟩:=g1
  refine ⟨_,rfl,r,_,0,_,rfl,rfl,aV.of er,rfl,rfl,_,rfl,dF rfl ?_⟩
  refine ⟨_,rfl,p,_,dx,_,_,rfl,ep,J.cl 0 (by decide),J.na 0 _ (by decide) (by decide +kernel),eu,r1,Y.z.s,d1,_,_,rfl,es1,T.cl,T.nT,fj _ _,?_⟩
  refine ⟨_,rfl,p,_,dx,_,_,rfl,ep,J.cl 0 (by decide),J.na 0 _ (by decide) (by decide +kernel),eu,r1,Y.z.s,d1,_,_,rfl,es1,T.cl,T.nN,eF _ _,(szl 2),fun q1 hq1=>?_⟩
  have vH:=new (o:=.tup [V.ref yd,.int m1]) hq1
  have jD:upd H q1 (.tup [V.ref yd,.int m1]) q1=some (.tup [V.ref yd,.int m1]):=af
  have sA:=vH
  clear vH
  generalize upd H q1 (.tup [V.ref yd,.int m1])=G1 at sA jD ⊢
  exact ⟨_,rfl,r,_,3,_,rfl,rfl,aV.of (sA _ _ er),rfl,gz (cu (gW (⟨yd,jD,Uc.same sA⟩:eW G1 q1 a1 m1) (D1.same sA)) (by decide)) (k _ sA)⟩
theorem fl7 {f:Addr} {Y:Cy} {fS:Addr} {n:Nat} (T:Txt K mg Y.z.s) (U:fB K mg Y.z) (J:gD K mg Y fS) (W:Nx K Y) (bh:Dn P w K mg base (3*n+9) "_law_block_fields" ["_law_step_here","_law_told"] (jF Y (n+1))) {cdv:Value} {A:Around} {outer:List Env} {s:Shared} {H0:Hp} {E:XK} (hr:dZ (3*n+9) (A.deeper (envOfC "_law_fields" (ak fM) s.heap.objs.size f cdv))) :
  ∃ t,PS (jQ dX P w K mg base ["_law_step_here","_law_told","_law_kinds","_law_words","_law_found"] "_law_fields" (ak fM) f cdv A outer s H0 E).uH (sF 7) t∧∀ (D:Ends) (p r:Addr) (s:cV) (x2 x3:Option V) (H:Hp),cD Y H s (.ref p)→ie H s (.ref r)→s.ok→(¬ kd s=1→D.nx [some (.ref p),some (.ref r),x2,x3,none] H)→(∀ H',aF H H'→D.rt (.bl true) H')→t D [some (.ref p),some (.ref r),x2,x3,none] H:=by
 obtain ⟨fY,eY,eV,dS,dW,eU⟩:=bh
 have hu:=bq hr
 refine ⟨_,(cO (aK di (aH aG (pv 1) aj (fun _ _=>rfl)) aY (aP _)) (ai (aR (i:=4) fk.nd rfl (Or.inl rfl) (aQ (aa (aQ (aa (aE (aE (pv 0) rfl) rfl) (aa (aE (aE (pv 0) rfl) rfl) ah))) (aa (aQ (aa (aE (aE (pv 0) rfl) rfl) (aa (aE (aE (pv 0) rfl) rfl) ah))) ah))))
   (ay (aJ (pS (gi di (aE (pv 0) rfl) (aH aG (pv 1) aj (fun _ _=>rfl)) (aP _)) (pR (gi (pT 8 (uL hr)) (pv 4) (fO o8 (pv 1) (eX aj) kH) (aP _))))))) bx),fun D p r s x2 x3 H hs hP ho nx k=>?_⟩
 obtain ⟨r0,iI,e0,qi⟩:=iC ho hP
 cases e0
 by_cases hk:kd s=1
 rotate_left
 ·exact ⟨_,rfl,r,_,0,_,rfl,rfl,aV.of qi,Cn _ _,rfl,_,rfl,bJ (bL (uu (nU hs) (k:=1) (by decide) hk)) (nx hk)⟩
 cases s with
 | ny at_ c t e=>exact absurd hk (by show ¬ (7=1);decide)
 | rep at_ c hs f b=>exact absurd hk (by show ¬ (8=1);decide)
 | flat kk at_ as =>
 have hk:kk=1:=hk
 subst hk
 unfold cD at hs
 unfold ie at hP
 obtain ⟨q,dx,us,e,sh,ep,pp⟩:=hs
 cases e
 obtain ⟨r',us',e',er,iQ⟩:=hP
 cases e'
 obtain ⟨x0,x1,a2,m2,a3,m3,rfl⟩:=sh
 cases pp with
 | cons h0 pp =>
 cases iQ with
 | cons g0 iQ =>
  cases pp with
  | cons h1 pp =>
  cases iQ with
  | cons g1 iQ =>
   cases pp with
   | cons h2 pp =>
   cases iQ with
   | cons g2 iQ =>
    cases pp with
    | cons h3 pp =>
    cases iQ with
    | cons g3 iQ =>
    cases pp
    cases iQ
    have h0:_=V.str x0:=h0
    subst h0
    have g0:_=V.str x0:=g0
    subst g0
    have h1:_=V.str x1:=h1
    subst h1
    have g1:_=V.str x1:=g1
    subst g1
    obtain ⟨r2,rfl,S2⟩:=h2
    obtain ⟨d2,we,Ck,O9,_⟩:=id S2
    obtain ⟨v2,rfl,D2⟩:=g2
    obtain ⟨r3,rfl,S3⟩:=h3
    obtain ⟨d3,QS,VV,Tt3,_⟩:=id S3
    obtain ⟨v3,rfl,D3⟩:=g3
    refine ⟨_,rfl,r,_,0,_,rfl,rfl,aV.of er,rfl,rfl,_,rfl,dF rfl ?_⟩
    refine ⟨_,rfl,p,_,dx,_,_,rfl,ep,J.cl 1 (by decide),J.na 1 _ (by decide) (by decide +kernel),cG (by decide +kernel) (eu),r2,Y.z.s,d2,_,_,rfl,Ck,T.cl,T.nT,fj _ _,?_⟩
    refine ⟨_,rfl,p,_,dx,_,_,rfl,ep,J.cl 1 (by decide),J.na 1 _ (by decide) (by decide +kernel),cG (by decide +kernel) (eu),r2,Y.z.s,d2,_,_,rfl,Ck,T.cl,T.nN,eF _ _,(szl 2),fun q1 hq1=>?_⟩
    have vH:=new (o:=.tup [V.ref we,.int m2]) hq1
    have jD:upd H q1 (.tup [V.ref we,.int m2]) q1=some (.tup [V.ref we,.int m2]):=af
    have sA:=vH
    clear vH
    generalize upd H q1 (.tup [V.ref we,.int m2])=G1 at sA jD ⊢
    refine ⟨_,rfl,p,_,dx,_,_,rfl,(sA _ _ ep),J.cl 1 (by decide),J.na 1 _ (by decide) (by decide +kernel),eu,r3,Y.z.s,d3,_,_,rfl,(sA _ _ VV),T.cl,T.nT,fj _ _,?_⟩
    refine ⟨_,rfl,p,_,dx,_,_,rfl,(sA _ _ ep),J.cl 1 (by decide),J.na 1 _ (by decide) (by decide +kernel),eu,r3,Y.z.s,d3,_,_,rfl,(sA _ _ VV),T.cl,T.nN,eF _ _,(szl 2),fun q2 hq2=>?_⟩
    have HE:=new (o:=.tup [V.ref QS,.int m3]) hq2
    have qC:upd G1 q2 (.tup [V.ref QS,.int m3]) q2=some (.tup [V.ref QS,.int m3]):=af
    have jD:=HE _ _ jD
    have sA:=sA.trans HE
    clear HE
    generalize upd G1 q2 (.tup [V.ref QS,.int m3])=G2 at sA jD qC ⊢
    refine ⟨(szl 2),fun q3 Cg=>?_⟩
    have HD:=new (o:=.tup [V.ref q1,.ref q2]) Cg
    have BZ:upd G2 q3 (.tup [V.ref q1,.ref q2]) q3=some (.tup [V.ref q1,.ref q2]):=af
    have jD:=HD _ _ jD
    have qC:=HD _ _ qC
    have sA:=sA.trans HD
    clear HD
    generalize upd G2 q3 (.tup [V.ref q1,.ref q2])=G3 at sA jD qC BZ ⊢
    refine ⟨_,rfl,p,_,dx,_,_,rfl,(sA _ _ ep),J.cl 1 (by decide),J.na 1 _ (by decide) (by decide +kernel),cG (by decide +kernel) (cG (by decide +kernel) (eu)),_,rfl,r,_,3,_,rfl,rfl,aV.of (sA _ _ er),rfl,rfl,_,rfl,dF rfl ?_⟩
    refine ⟨_,rfl,?_⟩
    refine ⟨_,rfl,_,rfl,r,_,rfl,aV.of (sA _ _ er),(fun z=>absurd z.1 (show ¬ (4:Nat)=0 by decide)),fun q4 HZ=>?_⟩
    rw [show oR _ (some 4) none=[V.ref v2,V.ref v3] from rfl]
    have Be:=new (o:=.tup [V.ref v2,V.ref v3]) HZ
    have Qz:upd G3 q4 (.tup [V.ref v2,V.ref v3]) q4=some (.tup [V.ref v2,V.ref v3]):=af
    have jD:=Be _ _ jD
    have qC:=Be _ _ qC
    have BZ:=Be _ _ BZ
    have sA:=sA.trans Be
    clear Be
    generalize upd G3 q4 (.tup [V.ref v2,V.ref v3])=G4 at sA jD qC BZ Qz ⊢
    exact gz (cJ (n:=8) BZ Qz (.cons (cu (gW (⟨we,jD,O9.same sA⟩:eW G4 q1 a2 m2) (D2.same sA)) (by decide)) (.cons (cu (gW (⟨QS,qC,Tt3.same sA⟩:eW G4 q2 a3 m3) (D3.same sA)) (by decide)) .nil))) (k _ sA)
theorem fl8 {f:Addr} {Y:Cy} {fS:Addr} {n:Nat} (T:Txt K mg Y.z.s) (U:fB K mg Y.z) (J:gD K mg Y fS) (W:Nx K Y) (bh:Dn P w K mg base (3*n+9) "_law_block_fields" ["_law_step_here","_law_told"] (jF Y (n+1))) {cdv:Value} {A:Around} {outer:List Env} {s:Shared} {H0:Hp} {E:XK} (hr:dZ (3*n+9) (A.deeper (envOfC "_law_fields" (ak fM) s.heap.objs.size f cdv))) :
  ∃ t,PS (jQ dX P w K mg base ["_law_step_here","_law_told","_law_kinds","_law_words","_law_found"] "_law_fields" (ak fM) f cdv A outer s H0 E).uH (sF 8) t∧∀ (D:Ends) (p r:Addr) (s:cV) (x2 x3:Option V) (H:Hp),cD Y H s (.ref p)→ie H s (.ref r)→s.ok→(¬ kd s=2→D.nx [some (.ref p),some (.ref r),x2,x3,none] H)→(∀ H',aF H H'→D.rt (.bl true) H')→t D [some (.ref p),some (.ref r),x2,x3,none] H:=by
 obtain ⟨fY,eY,eV,dS,dW,eU⟩:=bh
 have hu:=bq hr
 refine ⟨_,(cO (aK di (aH aG (pv 1) aj (fun _ _=>rfl)) aY (aP _)) (ay (aJ (pS (gi di (aE (pv 0) rfl) (aH aG (pv 1) aj (fun _ _=>rfl)) (aP _)) (pR (gi (pT 8 (uL hr)) (aQ (aa (aE (aE (pv 0) rfl) rfl) (aa (aE (aE (pv 0) rfl) rfl) ah))) (aH aG (pv 1) aj (fun _ _=>rfl)) (aP _)))))) bx),fun D p r s x2 x3 H hs hP ho nx k=>?_⟩
 obtain ⟨r0,iI,e0,qi⟩:=iC ho hP
 cases e0
 by_cases hk:kd s=2
 rotate_left
 ·exact ⟨_,rfl,r,_,0,_,rfl,rfl,aV.of qi,Cn _ _,rfl,_,rfl,bJ (bL (uu (nU hs) (k:=2) (by decide) hk)) (nx hk)⟩
 cases s with
 | ny at_ c t e=>exact absurd hk (by show ¬ (7=2);decide)
 | rep at_ c hs f b=>exact absurd hk (by show ¬ (8=2);decide)
 | flat kk at_ as =>
 have hk:kk=2:=hk
 subst hk
 unfold cD at hs
 unfold ie at hP
 obtain ⟨q,dx,us,e,sh,ep,pp⟩:=hs
 cases e
 obtain ⟨r',us',e',er,iQ⟩:=hP
 cases e'
 obtain ⟨x0,x1,a2,m2,rfl⟩:=sh
 cases pp with
 | cons h0 pp =>
 cases iQ with
 | cons g0 iQ =>
  cases pp with
  | cons h1 pp =>
  cases iQ with
  | cons g1 iQ =>
   cases pp with
   | cons h2 pp =>
   cases iQ with
   | cons g2 iQ =>
   cases pp
   cases iQ
   have h0:_=V.str x0:=h0
   subst h0
   have g0:_=V.str x0:=g0
   subst g0
   have h1:_=V.str x1:=h1
   subst h1
   have g1:_=V.str x1:=g1
   subst g1
   obtain ⟨r2,rfl,S2⟩:=h2
   obtain ⟨d2,we,Ck,O9,_⟩:=id S2
   obtain ⟨v2,rfl,D2⟩:=g2
   refine ⟨_,rfl,r,_,0,_,rfl,rfl,aV.of er,rfl,rfl,_,rfl,dF rfl ?_⟩
   refine ⟨_,rfl,p,_,dx,_,_,rfl,ep,J.cl 2 (by decide),J.na 2 _ (by decide) (by decide +kernel),cG (by decide +kernel) (eu),_,rfl,r,_,3,_,rfl,rfl,aV.of er,rfl,rfl,_,rfl,dF rfl ?_⟩
   refine ⟨_,rfl,p,_,dx,_,_,rfl,ep,J.cl 2 (by decide),J.na 2 _ (by decide) (by decide +kernel),eu,r2,Y.z.s,d2,_,_,rfl,Ck,T.cl,T.nT,fj _ _,?_⟩
   refine ⟨_,rfl,p,_,dx,_,_,rfl,ep,J.cl 2 (by decide),J.na 2 _ (by decide) (by decide +kernel),eu,r2,Y.z.s,d2,_,_,rfl,Ck,T.cl,T.nN,eF _ _,(szl 2),fun q1 hq1=>?_⟩
   have vH:=new (o:=.tup [V.ref we,.int m2]) hq1
   have jD:upd H q1 (.tup [V.ref we,.int m2]) q1=some (.tup [V.ref we,.int m2]):=af
   have sA:=vH
   clear vH
   generalize upd H q1 (.tup [V.ref we,.int m2])=G1 at sA jD ⊢
   exact ⟨_,rfl,r,_,4,_,rfl,rfl,aV.of (sA _ _ er),rfl,gz (cu (gW (⟨we,jD,O9.same sA⟩:eW G1 q1 a2 m2) (D2.same sA)) (by decide)) (k _ sA)⟩
theorem fl9 {f:Addr} {Y:Cy} {fS:Addr} {n:Nat} (T:Txt K mg Y.z.s) (U:fB K mg Y.z) (J:gD K mg Y fS) (W:Nx K Y) (bh:Dn P w K mg base (3*n+9) "_law_block_fields" ["_law_step_here","_law_told"] (jF Y (n+1))) {cdv:Value} {A:Around} {outer:List Env} {s:Shared} {H0:Hp} {E:XK} (hr:dZ (3*n+9) (A.deeper (envOfC "_law_fields" (ak fM) s.heap.objs.size f cdv))) :
  ∃ t,PS (jQ dX P w K mg base ["_law_step_here","_law_told","_law_kinds","_law_words","_law_found"] "_law_fields" (ak fM) f cdv A outer s H0 E).uH (sF 9) t∧∀ (D:Ends) (p r:Addr) (s:cV) (x2 x3:Option V) (H:Hp),cD Y H s (.ref p)→ie H s (.ref r)→s.ok→(¬ kd s=3→D.nx [some (.ref p),some (.ref r),x2,x3,none] H)→(∀ H',aF H H'→D.rt (.bl true) H')→t D [some (.ref p),some (.ref r),x2,x3,none] H:=by
 obtain ⟨fY,eY,eV,dS,dW,eU⟩:=bh
 have hu:=bq hr
 refine ⟨_,(cO (aK di (aH aG (pv 1) aj (fun _ _=>rfl)) aY (aP _)) (ai (aR (i:=4) fk.nd rfl (Or.inl rfl) (aQ (aa (aQ (aa (aE (aE (pv 0) rfl) rfl) (aa (aE (aE (pv 0) rfl) rfl) ah))) (aa (aQ (aa (aE (aE (pv 0) rfl) rfl) (aa (aE (aE (pv 0) rfl) rfl) ah))) ah))))
   (ay (aJ (pS (gi di (aE (pv 0) rfl) (aH aG (pv 1) aj (fun _ _=>rfl)) (aP _)) (pR (gi (pT 8 (uL hr)) (pv 4) (fO o8 (pv 1) (eX aj) kH) (aP _))))))) bx),fun D p r s x2 x3 H hs hP ho nx k=>?_⟩
 obtain ⟨r0,iI,e0,qi⟩:=iC ho hP
 cases e0
 by_cases hk:kd s=3
 rotate_left
 ·exact ⟨_,rfl,r,_,0,_,rfl,rfl,aV.of qi,Cn _ _,rfl,_,rfl,bJ (bL (uu (nU hs) (k:=3) (by decide) hk)) (nx hk)⟩
 cases s with
 | ny at_ c t e=>exact absurd hk (by show ¬ (7=3);decide)
 | rep at_ c hs f b=>exact absurd hk (by show ¬ (8=3);decide)
 | flat kk at_ as =>
 have hk:kk=3:=hk
 subst hk
 unfold cD at hs
 unfold ie at hP
 obtain ⟨q,dx,us,e,sh,ep,pp⟩:=hs
 cases e
 obtain ⟨r',us',e',er,iQ⟩:=hP
 cases e'
 obtain ⟨x0,a1,m1,a2,m2,rfl⟩:=sh
 cases pp with
 | cons h0 pp =>
 cases iQ with
 | cons g0 iQ =>
  cases pp with
  | cons h1 pp =>
  cases iQ with
  | cons g1 iQ =>
   cases pp with
   | cons h2 pp =>
   cases iQ with
   | cons g2 iQ =>
   cases pp
   cases iQ
   have h0:_=V.str x0:=h0
   subst h0
   have g0:_=V.str x0:=g0
   subst g0
   obtain ⟨r1,rfl,S1⟩:=h1
   obtain ⟨d1,yd,es1,Uc,_⟩:=id S1
   obtain ⟨v1,rfl,D1⟩:=g1
   obtain ⟨r2,rfl,S2⟩:=h2
   obtain ⟨d2,we,Ck,O9,_⟩:=id S2
   obtain ⟨v2,rfl,D2⟩:=g2
   refine ⟨_,rfl,r,_,0,_,rfl,rfl,aV.of er,rfl,rfl,_,rfl,dF rfl ?_⟩
   refine ⟨_,rfl,p,_,dx,_,_,rfl,ep,J.cl 3 (by decide),J.na 3 _ (by decide) (by decide +kernel),cG (by decide +kernel) (eu),r1,Y.z.s,d1,_,_,rfl,es1,T.cl,T.nT,fj _ _,?_⟩
   refine ⟨_,rfl,p,_,dx,_,_,rfl,ep,J.cl 3 (by decide),J.na 3 _ (by decide) (by decide +kernel),cG (by decide +kernel) (eu),r1,Y.z.s,d1,_,_,rfl,es1,T.cl,T.nN,eF _ _,(szl 2),fun q1 hq1=>?_⟩
   have vH:=new (o:=.tup [V.ref yd,.int m1]) hq1
   have jD:upd H q1 (.tup [V.ref yd,.int m1]) q1=some (.tup [V.ref yd,.int m1]):=af
   have sA:=vH
   clear vH
   generalize upd H q1 (.tup [V.ref yd,.int m1])=G1 at sA jD ⊢
   refine ⟨_,rfl,p,_,dx,_,_,rfl,(sA _ _ ep),J.cl 3 (by decide),J.na 3 _ (by decide) (by decide +kernel),eu,r2,Y.z.s,d2,_,_,rfl,(sA _ _ Ck),T.cl,T.nT,fj _ _,?_⟩
   refine ⟨_,rfl,p,_,dx,_,_,rfl,(sA _ _ ep),J.cl 3 (by decide),J.na 3 _ (by decide) (by decide +kernel),eu,r2,Y.z.s,d2,_,_,rfl,(sA _ _ Ck),T.cl,T.nN,eF _ _,(szl 2),fun q2 hq2=>?_⟩
   have HE:=new (o:=.tup [V.ref we,.int m2]) hq2
   have qC:upd G1 q2 (.tup [V.ref we,.int m2]) q2=some (.tup [V.ref we,.int m2]):=af
   have jD:=HE _ _ jD
   have sA:=sA.trans HE
   clear HE
   generalize upd G1 q2 (.tup [V.ref we,.int m2])=G2 at sA jD qC ⊢
   refine ⟨(szl 2),fun q3 Cg=>?_⟩
   have HD:=new (o:=.tup [V.ref q1,.ref q2]) Cg
   have BZ:upd G2 q3 (.tup [V.ref q1,.ref q2]) q3=some (.tup [V.ref q1,.ref q2]):=af
   have jD:=HD _ _ jD
   have qC:=HD _ _ qC
   have sA:=sA.trans HD
   clear HD
   generalize upd G2 q3 (.tup [V.ref q1,.ref q2])=G3 at sA jD qC BZ ⊢
   refine ⟨_,rfl,p,_,dx,_,_,rfl,(sA _ _ ep),J.cl 3 (by decide),J.na 3 _ (by decide) (by decide +kernel),cG (by decide +kernel) (cG (by decide +kernel) (eu)),_,rfl,r,_,2,_,rfl,rfl,aV.of (sA _ _ er),rfl,rfl,_,rfl,dF rfl ?_⟩
   refine ⟨_,rfl,?_⟩
   refine ⟨_,rfl,_,rfl,r,_,rfl,aV.of (sA _ _ er),(fun z=>absurd z.1 (show ¬ (3:Nat)=0 by decide)),fun q4 HZ=>?_⟩
   rw [show oR _ (some 3) none=[V.ref v1,V.ref v2] from rfl]
   have Be:=new (o:=.tup [V.ref v1,V.ref v2]) HZ
   have Qz:upd G3 q4 (.tup [V.ref v1,V.ref v2]) q4=some (.tup [V.ref v1,V.ref v2]):=af
   have jD:=Be _ _ jD
   have qC:=Be _ _ qC
   have BZ:=Be _ _ BZ
   have sA:=sA.trans Be
   clear Be
   generalize upd G3 q4 (.tup [V.ref v1,V.ref v2])=G4 at sA jD qC BZ Qz ⊢
   exact gz (cJ (n:=8) BZ Qz (.cons (cu (gW (⟨yd,jD,Uc.same sA⟩:eW G4 q1 a1 m1) (D1.same sA)) (by decide)) (.cons (cu (gW (⟨we,qC,O9.same sA⟩:eW G4 q2 a2 m2) (D2.same sA)) (by decide)) .nil))) (k _ sA)
theorem a8D {f:Addr} {Y:Cy} {fS:Addr} {n:Nat} (T:Txt K mg Y.z.s) (U:fB K mg Y.z) (J:gD K mg Y fS) (W:Nx K Y) (bh:Dn P w K mg base (3*n+9) "_law_block_fields" ["_law_step_here","_law_told"] (jF Y (n+1))) {cdv:Value} {A:Around} {outer:List Env} {s:Shared} {H0:Hp} {E:XK} (hr:dZ (3*n+9) (A.deeper (envOfC "_law_fields" (ak fM) s.heap.objs.size f cdv))) :
  ∃ t,PS (jQ dX P w K mg base ["_law_step_here","_law_told","_law_kinds","_law_words","_law_found"] "_law_fields" (ak fM) f cdv A outer s H0 E).uH (sF 10) t∧∀ (D:Ends) (p r:Addr) (s:cV) (x2 x3:Option V) (H:Hp),cD Y H s (.ref p)→ie H s (.ref r)→s.ok→(¬ kd s=4→D.nx [some (.ref p),some (.ref r),x2,x3,none] H)→(∀ H',aF H H'→D.rt (.bl true) H')→t D [some (.ref p),some (.ref r),x2,x3,none] H:=by
 obtain ⟨fY,eY,eV,dS,dW,eU⟩:=bh
 have hu:=bq hr
 refine ⟨_,(cO (aK di (aH aG (pv 1) aj (fun _ _=>rfl)) aY (aP _)) (ay (aJ (pS (gi di (aE (pv 0) rfl) (aH aG (pv 1) aj (fun _ _=>rfl)) (aP _)) (pR (gi (pT 8 (uL hr)) (aQ (aa (aE (aE (pv 0) rfl) rfl) (aa (aE (aE (pv 0) rfl) rfl) ah))) (aH aG (pv 1) aj (fun _ _=>rfl)) (aP _)))))) bx),fun D p r s x2 x3 H hs hP ho nx k=>?_⟩
 obtain ⟨r0,iI,e0,qi⟩:=iC ho hP
 cases e0
 by_cases hk:kd s=4
 rotate_left
 ·exact ⟨_,rfl,r,_,0,_,rfl,rfl,aV.of qi,Cn _ _,rfl,_,rfl,bJ (bL (uu (nU hs) (k:=4) (by decide) hk)) (nx hk)⟩
 cases s with
 | ny at_ c t e=>exact absurd hk (by show ¬ (7=4);decide)
 | rep at_ c hs f b=>exact absurd hk (by show ¬ (8=4);decide)
 | flat kk at_ as =>
 have hk:kk=4:=hk
 subst hk
 unfold cD at hs
 unfold ie at hP
 obtain ⟨q,dx,us,e,sh,ep,pp⟩:=hs
 cases e
 obtain ⟨r',us',e',er,iQ⟩:=hP
 cases e'
 obtain ⟨x0,a1,m1,rfl⟩:=sh
 cases pp with
 | cons h0 pp =>
 cases iQ with
 | cons g0 iQ =>
  cases pp with
  | cons h1 pp =>
  cases iQ with
  | cons g1 iQ =>
  cases pp
  cases iQ
  have h0:_=V.str x0:=h0
  subst h0
  have g0:_=V.str x0:=g0
  subst g0
  obtain ⟨r1,rfl,S1⟩:=h1
  obtain ⟨d1,yd,es1,Uc,_⟩:=id S1
  obtain ⟨v1,rfl,D1⟩:=g1
  refine ⟨_,rfl,r,_,0,_,rfl,rfl,aV.of er,rfl,rfl,_,rfl,dF rfl ?_⟩
  refine ⟨_,rfl,p,_,dx,_,_,rfl,ep,J.cl 4 (by decide),J.na 4 _ (by decide) (by decide +kernel),cG (by decide +kernel) (eu),_,rfl,r,_,2,_,rfl,rfl,aV.of er,rfl,rfl,_,rfl,dF rfl ?_⟩
  refine ⟨_,rfl,p,_,dx,_,_,rfl,ep,J.cl 4 (by decide),J.na 4 _ (by decide) (by decide +kernel),eu,r1,Y.z.s,d1,_,_,rfl,es1,T.cl,T.nT,fj _ _,?_⟩
  refine ⟨_,rfl,p,_,dx,_,_,rfl,ep,J.cl 4 (by decide),J.na 4 _ (by decide) (by decide +kernel),eu,r1,Y.z.s,d1,_,_,rfl,es1,T.cl,T.nN,eF _ _,(szl 2),fun q1 hq1=>?_⟩
  have vH:=new (o:=.tup [V.ref yd,.int m1]) hq1
  have jD:upd H q1 (.tup [V.ref yd,.int m1]) q1=some (.tup [V.ref yd,.int m1]):=af
  have sA:=vH
  clear vH
  generalize upd H q1 (.tup [V.ref yd,.int m1])=G1 at sA jD ⊢
  exact ⟨_,rfl,r,_,3,_,rfl,rfl,aV.of (sA _ _ er),rfl,gz (cu (gW (⟨yd,jD,Uc.same sA⟩:eW G1 q1 a1 m1) (D1.same sA)) (by decide)) (k _ sA)⟩
theorem a8C {f:Addr} {Y:Cy} {fS:Addr} {n:Nat} (T:Txt K mg Y.z.s) (U:fB K mg Y.z) (J:gD K mg Y fS) (W:Nx K Y) (bh:Dn P w K mg base (3*n+9) "_law_block_fields" ["_law_step_here","_law_told"] (jF Y (n+1))) {cdv:Value} {A:Around} {outer:List Env} {s:Shared} {H0:Hp} {E:XK} (hr:dZ (3*n+9) (A.deeper (envOfC "_law_fields" (ak fM) s.heap.objs.size f cdv))) :
  ∃ t,PS (jQ dX P w K mg base ["_law_step_here","_law_told","_law_kinds","_law_words","_law_found"] "_law_fields" (ak fM) f cdv A outer s H0 E).uH (sF 11) t∧∀ (D:Ends) (p r:Addr) (s:cV) (x2 x3:Option V) (H:Hp),cD Y H s (.ref p)→ie H s (.ref r)→s.ok→(¬ kd s=6→D.nx [some (.ref p),some (.ref r),x2,x3,none] H)→(∀ H',aF H H'→D.rt (.bl true) H')→t D [some (.ref p),some (.ref r),x2,x3,none] H:=by
 obtain ⟨fY,eY,eV,dS,dW,eU⟩:=bh
 have hu:=bq hr
 refine ⟨_,(cO (aK di (aH aG (pv 1) aj (fun _ _=>rfl)) aY (aP _)) (ai (aR (i:=4) fk.nd rfl (Or.inl rfl) (aS aI (by rfl) T.tuple boot_tuple (aa (cS (bu ["_law_total"] [] [] rfl (by decide +kernel) (by decide +kernel) (by with_unfolding_all rfl) (by exact trivial) (by rfl) rfl (by rfl)) rfl (gF (aE (pv 0) rfl)) (fun _ _ _ _=>(aN (i:=0) (show List.Nodup (["_law_total"]:List Str) by decide +kernel) rfl (Or.inl rfl) (Or.inr rfl))) (fun _ _ _ _=>cI) (fun _ _ _ _=>(aQ (aa (Gn (K:=K) rfl (pv 0) rfl) (aa (Gn (K:=K) rfl (pv 0) rfl) ah))))) ah)))
   (ay (aJ (gi (pT 8 (uL hr)) (aQ (aa (aE (pv 0) rfl) (aa (aE (pv 0) rfl) (aa (pv 4) ah)))) (fO o8 (pv 1) (eX aj) kH) (aP _))))) bx),fun D p r s x2 x3 H hs hP ho nx k=>?_⟩
 obtain ⟨r0,iI,e0,qi⟩:=iC ho hP
 cases e0
 by_cases hk:kd s=6
 rotate_left
 ·exact ⟨_,rfl,r,_,0,_,rfl,rfl,aV.of qi,Cn _ _,rfl,_,rfl,bJ (bL (uu (nU hs) (k:=6) (by decide) hk)) (nx hk)⟩
 cases s with
 | ny at_ c t e=>exact absurd hk (by show ¬ (7=6);decide)
 | rep at_ c hs f b=>exact absurd hk (by show ¬ (8=6);decide)
 | flat kk at_ as =>
 have hk:kk=6:=hk
 subst hk
 unfold cD at hs
 unfold ie at hP
 obtain ⟨q,dx,us,e,sh,ep,pp⟩:=hs
 cases e
 obtain ⟨r',us',e',er,iQ⟩:=hP
 cases e'
 obtain ⟨l0,x1,q2,rfl⟩:=sh
 cases pp with
 | cons h0 pp =>
 cases iQ with
 | cons g0 iQ =>
  cases pp with
  | cons h1 pp =>
  cases iQ with
  | cons g1 iQ =>
   cases pp with
   | cons h2 pp =>
   cases iQ with
   | cons g2 iQ =>
   cases pp
   cases iQ
   obtain ⟨r0,rfl,VU⟩:=h0
   obtain ⟨v0,rfl,a87⟩:=g0
   have h1:_=V.str x1:=h1
   subst h1
   have g1:_=V.str x1:=g1
   subst g1
   obtain ⟨r2,PJ,rfl,NX,lz2,Rb⟩:=h2
   obtain ⟨v2,b7E,rfl,a86,a1C⟩:=g2
   refine ⟨_,rfl,r,_,0,_,rfl,rfl,aV.of er,rfl,rfl,_,rfl,dF rfl ?_⟩
   have TQ:=aA Rb
   refine ⟨_,rfl,p,_,dx,_,_,rfl,ep,J.cl 6 (by decide),J.na 6 _ (by decide) (by decide +kernel),eu,r2,rfl,⟨PJ,aV.of NX⟩,dj (xs:=PJ) (fun i ys H'=>aF H H'∧Paired (ua H') ys (q2.take i)) ⟨aF.refl _,.nil⟩ (fun i ys H' _ q=>aV.of (q.1 _ _ NX)) ?_ ?_⟩
   ·rintro i x ys H' hix ⟨sm,py⟩
    obtain ⟨c,iH,pp,rfl,S0⟩:=bH Rb hix
    have Af:=(List.getElem?_eq_some_iff.mp iH).1
    have qI:ys.length≤i:=by
     rw [aA py,List.length_take]
     omega
    obtain ⟨dx2,we,ep2,O9,_⟩:=id (S0.same sm)
    refine ⟨Ext.one,jd ⟨_,rfl,pp,Y.z.s,dx2,_,_,rfl,ep2,T.cl,T.nT,fj _ _,?_⟩⟩
    refine ⟨_,rfl,pp,Y.z.s,dx2,_,_,rfl,ep2,T.cl,T.nN,eF _ _,(szl 2),fun q hq=>⟨line _ (by omega),sm.trans (new hq),?_⟩⟩
    rw [take_snoc iH]
    exact bB (L2.Paired.dg py fun _ _ z=>z.ao (av.of (new hq))) ⟨q,rfl,we,af,O9.same (new hq)⟩
   rintro ys H' ⟨sm,py⟩ lq IL
   rw [TQ,List.take_length] at py
   refine ⟨lq,_,rfl,.inl ⟨ck.of af,fun tf htf=>?_⟩⟩
   have sA:aF H' (upd (upd H' lq (.lst ys)) tf (.tup ys)):=aF.new (new IL) htf
   have Qx:upd (upd H' lq (.lst ys)) tf (.tup ys) tf=some (.tup ys):=af
   have py:=L2.Paired.dg py fun _ _ z=>ua.ao (av.of sA) z
   have sA:=sm.trans sA
   generalize upd (upd H' lq (.lst ys)) tf (.tup ys)=G0 at sA Qx py ⊢
   refine ⟨_,rfl,p,_,dx,_,_,rfl,(sA _ _ ep),J.cl 6 (by decide),J.na 6 _ (by decide) (by decide +kernel),cG (by decide +kernel) (cG (by decide +kernel) (eu)),?_⟩
   refine ⟨_,rfl,p,_,dx,_,_,rfl,(sA _ _ ep),J.cl 6 (by decide),J.na 6 _ (by decide) (by decide +kernel),cG (by decide +kernel) (eu),_,rfl,(szl 3),fun q3 Cg=>?_⟩
   have py:=L2.Paired.dg py fun _ _ z=>ua.ao (av.of (new (o:=.tup [V.ref r0,.str x1,.ref tf]) Cg)) z
   have HD:=new (o:=.tup [V.ref r0,.str x1,.ref tf]) Cg
   have BZ:upd G0 q3 (.tup [V.ref r0,.str x1,.ref tf]) q3=some (.tup [V.ref r0,.str x1,.ref tf]):=af
   have Qx:=HD _ _ Qx
   have sA:=sA.trans HD
   clear HD
   generalize upd G0 q3 (.tup [V.ref r0,.str x1,.ref tf])=G1 at sA Qx py BZ ⊢
   refine ⟨_,rfl,_,rfl,r,_,rfl,aV.of (sA _ _ er),(fun z=>absurd z.1 (show ¬ (2:Nat)=0 by decide)),fun q4 HZ=>?_⟩
   rw [show oR _ (some 2) none=[V.ref v0,V.str x1,V.ref v2] from rfl]
   have Be:=new (o:=.tup [V.ref v0,V.str x1,V.ref v2]) HZ
   have Qz:upd G1 q4 (.tup [V.ref v0,V.str x1,V.ref v2]) q4=some (.tup [V.ref v0,V.str x1,V.ref v2]):=af
   have Qx:=Be _ _ Qx
   have py:=L2.Paired.dg py fun _ _ z=>ua.ao (av.of Be) z
   have BZ:=Be _ _ BZ
   have sA:=sA.trans Be
   clear Be
   generalize upd G1 q4 (.tup [V.ref v0,V.str x1,V.ref v2])=G2 at sA Qx py BZ Qz ⊢
   exact gz (cJ (n:=8) BZ Qz (.cons (cJ (sA _ _ VU) (sA _ _ a87) (lS _)) (.cons (dH rfl) (.cons (cJ Qx (sA _ _ a86) (rj (fun u v a h g=>by obtain ⟨z1,rfl,hz1⟩:=h;obtain ⟨z2,rfl,hz2⟩:=g;exact cu (gW hz1 hz2) (by decide)) py (L2.Paired.dg a1C fun _ _ z=>z.ao (av.of sA)))) .nil)))) (k _ sA)
theorem Ou {f:Addr} {fd:FuncData} {Y:Cy} {fS:Addr} {n:Nat} (F:fG K "_law_fields" "_law_fields" fM f fd) (T:Txt K mg Y.z.s) (U:fB K mg Y.z) (J:gD K mg Y fS) (W:Nx K Y) (bh:Dn P w K mg base (3*n+9) "_law_block_fields" ["_law_step_here","_law_told"] (jF Y (n+1))):bT P w K mg base dX (3*n+10) f fd ["_law_step_here","_law_told"] (o6 Y (n+1)):=by
 refine F.ok fk (fun vs H Q E h=>?_) (fun cdv A outer s H vs Q E hr h=>?_)
 ·obtain ⟨p,v,s0,rfl,hs,hP,ho,hd,NW,k⟩:=h
  rfl
 ·obtain ⟨p,v,s0,rfl,hs,hP,ho,hd,NW,k⟩:=h
  obtain ⟨t5,p5,l5⟩:=fl5 (f:=f) (n:=n) T U J W bh (cdv:=cdv) (A:=A) (outer:=outer) (s:=s) (H0:=H) (E:=E) hr
  obtain ⟨t6,p6,l6⟩:=fl6 (f:=f) (n:=n) T U J W bh (cdv:=cdv) (A:=A) (outer:=outer) (s:=s) (H0:=H) (E:=E) hr
  obtain ⟨t7,p7,l7⟩:=fl7 (f:=f) (n:=n) T U J W bh (cdv:=cdv) (A:=A) (outer:=outer) (s:=s) (H0:=H) (E:=E) hr
  obtain ⟨t8,p8,l8⟩:=fl8 (f:=f) (n:=n) T U J W bh (cdv:=cdv) (A:=A) (outer:=outer) (s:=s) (H0:=H) (E:=E) hr
  obtain ⟨t9,p9,l9⟩:=fl9 (f:=f) (n:=n) T U J W bh (cdv:=cdv) (A:=A) (outer:=outer) (s:=s) (H0:=H) (E:=E) hr
  obtain ⟨t10,p10,NR⟩:=a8D (f:=f) (n:=n) T U J W bh (cdv:=cdv) (A:=A) (outer:=outer) (s:=s) (H0:=H) (E:=E) hr
  obtain ⟨t11,p11,RU⟩:=a8C (f:=f) (n:=n) T U J W bh (cdv:=cdv) (A:=A) (outer:=outer) (s:=s) (H0:=H) (E:=E) hr
  obtain ⟨fY,eY,eV,dS,dW,eU⟩:=bh
  have hu:=bq hr
  rw [show au fM=[_,_,_,_,_,sF 5,sF 6,sF 7,sF 8,sF 9,sF 10,sF 11,_] from rfl]
  refine ⟨_,(ai (aR (i:=2) fk.nd rfl (Or.inl rfl) (cZ (aa (bF (gB (c:=.ref Y.lt) trivial) (by rfl) T.isinstance boot_isinstance (aa (pv 0) (aa (kJ (v:=.ref Y.lt) rfl J.mg0 rfl) ah))) (aa (bF (gB (c:=.ref Y.dv) trivial) (by rfl) T.isinstance boot_isinstance (aa (pv 0) (aa (kJ (v:=.ref Y.dv) rfl J.mg1 rfl) ah))) (aa (bF (gB (c:=.ref Y.ft) trivial) (by rfl) T.isinstance boot_isinstance (aa (pv 0) (aa (kJ (v:=.ref Y.ft) rfl J.mg2 rfl) ah))) (aa (bF (gB (c:=.ref Y.pt) trivial) (by rfl) T.isinstance boot_isinstance (aa (pv 0) (aa (kJ (v:=.ref Y.pt) rfl J.mg3 rfl) ah))) ah))))))
   (ai (aR (i:=2) fk.nd rfl (Or.inl rfl) (bX xy (pv 2) (cZ (aa (bF (gB (c:=.ref Y.mq) trivial) (by rfl) T.isinstance boot_isinstance (aa (pv 0) (aa (kJ (v:=.ref Y.mq) rfl J.mg4 rfl) ah))) (aa (bF (gB (c:=.ref Y.cm) trivial) (by rfl) T.isinstance boot_isinstance (aa (pv 0) (aa (kJ (v:=.ref Y.cm) rfl J.mg5 rfl) ah))) (aa (bF (gB (c:=.ref Y.ch) trivial) (by rfl) T.isinstance boot_isinstance (aa (pv 0) (aa (kJ (v:=.ref Y.ch) rfl J.mg7 rfl) ah))) ah))))))
   (ai (aR (i:=2) fk.nd rfl (Or.inl rfl) (bX xy (pv 2) (cZ (aa (bF (gB (c:=.ref Y.rp) trivial) (by rfl) T.isinstance boot_isinstance (aa (pv 0) (aa (kJ (v:=.ref Y.rp) rfl J.mg8 rfl) ah))) (aa (bF (gB (c:=.ref Y.cl) trivial) (by rfl) T.isinstance boot_isinstance (aa (pv 0) (aa (kJ (v:=.ref Y.cl) rfl J.mg6 rfl) ah))) ah)))))
   (ai (aR (i:=3) fk.nd rfl (Or.inl rfl) (cZ (tG (xs:=["let","divide","fetch","put","make","claim","choose","repeat","call"]) rfl)))
   (ai (cO (PW.pt (oV (aK (nG 8 (uL hr)) (pv 2) (cS (bu ["_law_word"] ["_law_told"] [1] rfl (by decide +kernel) (by decide +kernel) (by with_unfolding_all rfl) (by exact ⟨rfl,trivial⟩) (by rfl) rfl (by rfl)) rfl (jj (pv 3)) (fun _ _ _ _=>(aN (i:=0) (show List.Nodup (["_law_word","_law_told"]:List Str) by decide +kernel) rfl (Or.inl rfl) (Or.inr rfl))) (fun _ _ _ _=>cI) (fun _ _ _ _=>(gi di (pv 0) (aH (Gx (K:=K) rfl) (pv 1) aj (fun _ _=>rfl)) (aP _)))) (aP _)) (oV (uF (qZ (bF (gB (c:=.ref Y.st) trivial) (by rfl) T.isinstance boot_isinstance (aa (pv 0) (aa (kJ (v:=.ref Y.st) rfl J.NQ rfl) ah))))) (mj (aK Gp (aE (pv 0) rfl) (aH aG (pv 1) aj (fun _ _=>rfl)) (aP _)))))) (ay (aJ ng)) bx)
   (ai p5 (ai p6 (ai p7 (ai p8 (ai p9 (ai p10 (ai p11 (ay (aJ (aq eV (hr.mono (by first | decide | omega)) rfl dS dW eU .nil az (aa (pv 0) (aa (pv 1) ah))))))))))))))))),?_⟩
  obtain ⟨r,us,rfl,er⟩:=iC ho hP
  have hj:=nU hs
  have Ul:∀ H',aF H H'→sf K H' (.ref p) (.ref (gH Y (kd s0))):=fun H' sm=>Ob T J W (cD.ao (av.of sm) hs)
  have kk:=fun i hi=>W.kk (kd s0) i hj hi
  have kS:=W.kS (kd s0) hj
  have ty:=Ul H (aF.refl _)
  refine ⟨_,rfl,_,_,_,_,rfl,ty,rfl,kk 0 (by decide),_,rfl,_,_,_,_,rfl,ty,rfl,kk 1 (by decide),_,rfl,_,_,_,_,rfl,ty,rfl,kk 2 (by decide),_,rfl,_,_,_,_,rfl,ty,rfl,kk 3 (by decide),(szl 4),fun z1 hz1=>?_⟩
  have nz1:=new (o:=.lst [V.bl (decide (kd s0=0)),V.bl (decide (kd s0=1)),V.bl (decide (kd s0=2)),V.bl (decide (kd s0=3))]) hz1
  have yD:upd H z1 (.lst [V.bl (decide (kd s0=0)),V.bl (decide (kd s0=1)),V.bl (decide (kd s0=2)),V.bl (decide (kd s0=3))]) z1=some (.lst [V.bl (decide (kd s0=0)),V.bl (decide (kd s0=1)),V.bl (decide (kd s0=2)),V.bl (decide (kd s0=3))]):=af
  have sA:=nz1
  clear nz1
  generalize upd H z1 (.lst [V.bl (decide (kd s0=0)),V.bl (decide (kd s0=1)),V.bl (decide (kd s0=2)),V.bl (decide (kd s0=3))])=G1 at sA yD ⊢
  have ty:=Ul _ sA
  refine ⟨_,rfl,_,rfl,_,_,_,_,rfl,ty,rfl,kk 4 (by decide),_,rfl,_,_,_,_,rfl,ty,rfl,kk 5 (by decide),_,rfl,_,_,_,_,rfl,ty,rfl,kk 7 (by decide),(szl 3),fun z2 hz2=>?_⟩
  have nz2:=new (o:=.lst [V.bl (decide (kd s0=4)),V.bl (decide (kd s0=5)),V.bl (decide (kd s0=7))]) hz2
  have AO:upd G1 z2 (.lst [V.bl (decide (kd s0=4)),V.bl (decide (kd s0=5)),V.bl (decide (kd s0=7))]) z2=some (.lst [V.bl (decide (kd s0=4)),V.bl (decide (kd s0=5)),V.bl (decide (kd s0=7))]):=af
  have yD:=nz2 _ _ yD
  have sA:=sA.trans nz2
  clear nz2
  generalize upd G1 z2 (.lst [V.bl (decide (kd s0=4)),V.bl (decide (kd s0=5)),V.bl (decide (kd s0=7))])=G2 at sA yD AO ⊢
  refine ⟨z1,z2,_,_,rfl,rfl,yD,AO,(szl 7),fun z3 hz3=>?_⟩
  have Yc:=new (o:=.lst ([V.bl (decide (kd s0=0)),V.bl (decide (kd s0=1)),V.bl (decide (kd s0=2)),V.bl (decide (kd s0=3))]++[V.bl (decide (kd s0=4)),V.bl (decide (kd s0=5)),V.bl (decide (kd s0=7))])) hz3
  have FG:upd G2 z3 (.lst ([V.bl (decide (kd s0=0)),V.bl (decide (kd s0=1)),V.bl (decide (kd s0=2)),V.bl (decide (kd s0=3))]++[V.bl (decide (kd s0=4)),V.bl (decide (kd s0=5)),V.bl (decide (kd s0=7))])) z3=some (.lst ([V.bl (decide (kd s0=0)),V.bl (decide (kd s0=1)),V.bl (decide (kd s0=2)),V.bl (decide (kd s0=3))]++[V.bl (decide (kd s0=4)),V.bl (decide (kd s0=5)),V.bl (decide (kd s0=7))])):=af
  have yD:=Yc _ _ yD
  have AO:=Yc _ _ AO
  have sA:=sA.trans Yc
  clear Yc
  generalize upd G2 z3 (.lst ([V.bl (decide (kd s0=0)),V.bl (decide (kd s0=1)),V.bl (decide (kd s0=2)),V.bl (decide (kd s0=3))]++[V.bl (decide (kd s0=4)),V.bl (decide (kd s0=5)),V.bl (decide (kd s0=7))]))=G3 at sA yD AO FG ⊢
  have ty:=Ul _ sA
  refine ⟨_,rfl,_,rfl,_,_,_,_,rfl,ty,rfl,kk 8 (by decide),_,rfl,_,_,_,_,rfl,ty,rfl,kk 6 (by decide),(szl 2),fun z4 hz4=>?_⟩
  have UP:=new (o:=.lst [V.bl (decide (kd s0=8)),V.bl (decide (kd s0=6))]) hz4
  have IY:upd G3 z4 (.lst [V.bl (decide (kd s0=8)),V.bl (decide (kd s0=6))]) z4=some (.lst [V.bl (decide (kd s0=8)),V.bl (decide (kd s0=6))]):=af
  have yD:=UP _ _ yD
  have AO:=UP _ _ AO
  have FG:=UP _ _ FG
  have sA:=sA.trans UP
  clear UP
  generalize upd G3 z4 (.lst [V.bl (decide (kd s0=8)),V.bl (decide (kd s0=6))])=G4 at sA yD AO FG IY ⊢
  refine ⟨z3,z4,_,_,rfl,rfl,FG,IY,(szl 9),fun z5 hz5=>?_⟩
  have TM:=new (o:=.lst ([V.bl (decide (kd s0=0)),V.bl (decide (kd s0=1)),V.bl (decide (kd s0=2)),V.bl (decide (kd s0=3))]++[V.bl (decide (kd s0=4)),V.bl (decide (kd s0=5)),V.bl (decide (kd s0=7))]++[V.bl (decide (kd s0=8)),V.bl (decide (kd s0=6))])) hz5
  have Pp:upd G4 z5 (.lst ([V.bl (decide (kd s0=0)),V.bl (decide (kd s0=1)),V.bl (decide (kd s0=2)),V.bl (decide (kd s0=3))]++[V.bl (decide (kd s0=4)),V.bl (decide (kd s0=5)),V.bl (decide (kd s0=7))]++[V.bl (decide (kd s0=8)),V.bl (decide (kd s0=6))])) z5=some (.lst ([V.bl (decide (kd s0=0)),V.bl (decide (kd s0=1)),V.bl (decide (kd s0=2)),V.bl (decide (kd s0=3))]++[V.bl (decide (kd s0=4)),V.bl (decide (kd s0=5)),V.bl (decide (kd s0=7))]++[V.bl (decide (kd s0=8)),V.bl (decide (kd s0=6))])):=af
  have yD:=TM _ _ yD
  have AO:=TM _ _ AO
  have FG:=TM _ _ FG
  have IY:=TM _ _ IY
  have sA:=sA.trans TM
  clear TM
  generalize upd G4 z5 (.lst ([V.bl (decide (kd s0=0)),V.bl (decide (kd s0=1)),V.bl (decide (kd s0=2)),V.bl (decide (kd s0=3))]++[V.bl (decide (kd s0=4)),V.bl (decide (kd s0=5)),V.bl (decide (kd s0=7))]++[V.bl (decide (kd s0=8)),V.bl (decide (kd s0=6))]))=G5 at sA yD AO FG IY Pp ⊢
  refine ⟨(szl 9),fun z6 hz6=>?_⟩
  have RJ:=new (o:=.lst (([("let":Str),"divide","fetch","put","make","claim","choose","repeat","call"]:List Str).map V.str)) hz6
  have Po:upd G5 z6 (.lst (([("let":Str),"divide","fetch","put","make","claim","choose","repeat","call"]:List Str).map V.str)) z6=some (.lst (([("let":Str),"divide","fetch","put","make","claim","choose","repeat","call"]:List Str).map V.str)):=af
  have yD:=RJ _ _ yD
  have AO:=RJ _ _ AO
  have FG:=RJ _ _ FG
  have IY:=RJ _ _ IY
  have Pp:=RJ _ _ Pp
  have sA:=sA.trans RJ
  clear RJ
  generalize upd G5 z6 (.lst (([("let":Str),"divide","fetch","put","make","claim","choose","repeat","call"]:List Str).map V.str))=G6 at sA yD AO FG IY Pp Po ⊢
  have Po:G6 z6=some (.lst (LR.map V.str)):=Po
  have kl:LR.length=9:=rfl
  refine ⟨_,rfl,_,rfl,z6,rfl,⟨_,ck.of Po⟩,gu (xs:=LR.map V.str) (fun i ys H'=>H'=G6∧ys=(LR.take i).map (fun w=>V.bl (decide (V.str w=V.str (Jr (kd s0)))))) ⟨rfl,rfl⟩ (fun i ys H' _ q=>by rw [q.1];exact ck.of Po) ?_ ?_⟩
  ·rintro i x ys H' hix ⟨rfl,rfl⟩
   obtain ⟨y,hy,rfl⟩:=kj hix
   have Af:=(List.getElem?_eq_some_iff.mp hy).1
   refine ⟨Ext.one,jd ⟨_,rfl,_,rfl,r,_,0,_,rfl,rfl,aV.of (sA _ _ er),Cn _ _,rfl,?_,rfl,?_⟩⟩
   ·rw [List.length_map,List.length_take];exact line _ (by omega)
   ·rw [take_snoc hy,List.map_append]
    rfl
  rintro ys H' ⟨rfl,rfl⟩ z7 hz7
  rw [List.length_map,List.take_length,LS hj]
  have Qa:=new (o:=.lst ((([0,1,2,3,4,5,7,8,6]:List Nat)).map (fun i=>V.bl (decide (kd s0=i))))) hz7
  have Ez7:upd H' z7 (.lst ((([0,1,2,3,4,5,7,8,6]:List Nat)).map (fun i=>V.bl (decide (kd s0=i))))) z7=some (.lst ((([0,1,2,3,4,5,7,8,6]:List Nat)).map (fun i=>V.bl (decide (kd s0=i))))):=af
  have yD:=Qa _ _ yD
  have AO:=Qa _ _ AO
  have FG:=Qa _ _ FG
  have IY:=Qa _ _ IY
  have Pp:=Qa _ _ Pp
  have Po:=Qa _ _ Po
  have sA:=sA.trans Qa
  clear Qa
  generalize upd H' z7 (.lst ((([0,1,2,3,4,5,7,8,6]:List Nat)).map (fun i=>V.bl (decide (kd s0=i)))))=G7 at sA yD AO FG IY Pp Po Ez7 ⊢
  refine ⟨z5,z7,_,_,rfl,rfl,.inl ⟨ck.of Pp,ck.of Ez7⟩,uV (vs:=(([0,1,2,3,4,5,7,8,6]:List Nat)).map (fun i=>V.bl (decide (kd s0=i)))) rfl,_,rfl,ia ?_⟩
  have ty:=Ul _ sA
  refine ⟨_,rfl,_,_,_,true,rfl,ty,rfl,kS,_,rfl,ia ?_⟩
  have hs7:=cD.ao (av.of sA) hs
  have hP7:=ie.ao (av.of sA) hP
  obtain ⟨dx,fs,ep,lk⟩:=step_at hs7
  refine ⟨_,rfl,p,_,dx,_,_,rfl,ep,J.cl _ hj,J.na _ _ hj (Xn hj),lk,_,rfl,r,_,1,_,rfl,rfl,aV.of (sA _ _ er),bN (j:=1) rfl,rfl,_,rfl,nu rfl ?_⟩
  have k:=fun H9 (z:aF G7 H9)=>k H9 (sA.trans z)
  clear yD AO FG IY Pp Po Ez7 ty Ul ep lk sA er
  refine l5 _ p r s0 _ _ G7 hs7 hP7 ho (fun G9 s9=>?_) k
  have R3:=cD.ao (av.of s9) hs7
  have R6:=ie.ao (av.of s9) hP7
  have k:=fun H9 (z:aF G9 H9)=>k H9 (s9.trans z)
  refine l6 _ p r s0 _ _ G9 R3 R6 ho (fun h0=>?_) k
  refine l7 _ p r s0 _ _ G9 R3 R6 ho (fun h1=>?_) k
  refine l8 _ p r s0 _ _ G9 R3 R6 ho (fun h2=>?_) k
  refine l9 _ p r s0 _ _ G9 R3 R6 ho (fun h3=>?_) k
  refine NR _ p r s0 _ _ G9 R3 R6 ho (fun h4=>?_) k
  refine RU _ p r s0 _ _ G9 R3 R6 ho (fun h6=>?_) k
  exact ⟨_,rfl,_,rfl,p,_,s0,rfl,(by omega),R3,R6,ho,hd,NW,k⟩
abbrev pK:Stmt:=top 54
theorem gM:aO ["_law_step_here","_law_told","_law_keeps","_law_falls"] ["_law_step_here","_law_told"] (ak pK):=⟨rfl,rfl,rfl,by decide +kernel,rfl,by decide +kernel,by decide +kernel⟩
theorem Ov {f:Addr} {fd:FuncData} {Y:Cy} {fS:Addr} {n:Nat} (F:fG K "_law_block_fields" "_law_block_fields" pK f fd) (T:Txt K mg Y.z.s) (U:fB K mg Y.z) (J:gD K mg Y fS) (bU:M4 P w K mg base 4 Y.z "told" ["self"] (dJ Y.z 3)) (oQ:Dn P w K mg base (3*n+8) "_law_all_fields" ["_law_steps_here","_law_told"] (zq Y n)):bT P w K mg base dX (3*n+9) f fd ["_law_step_here","_law_told"] (jF Y (n+1)):=by
 obtain ⟨An,yr,jW,jf,jh,jT⟩:=oQ
 refine F.ok gM (fun vs H Q E h=>?_) (fun cdv A outer s H vs Q E hr h=>?_)
 ·obtain ⟨p,v,s,rfl,hkd,hs,hP,ho,hd,Qj,k⟩:=h
  rfl
 ·obtain ⟨p,v,s,rfl,hkd,hs,hP,ho,hd,Qj,k⟩:=h
  have hu:=bq hr
  rw [show au pK=[_,_,_,_,_,_,_,_] from rfl]
  refine ⟨_,(ai (cO (aK (nG 8 (uL hr)) (jI (Z:=Y.z) (aE (pv 0) rfl) U.cl iN bU (hr.mono (by first | decide | omega)) az) (aH aG (pv 1) aj (fun _ _=>rfl)) (aP _)) (ay (aJ ng)) bx)
   (ai (cO (aK di (aH aG (pv 1) aj (fun _ _=>rfl)) aY (aP _)) (ay (aJ ng)) bx)
   (ai (cO (aK di (aH aG (pv 1) aj (fun _ _=>rfl)) aY (aP _)) (ay (aJ (pS (aq jW (hr.mono (by first | decide | omega)) rfl jf jh jT .nil az (aa (aE (pv 0) rfl) (aa (aH aG (pv 1) aj (fun _ _=>rfl)) ah))) (pR (aq jW (hr.mono (by first | decide | omega)) rfl jf jh jT .nil az (aa (aE (pv 0) rfl) (aa (aH aG (pv 1) aj (fun _ _=>rfl)) ah))))))) bx)
   (ai (nc (i:=2) gM.nd rfl (Or.inl rfl) (bu ["_law_at","_law_one"] [] [] rfl (by decide +kernel) (by decide +kernel) (by with_unfolding_all rfl) (by exact trivial) (by rfl) rfl (by rfl)) rfl (gF (aE (pv 0) rfl)) (fun _ _ _ _=>(tF (K:=K) (n:=2) rfl rfl (cC (aN (i:=0) (show List.Nodup (["_law_at","_law_one"]:List Str) by decide +kernel) rfl (Or.inl rfl) (Or.inr rfl)) (cC (aN (i:=1) (show List.Nodup (["_law_at","_law_one"]:List Str) by decide +kernel) rfl (Or.inl rfl) (Or.inr rfl)) kI)))) (fun _ _ _ _=>cI) (fun _ _ _ _=>(aQ (aa (pv 0) (aa (jI (Z:=Y.z) (pv 1) U.cl iN bU (hr.mono (by first | decide | omega)) az) ah)))))
   (ai (cO (PW.pt (oV (uF (qZ (bF (gB (c:=.ty "tuple") trivial) (by rfl) T.isinstance boot_isinstance (aa (aE (pv 0) rfl) (aa (wz (v:=.ty "tuple") rfl T.tuple boot_tuple rfl) ah))))) (mj (aK (nG 8 (uL hr)) (pv 2) (aS ja (by rfl) T.list boot_list (aa (aH aG (pv 1) aj (fun _ _=>rfl)) ah)) (aP _))))) (ay (aJ ng)) bx)
   (ai (aR (i:=3) gM.nd rfl (Or.inl rfl) j9)
   (ai (cO (aK tH (aE (pv 0) rfl) j9 (aP _)) (ay (aR (i:=3) gM.nd rfl (Or.inl rfl) (aQ (aa (aH aG (aE (pv 0) rfl) aj (fun _ _=>rfl)) (aa (aQ (aa (aE (aH aG (aE (pv 0) rfl) aj (fun _ _=>rfl)) rfl) (aa (aE (aH aG (aE (pv 0) rfl) aj (fun _ _=>rfl)) rfl) ah))) ah))))) bx)
   (ay (aJ (pS (gi (Oj 8 (uL hr)) (pv 3) (aH aG (pv 1) aj (fun _ _=>rfl)) (aP _)) (pR (aq jW (hr.mono (by first | decide | omega)) rfl jf jh jT .nil az (aa (aE (pv 0) rfl) (aa (aH aG (pv 1) aj (fun _ _=>rfl)) ah)))))))))))))),?_⟩
  cases s with
  | flat kk at_ as =>
   have hkd:kk=5∨7≤kk:=hkd
   unfold cD at hs
   unfold ie at hP
   unfold cV.ok at ho
   obtain ⟨q,dx,us,e,sh,ep,pp⟩:=hs
   cases e
   obtain ⟨r,us',rfl,er,iQ⟩:=hP
   have h7:=Od sh
   obtain rfl:kk=5:=by omega
   obtain ⟨c,rfl⟩:=sh
   cases pp with
   | cons h0 pp =>
    cases pp
    cases iQ with
    | cons h0' iQ =>
     cases iQ
     obtain ⟨pc,rfl⟩:=gA h0
     have hc:cP Y.z H c (.ref pc):=h0
     have hc':bg H c _:=h0'
     have NW:c.dep≤3:=(ho.2 (.cd c) (List.mem_cons_self ..)).2
     refine ⟨_,rfl,p,_,dx,_,_,rfl,ep,J.cl 5 (by decide),J.na 5 _ (by decide) (by decide +kernel),eu,pc,c,rfl,hc,pc,c,rfl,rfl,hc,NW,fun v1 H1 s1 D1=>?_⟩
     refine ⟨_,rfl,r,_,2,_,rfl,rfl,aV.of (s1 _ _ er),rfl,qP D1 (bg.ao (av.of s1) hc') (by omega) ⟨_,rfl,ia ?_⟩⟩
     exact ⟨_,rfl,r,_,0,_,rfl,rfl,aV.of (s1 _ _ er),rfl,rfl,_,rfl,dF rfl (k _ s1)⟩
  | ny at_ c t e =>
   unfold cD at hs
   unfold ie at hP
   unfold cV.ok at ho
   unfold cV.dep at hd Qj
   obtain ⟨q,dx,uc,t1,t2,us,ws,e0,ep,hc,e1,l1,h1,e2,l2,h2⟩:=hs
   cases e0
   obtain ⟨r,Z4,t1',vP,us',PK,rfl,er,hc',SO,Cj,IT,h2'⟩:=hP
   obtain ⟨pc,rfl⟩:=gA hc
   have NW:=ho.1.2
   refine ⟨_,rfl,p,_,dx,_,_,rfl,ep,J.cl 7 (by decide),J.na 7 _ (by decide) (by decide +kernel),cG (by decide +kernel) (cG (by decide +kernel) (eu)),pc,c,rfl,hc,pc,c,rfl,rfl,hc,NW,fun v1 H1 s1 D1=>?_⟩
   refine ⟨_,rfl,r,_,2,_,rfl,rfl,aV.of (s1 _ _ er),rfl,qP D1 (bg.ao (av.of s1) hc') (by omega) ⟨_,rfl,ia ?_⟩⟩
   refine ⟨_,rfl,r,_,0,_,rfl,rfl,aV.of (s1 _ _ er),rfl,rfl,_,rfl,bJ (bL (by decide +kernel)) ?_⟩
   refine ⟨_,rfl,r,_,0,_,rfl,rfl,aV.of (s1 _ _ er),rfl,rfl,_,rfl,dF rfl ?_⟩
   refine ⟨_,rfl,p,_,dx,_,_,rfl,s1 _ _ ep,J.cl 7 (by decide),J.na 7 _ (by decide) (by decide +kernel),cG (by decide +kernel) (eu),_,rfl,r,_,3,_,rfl,rfl,aV.of (s1 _ _ er),rfl,t1,t1',us,us',t,rfl,s1 _ _ e1,h1.ao (av.of s1),s1 _ _ SO,Cj.ao (av.of s1),ho.2.2.2.1,by omega,by omega,ho.2.1,fun H2 s2=>?_⟩
   refine ⟨_,rfl,uY ?_⟩
   have sA:=s1.trans s2
   exact ⟨_,rfl,p,_,dx,_,_,rfl,sA _ _ ep,J.cl 7 (by decide),J.na 7 _ (by decide) (by decide +kernel),eu,_,rfl,r,_,4,_,rfl,rfl,aV.of (sA _ _ er),rfl,t2,vP,ws,PK,e,rfl,sA _ _ e2,h2.ao (av.of sA),sA _ _ IT,h2'.ao (av.of sA),ho.2.2.2.2,by omega,by omega,ho.2.2.1,fun H3 s3=>k _ (sA.trans s3)⟩
  | rep at_ c hh ff b =>
   unfold cD at hs
   unfold ie at hP
   unfold cV.ok at ho
   unfold cV.dep at hd Qj
   obtain ⟨q,dx,uc,uh,uf,t2,ws,e0,ep,hc,hR,hF,e2,l2,h2⟩:=hs
   cases e0
   obtain ⟨r,Z4,uh',uf',vP,PK,rfl,er,hc',hR',Y6,IT,h2'⟩:=hP
   obtain ⟨pc,rfl⟩:=gA hc
   have NW:=ho.1.2
   refine ⟨_,rfl,p,_,dx,_,_,rfl,ep,J.cl 8 (by decide),J.na 8 _ (by decide) (by decide +kernel),cG (by decide +kernel) (cG (by decide +kernel) (cG (by decide +kernel) (eu))),pc,c,rfl,hc,pc,c,rfl,rfl,hc,NW,fun v1 H1 s1 D1=>?_⟩
   refine ⟨_,rfl,r,_,2,_,rfl,rfl,aV.of (s1 _ _ er),rfl,qP D1 (bg.ao (av.of s1) hc') (by omega) ⟨_,rfl,ia ?_⟩⟩
   refine ⟨_,rfl,r,_,0,_,rfl,rfl,aV.of (s1 _ _ er),rfl,rfl,_,rfl,bJ (bL (by decide +kernel)) ?_⟩
   refine ⟨_,rfl,r,_,0,_,rfl,rfl,aV.of (s1 _ _ er),rfl,rfl,_,rfl,bJ (bL (by decide +kernel)) ?_⟩
   obtain ⟨tk,xs,rfl,etk,lk,pk⟩:=hR
   obtain ⟨tk',xs',rfl,a81,pk'⟩:=hR'
   have lxs:=aA pk
   refine ⟨_,rfl,p,_,dx,_,_,rfl,s1 _ _ ep,J.cl 8 (by decide),J.na 8 _ (by decide) (by decide +kernel),cG (by decide +kernel) (cG (by decide +kernel) (eu)),tk,rfl,⟨xs,aV.of (s1 _ _ etk)⟩,dj (xs:=xs) (fun i ys H'=>aF H1 H'∧Paired (wF H') ys (hh.take i)) ⟨aF.refl _,.nil⟩ (fun i ys H' _ q=>aV.of (q.1 _ _ (s1 _ _ etk))) ?_ ?_⟩
   ·rintro i x ys H' hix ⟨sm,py⟩
    obtain ⟨c2,iH,r2,w2,rfl,OW,hc2⟩:=bH pk hix
    have tR:=List.mem_of_getElem? iH
    have Af:=(List.getElem?_eq_some_iff.mp iH).1
    have qI:ys.length≤i:=by
     rw [aA py,List.length_take]
     omega
    have sB:=s1.trans sm
    have Bs:=hc2.ao (av.of sB)
    obtain ⟨pu,rfl⟩:=gA hc2
    refine ⟨r2,_,rfl,aV.of (sB _ _ OW),rfl,_,_,rfl,_,_,rfl,rfl,Ext.two,jd ⟨_,rfl,_,rfl,pu,c2.2,rfl,Bs,pu,c2.2,rfl,rfl,Bs,(ho.2.2.1 c2 tR).2,fun v H3 s3 d3=>⟨(szl 2),fun q hq=>⟨line _ (by omega),(sm.trans s3).trans (new hq),?_⟩⟩⟩⟩
    rw [take_snoc iH]
    exact bB (wF.all (av.of (s3.trans (new hq))) py) ⟨q,v,rfl,af,d3.ao (av.of (new hq))⟩
   rintro ys H' ⟨sm,py⟩ lq IL
   rw [lxs,List.take_length] at py
   have sA:=(s1.trans sm).trans (new (o:=.lst ys) IL)
   have SH:upd H' lq (.lst ys) lq=some (.lst ys):=af
   have py:=wF.all (av.of (new (o:=.lst ys) IL)) py
   generalize upd H' lq (.lst ys)=H3 at sA SH py ⊢
   refine ⟨_,rfl,p,_,dx,_,_,rfl,sA _ _ ep,J.cl 8 (by decide),J.na 8 _ (by decide) (by decide +kernel),cG (by decide +kernel) (cG (by decide +kernel) (eu)),_,_,_,true,rfl,.tup (sA _ _ etk),rfl,T.kT,_,rfl,ia ?_⟩
   refine ⟨_,rfl,_,rfl,r,_,3,_,rfl,rfl,aV.of (sA _ _ er),rfl,tk',_,rfl,.inr (aV.of (sA _ _ a81)),fun l3 hl3=>?_⟩
   have s3:=new (o:=.lst xs') hl3
   have sB:=sA.trans s3
   refine ⟨lq,l3,_,_,rfl,rfl,.inl ⟨ck.of (s3 _ _ SH),ck.of af⟩,KN (fun q hq=>(ho.2.2.1 q hq).2) (wF.all (av.of s3) py) (wF.all (av.of sB) pk'),_,rfl,ia ?_⟩
   generalize upd H3 l3 (.lst xs')=H4 at sB ⊢
   clear SH py sA s3 hl3 IL
   cases ff with
   | none =>
    have hF:uf=V.eT:=hF
    subst hF
    have Y6:uf'=V.eT:=Y6
    subst Y6
    refine ⟨_,rfl,p,_,dx,_,_,rfl,sB _ _ ep,J.cl 8 (by decide),J.na 8 _ (by decide) (by decide +kernel),cG (by decide +kernel) (eu),rfl,_,rfl,nu rfl ?_⟩
    refine ⟨_,rfl,_,rfl,r,_,4,_,rfl,rfl,aV.of (sB _ _ er),rfl,.inl ⟨rfl,rfl,_,rfl,uY ?_⟩⟩
    exact ⟨_,rfl,p,_,dx,_,_,rfl,sB _ _ ep,J.cl 8 (by decide),J.na 8 _ (by decide) (by decide +kernel),eu,_,rfl,r,_,5,_,rfl,rfl,aV.of (sB _ _ er),rfl,t2,vP,ws,PK,b,rfl,sB _ _ e2,h2.ao (av.of sB),sB _ _ IT,h2'.ao (av.of sB),ho.2.2.2.2.2,by omega,by omega,ho.2.2.2.2.1,fun H5 s5=>k _ (sB.trans s5)⟩
   | some q =>
    obtain ⟨rf,df,rfl,OV,Sf⟩:=hF
    obtain ⟨rf',df',rfl,a88,Df'⟩:=Y6
    obtain ⟨dd,tt,es,Tt,_⟩:=id Sf
    refine ⟨_,rfl,p,_,dx,_,_,rfl,sB _ _ ep,J.cl 8 (by decide),J.na 8 _ (by decide) (by decide +kernel),cG (by decide +kernel) (eu),rfl,_,rfl,pZ (fun z=>by cases z) ?_⟩
    refine ⟨_,rfl,p,_,dx,_,_,rfl,sB _ _ ep,J.cl 8 (by decide),J.na 8 _ (by decide) (by decide +kernel),cG (by decide +kernel) (eu),rf,_,0,_,rfl,rfl,aV.of (sB _ _ OV),rfl,?_⟩
    refine ⟨_,rfl,p,_,dx,_,_,rfl,sB _ _ ep,J.cl 8 (by decide),J.na 8 _ (by decide) (by decide +kernel),cG (by decide +kernel) (eu),rf,_,1,_,rfl,rfl,aV.of (sB _ _ OV),rfl,df,Y.z.s,dd,_,_,rfl,sB _ _ es,T.cl,T.nT,fj _ _,?_⟩
    refine ⟨_,rfl,p,_,dx,_,_,rfl,sB _ _ ep,J.cl 8 (by decide),J.na 8 _ (by decide) (by decide +kernel),cG (by decide +kernel) (eu),rf,_,1,_,rfl,rfl,aV.of (sB _ _ OV),rfl,df,Y.z.s,dd,_,_,rfl,sB _ _ es,T.cl,T.nN,eF _ _,(szl 2),fun q1 hq1=>⟨(szl 2),fun q2 hq2=>?_⟩⟩
    have s12:=(new (o:=.tup [V.ref tt,.int q.2.2]) hq1).trans (new (o:=.tup [.int q.1,.ref q1]) hq2)
    have FT:Qw (upd (upd H4 q1 (.tup [V.ref tt,.int q.2.2])) q2 (.tup [.int q.1,.ref q1])) (some q) (.ref q2):=⟨q2,q1,rfl,af,tt,new hq2 _ _ af,Tt.same (sB.trans s12)⟩
    generalize upd (upd H4 q1 (.tup [V.ref tt,.int q.2.2])) q2 (.tup [.int q.1,.ref q1])=H5 at s12 FT ⊢
    have sB:=sB.trans s12
    have FT':Qw H5 (some q) (.ref rf'):=⟨rf',df',rfl,sB _ _ a88,Df'.same sB⟩
    refine ⟨_,rfl,_,rfl,r,_,4,_,rfl,rfl,aV.of (sB _ _ er),rfl,.inr (gz (cu (Bx FT FT') (by decide)) ⟨_,rfl,uY ?_⟩)⟩
    exact ⟨_,rfl,p,_,dx,_,_,rfl,sB _ _ ep,J.cl 8 (by decide),J.na 8 _ (by decide) (by decide +kernel),eu,_,rfl,r,_,5,_,rfl,rfl,aV.of (sB _ _ er),rfl,t2,vP,ws,PK,b,rfl,sB _ _ e2,h2.ao (av.of sB),sB _ _ IT,h2'.ao (av.of sB),ho.2.2.2.2.2,by omega,by omega,ho.2.2.2.2.1,fun H5 s5=>k _ (sB.trans s5)⟩
abbrev pL:Stmt:=top 55
theorem mX:aO ["_law_steps_here","_law_told","_law_k"] ["_law_steps_here","_law_told"] (ak pL):=⟨rfl,rfl,rfl,by decide +kernel,rfl,by decide +kernel,by decide +kernel⟩
theorem Gr {f:Addr} {fd:FuncData} {Y:Cy} {fS:Addr} {n:Nat} (F:fG K "_law_all_fields" "_law_all_fields" pL f fd) (T:Txt K mg Y.z.s) (U:fB K mg Y.z) (J:gD K mg Y fS) (gR:M9 P w K mg base (2*n+6) Y "told" ["self"] (eE Y n)) (Nd:Dn P w K mg base (3*n+7) "_law_fields" ["_law_step_here","_law_told"] (o6 Y n)):bT P w K mg base dX (3*n+8) f fd ["_law_steps_here","_law_told"] (zq Y n):=by
 obtain ⟨Vz,T5,NF,HJ,HQ,Nr⟩:=Nd
 refine F.ok mX (fun vs H Q E h=>?_) (fun cdv A outer s H vs Q E hr h=>?_)
 ·obtain ⟨t,r,us,ws,l,rfl,et,hs,er,hw,ho,hd,NW,hl,k⟩:=h
  rfl
 ·obtain ⟨t,r,us,ws,l,rfl,et,hs,er,hw,ho,hd,NW,hl,k⟩:=h
  have hu:=bq hr
  rw [show au pL=[_,_,_] from rfl]
  refine ⟨_,(ai (cO (PW.pt (oV (uF (qZ (bF (gB (c:=.ty "tuple") trivial) (by rfl) T.isinstance boot_isinstance (aa (pv 0) (aa (wz (v:=.ty "tuple") rfl T.tuple boot_tuple rfl) ah))))) (mj (aK Gp (bF bZ (by rfl) T.len PySem.boot_len (aa (pv 0) ah)) (bF bZ (by rfl) T.len PySem.boot_len (aa (pv 1) ah)) (aP _))))) (ay (aJ ng)) bx)
   (ai (oE PassesOwn.never rfl (gT rfl T.range (aa (bF bZ (by rfl) T.len PySem.boot_len (aa (pv 1) ah)) ah)) (aN (i:=2) mX.nd rfl (Or.inl rfl)) (ay (cO (PW.pt (oV (aK (nG 16 (uL hr)) (zG (Y:=Y) (aH aG (pv 0) (pv 2) (fun _ _=>rfl)) J.cl pU gR (hr.mono (by first | decide | omega)) az) (aH aG (pv 1) (pv 2) (fun _ _=>rfl)) (aP _)) (mj (uF (qZ (aq NF (hr.mono (by first | decide | omega)) rfl HJ HQ Nr .nil az (aa (aH aG (pv 0) (pv 2) (fun _ _=>rfl)) (aa (aH aG (pv 1) (pv 2) (fun _ _=>rfl)) ah)))))))) (ay (aJ ng)) bx)))
   (ay (aJ ng)))),?_⟩
  have hp:=eg.mp hs
  have hq:=iT.mp hw
  have rV:=aA hp
  have TQ:=aA hq
  refine ⟨_,rfl,_,_,_,true,rfl,.tup et,rfl,T.kT,_,rfl,ia ?_⟩
  refine ⟨_,rfl,t,_,rfl,.inr (aV.of et),_,rfl,r,_,rfl,.inr (aV.of er),rfl,_,rfl,nu (by rw [rV,TQ]) ?_⟩
  refine ⟨_,rfl,r,_,rfl,.inr (aV.of er),_,rfl,by omega,by omega,nV (n:=ws.length) (fun i σ H'=>∃ k2:Option V,σ=[some (.ref t),some (.ref r),k2]∧aF H H') ⟨none,rfl,aF.refl _⟩ ?_ ?_⟩
  ·rintro i σ H1 hi ⟨k2,rfl,sm⟩
   have hix:us[i]?=some us[i]:=List.getElem?_eq_getElem (by omega)
   have OO:ws[i]?=some ws[i]:=List.getElem?_eq_getElem hi
   obtain ⟨c,iH,hx⟩:=bH hp hix
   obtain ⟨c',Vp,hv⟩:=bH hq OO
   rw [iH] at Vp
   cases Vp
   have tR:=List.mem_of_getElem? iH
   have dd:=qj tR
   have oc:=tM ho tR
   generalize us[i]=x at hix hx
   generalize ws[i]=v at OO hv
   obtain ⟨p,rfl⟩:=AV hx
   have Vl:=cD.ao (av.of sm) hx
   refine ⟨_,rfl,_,rfl,t,_,_,_,rfl,rfl,aV.of (sm _ _ et),bN (by rw [Nat.zero_add];exact hix),p,c,rfl,Vl,p,c,rfl,rfl,Vl,by omega,oc,fun v1 H2 s2 P1=>?_⟩
   obtain ⟨r1,_,rfl,_⟩:=iC oc P1
   obtain ⟨rv,_,rfl,_⟩:=iC oc hv
   have sA:=sm.trans s2
   have hv2:=ie.ao (av.of sA) hv
   refine ⟨_,rfl,_,rfl,r,_,_,_,rfl,rfl,aV.of (sA _ _ er),bN (by rw [Nat.zero_add];exact OO),gz (cu (tE (n:=3) oc (by omega) P1 hv2) (by decide)) ⟨_,rfl,ia ?_⟩⟩
   refine ⟨_,rfl,_,rfl,t,_,_,_,rfl,rfl,aV.of (sA _ _ et),bN (by rw [Nat.zero_add];exact hix),_,rfl,_,rfl,r,_,_,_,rfl,rfl,aV.of (sA _ _ er),bN (by rw [Nat.zero_add];exact OO),p,_,c,rfl,cD.ao (av.of sA) hx,hv2,oc,by omega,by omega,fun H3 s3=>?_⟩
   exact ⟨_,rfl,ia ⟨_,rfl,sA.trans s3⟩⟩
  rintro σ H1 ⟨k2,rfl,sm⟩
  exact k _ sm
abbrev mh:Stmt:=top 56
theorem gK:aO ["_law_helper_here","_law_told","_law_found","_law_needs","_law_gives"] ["_law_helper_here","_law_told"] (ak mh):=⟨rfl,rfl,rfl,by decide +kernel,rfl,by decide +kernel,by decide +kernel⟩
theorem Hy {f:Addr} {fd:FuncData} {Y:Cy} {fS:Addr} {n:Nat} (F:fG K "_law_helper_right" "_law_helper_right" mh f fd) (T:Txt K mg Y.z.s) (U:fB K mg Y.z) (J:gD K mg Y fS) (Av:Mt P w K mg base 15 Y.hp "told" ["self"] (wk Y)) (bU:M4 P w K mg base 4 Y.z "told" ["self"] (dJ Y.z 3)) (oQ:Dn P w K mg base 17 "_law_all_fields" ["_law_steps_here","_law_told"] (zq Y 3)):bT P w K mg base dX 18 f fd ["_law_helper_here","_law_told"] (kR Y):=by
 obtain ⟨a8Q,Vv,AH,z9,AB⟩:=Av
 obtain ⟨An,yr,jW,jf,jh,jT⟩:=oQ
 refine F.ok gK (fun vs H Q E h=>?_) (fun cdv A outer s H vs Q E hr h=>?_)
 ·obtain ⟨p,v,h,rfl,hA,hT,ho,k⟩:=h
  rfl
 ·obtain ⟨p,v,h,rfl,hA,hT,ho,k⟩:=h
  have hu:=bq hr
  rw [show au mh=[_,_,_,_,_] from rfl]
  refine ⟨_,(ai (aR (i:=2) gK.nd rfl (Or.inl rfl) (aQ (aa (aE (pv 0) rfl) (aa (aE (pv 0) rfl) (aa (aE (pv 0) rfl) (aa (aE (pv 0) rfl) ah))))))
   (ai (cO (PW.pt (oV (aK (nG 16 (uL hr)) (pv 2) (fO o8 (pv 1) (eX aj) (eX aj)) (aP _)) (mj (aK (nG 16 (uL hr)) (fP (pv 0) J.ch z9 AH (hr.mono (by first | decide | omega)) AB .nil az) (pv 1) (aP _))))) (ay (aJ ng)) bx)
   (ai (aR (i:=3) gK.nd rfl (Or.inl rfl) (aS aI (by rfl) T.tuple boot_tuple (aa (cS (bu ["_law_at","_law_one"] [] [] rfl (by decide +kernel) (by decide +kernel) (by with_unfolding_all rfl) (by exact trivial) (by rfl) rfl (by rfl)) rfl (gF (aE (pv 0) rfl)) (fun _ _ _ _=>(tF (K:=K) (n:=2) rfl rfl (cC (aN (i:=0) (show List.Nodup (["_law_at","_law_one"]:List Str) by decide +kernel) rfl (Or.inl rfl) (Or.inr rfl)) (cC (aN (i:=1) (show List.Nodup (["_law_at","_law_one"]:List Str) by decide +kernel) rfl (Or.inl rfl) (Or.inr rfl)) kI)))) (fun _ _ _ _=>cI) (fun _ _ _ _=>(aQ (aa (pv 0) (aa (jI (Z:=Y.z) (pv 1) U.cl iN bU (hr.mono (by first | decide | omega)) az) ah))))) ah)))
   (ai (aR (i:=4) gK.nd rfl (Or.inl rfl) (aS aI (by rfl) T.tuple boot_tuple (aa (cS (bu ["_law_at","_law_one"] [] [] rfl (by decide +kernel) (by decide +kernel) (by with_unfolding_all rfl) (by exact trivial) (by rfl) rfl (by rfl)) rfl (gF (aE (pv 0) rfl)) (fun _ _ _ _=>(tF (K:=K) (n:=2) rfl rfl (cC (aN (i:=0) (show List.Nodup (["_law_at","_law_one"]:List Str) by decide +kernel) rfl (Or.inl rfl) (Or.inr rfl)) (cC (aN (i:=1) (show List.Nodup (["_law_at","_law_one"]:List Str) by decide +kernel) rfl (Or.inl rfl) (Or.inr rfl)) kI)))) (fun _ _ _ _=>cI) (fun _ _ _ _=>(aQ (aa (pv 0) (aa (jI (Z:=Y.z) (pv 1) U.cl iN bU (hr.mono (by first | decide | omega)) az) ah))))) ah)))
   (ay (aJ (pS (gi (pT 16 (uL hr)) (aQ (aa (pv 3) (aa (pv 4) ah))) (fO o8 (pv 1) (eX aj) (eX aj)) (aP _)) (pR (aq jW (hr.mono (by first | decide | omega)) rfl jf jh jT .nil az (aa (aE (pv 0) rfl) (aa (aH aG (pv 1) aj (fun _ _=>rfl)) ah))))))))))),?_⟩
  obtain ⟨p',dx,t1,t2,v1,v2,t3,us,e0,ep,e1,e2,h1,h2,e3,l3,h3⟩:=id hA
  cases e0
  obtain ⟨r,t1',vP,v1',v2',t3',us',rfl,er,SO,IT,Cj,h2',OY,h3'⟩:=id hT
  refine ⟨_,rfl,p,_,dx,_,_,rfl,ep,J.ch,J.nh _ (by decide +kernel),(by unfold Aj;exact cG (by decide +kernel) (cG (by decide +kernel) (cG (by decide +kernel) (cG (by decide +kernel) (cG (by decide +kernel) (cG (by decide +kernel) (eu))))))),?_⟩
  refine ⟨_,rfl,p,_,dx,_,_,rfl,ep,J.ch,J.nh _ (by decide +kernel),(by unfold Aj;exact cG (by decide +kernel) (cG (by decide +kernel) (cG (by decide +kernel) (cG (by decide +kernel) (cG (by decide +kernel) (eu)))))),?_⟩
  refine ⟨_,rfl,p,_,dx,_,_,rfl,ep,J.ch,J.nh _ (by decide +kernel),(by unfold Aj;exact cG (by decide +kernel) (cG (by decide +kernel) (cG (by decide +kernel) (cG (by decide +kernel) (eu))))),?_⟩
  refine ⟨_,rfl,p,_,dx,_,_,rfl,ep,J.ch,J.nh _ (by decide +kernel),(by unfold Aj;exact cG (by decide +kernel) (cG (by decide +kernel) (cG (by decide +kernel) (eu)))),(szl 4),fun q1 hq1=>?_⟩
  have vH:=new (o:=.tup [V.int h.at_,.str h.nm,.ref t1,.ref t2]) hq1
  have jD:upd H q1 (.tup [V.int h.at_,.str h.nm,.ref t1,.ref t2]) q1=some (.tup [V.int h.at_,.str h.nm,.ref t1,.ref t2]):=af
  have sA:=vH
  clear vH
  generalize upd H q1 (.tup [V.int h.at_,.str h.nm,.ref t1,.ref t2])=G1 at sA jD ⊢
  refine ⟨_,rfl,_,rfl,_,rfl,_,rfl,r,_,rfl,aV.of (sA _ _ er),(fun z=>absurd z.1 (show ¬ (1:Nat)=0 by decide)),fun q2 hq2=>?_⟩
  rw [show oR _ (some 1) (some 5)=[V.int h.at_,.str h.nm,.ref t1',.ref vP] from rfl]
  have HE:=new (o:=.tup [V.int h.at_,.str h.nm,.ref t1',.ref vP]) hq2
  have qC:upd G1 q2 (.tup [V.int h.at_,.str h.nm,.ref t1',.ref vP]) q2=some (.tup [V.int h.at_,.str h.nm,.ref t1',.ref vP]):=af
  have jD:=HE _ _ jD
  have sA:=sA.trans HE
  clear HE
  generalize upd G1 q2 (.tup [V.int h.at_,.str h.nm,.ref t1',.ref vP])=G2 at sA jD qC ⊢
  refine gz (cJ (n:=16) jD qC (.cons (dH rfl) (.cons (dH rfl) (.cons (cJ (sA _ _ e1) (sA _ _ SO) (lS _)) (.cons (cJ (sA _ _ e2) (sA _ _ IT) (lS _)) .nil))))) ⟨_,rfl,ia ?_⟩
  refine ⟨_,rfl,p,dx,_,rfl,sA _ _ ep,(by unfold Aj;exact kX (by decide +kernel) (kX (by decide +kernel) (kX (by decide +kernel) (kX (by decide +kernel) (kX (by decide +kernel) (kX (by decide +kernel) (kX (by decide +kernel) (rfl)))))))),p,h,rfl,hA.ao (av.of sA),ho,fun vT H7 s7 T7=>?_⟩
  have jD:=s7 _ _ jD
  have qC:=s7 _ _ qC
  have sA:=sA.trans s7
  obtain ⟨rT,_,_,_,_,_,_,rfl,_⟩:=id T7
  refine ⟨_,rfl,gz (cu (Br ho T7 (hT.ao (av.of sA))) (by decide)) ⟨_,rfl,ia ?_⟩⟩
  obtain ⟨tk2,ur,rfl,VS,lk2,pk2⟩:=h1
  have a5k:=aA pk2
  refine ⟨_,rfl,p,_,dx,_,_,rfl,(sA _ _ ep),J.ch,J.nh _ (by decide +kernel),(by unfold Aj;exact cG (by decide +kernel) (cG (by decide +kernel) (eu))),tk2,rfl,⟨ur,aV.of (sA _ _ VS)⟩,dj (xs:=ur) (fun i ys H'=>aF H7 H'∧Paired (wF H') ys (h.nd.take i)) ⟨aF.refl _,.nil⟩ (fun i ys H' _ q=>aV.of (q.1 _ _ (sA _ _ VS))) ?_ ?_⟩
  ·rintro i x ys H' hix ⟨sm,py⟩
   obtain ⟨c2,iH,r2,w2,rfl,OW,hc2⟩:=bH pk2 hix
   have tR:=List.mem_of_getElem? iH
   have Af:=(List.getElem?_eq_some_iff.mp iH).1
   have ll:=ho.nl
   have qI:ys.length≤i:=by
    rw [aA py,List.length_take]
    omega
   have sB:=sA.trans sm
   have Bs:=hc2.ao (av.of sB)
   obtain ⟨pu,rfl⟩:=gA hc2
   refine ⟨r2,_,rfl,aV.of (sB _ _ OW),rfl,_,_,rfl,_,_,rfl,rfl,Ext.two,jd ⟨_,rfl,_,rfl,pu,c2.2,rfl,Bs,pu,c2.2,rfl,rfl,Bs,(ho.nd c2 tR).2,fun v H3 s3 d3=>⟨(szl 2),fun q hq=>⟨line _ (by omega),(sm.trans s3).trans (new hq),?_⟩⟩⟩⟩
   rw [take_snoc iH]
   exact bB (wF.all (av.of (s3.trans (new hq))) py) ⟨q,v,rfl,af,d3.ao (av.of (new hq))⟩
  rintro QH K2 ⟨X5,JW⟩ Yh a8k
  rw [a5k,List.take_length] at JW
  refine ⟨Yh,_,rfl,.inl ⟨ck.of af,fun qa hqa=>?_⟩⟩
  have s9:aF K2 (upd (upd K2 Yh (.lst QH)) qa (.tup QH)):=aF.new (new a8k) hqa
  have NG:upd (upd K2 Yh (.lst QH)) qa (.tup QH) qa=some (.tup QH):=af
  have JW:=wF.all (av.of s9) JW
  have sN:=X5.trans s9
  clear s9
  have jD:=sN _ _ jD
  have qC:=sN _ _ qC
  have sA:=sA.trans sN
  generalize upd (upd K2 Yh (.lst QH)) qa (.tup QH)=M2 at sA sN NG JW jD qC ⊢
  obtain ⟨tk3,XX,rfl,VR,lk3,pk3⟩:=h2
  have a5j:=aA pk3
  refine ⟨_,rfl,p,_,dx,_,_,rfl,(sA _ _ ep),J.ch,J.nh _ (by decide +kernel),(by unfold Aj;exact cG (by decide +kernel) (eu)),tk3,rfl,⟨XX,aV.of (sA _ _ VR)⟩,dj (xs:=XX) (fun i ys H'=>aF M2 H'∧Paired (wF H') ys (h.gv.take i)) ⟨aF.refl _,.nil⟩ (fun i ys H' _ q=>aV.of (q.1 _ _ (sA _ _ VR))) ?_ ?_⟩
  ·rintro i x ys H' hix ⟨sm,py⟩
   obtain ⟨c2,iH,r2,w2,rfl,OW,hc2⟩:=bH pk3 hix
   have tR:=List.mem_of_getElem? iH
   have Af:=(List.getElem?_eq_some_iff.mp iH).1
   have ll:=ho.gl
   have qI:ys.length≤i:=by
    rw [aA py,List.length_take]
    omega
   have sB:=sA.trans sm
   have Bs:=hc2.ao (av.of sB)
   obtain ⟨pu,rfl⟩:=gA hc2
   refine ⟨r2,_,rfl,aV.of (sB _ _ OW),rfl,_,_,rfl,_,_,rfl,rfl,Ext.two,jd ⟨_,rfl,_,rfl,pu,c2.2,rfl,Bs,pu,c2.2,rfl,rfl,Bs,(ho.gv c2 tR).2,fun v H3 s3 d3=>⟨(szl 2),fun q hq=>⟨line _ (by omega),(sm.trans s3).trans (new hq),?_⟩⟩⟩⟩
   rw [take_snoc iH]
   exact bB (wF.all (av.of (s3.trans (new hq))) py) ⟨q,v,rfl,af,d3.ao (av.of (new hq))⟩
  rintro QG K3 ⟨sm3,JV⟩ Yg a8j
  rw [a5j,List.take_length] at JV
  refine ⟨Yg,_,rfl,.inl ⟨ck.of af,fun qb Qh=>?_⟩⟩
  have s9:aF K3 (upd (upd K3 Yg (.lst QG)) qb (.tup QG)):=aF.new (new a8j) Qh
  have Qy:upd (upd K3 Yg (.lst QG)) qb (.tup QG) qb=some (.tup QG):=af
  have JV:=wF.all (av.of s9) JV
  have sN:=sm3.trans s9
  clear s9
  have jD:=sN _ _ jD
  have qC:=sN _ _ qC
  have NG:=sN _ _ NG
  have sA:=sA.trans sN
  generalize upd (upd K3 Yg (.lst QG)) qb (.tup QG)=M3 at sA sN Qy JV jD qC NG ⊢
  refine ⟨_,rfl,_,rfl,(szl 2),fun q5 hq5=>?_⟩
  have JW:=wF.all (av.of (new (o:=.tup [V.ref qa,.ref qb]) hq5)) (wF.all (av.of sN) JW)
  have JV:=wF.all (av.of (new (o:=.tup [V.ref qa,.ref qb]) hq5)) JV
  clear sN
  have TN:=new (o:=.tup [V.ref qa,.ref qb]) hq5
  have XE:upd M3 q5 (.tup [V.ref qa,.ref qb]) q5=some (.tup [V.ref qa,.ref qb]):=af
  have jD:=TN _ _ jD
  have qC:=TN _ _ qC
  have NG:=TN _ _ NG
  have Qy:=TN _ _ Qy
  have sA:=sA.trans TN
  clear TN
  generalize upd M3 q5 (.tup [V.ref qa,.ref qb])=G5 at sA jD qC NG Qy JW JV XE ⊢
  refine ⟨_,rfl,_,rfl,_,rfl,r,_,rfl,aV.of (sA _ _ er),(fun z=>absurd z.1 (show ¬ (5:Nat)=0 by decide)),fun q6 TV=>?_⟩
  rw [show oR _ (some 5) (some 7)=[v1',v2'] from rfl]
  have JW:=wF.all (av.of (new (o:=.tup [v1',v2']) TV)) JW
  have JV:=wF.all (av.of (new (o:=.tup [v1',v2']) TV)) JV
  have RK:=new (o:=.tup [v1',v2']) TV
  have Eq6:upd G5 q6 (.tup [v1',v2']) q6=some (.tup [v1',v2']):=af
  have jD:=RK _ _ jD
  have qC:=RK _ _ qC
  have NG:=RK _ _ NG
  have Qy:=RK _ _ Qy
  have XE:=RK _ _ XE
  have sA:=sA.trans RK
  clear RK
  generalize upd G5 q6 (.tup [v1',v2'])=G6 at sA jD qC NG Qy JW JV XE Eq6 ⊢
  have PA:Iz G6 h.nd (.ref qa):=⟨qa,_,rfl,NG,JW⟩
  have PB:Iz G6 h.gv (.ref qb):=⟨qb,_,rfl,Qy,JV⟩
  refine gz (cJ (n:=16) XE Eq6 (.cons (cu (pQ (fun q hq=>(ho.nd q hq).2) PA (Cj.ao (av.of sA))) (by decide)) (.cons (cu (pQ (fun q hq=>(ho.gv q hq).2) PB (h2'.ao (av.of sA))) (by decide)) .nil))) ⟨_,rfl,uY ?_⟩
  exact ⟨_,rfl,p,_,dx,_,_,rfl,(sA _ _ ep),J.ch,J.nh _ (by decide +kernel),(by unfold Aj;exact eu),_,rfl,r,_,7,_,rfl,rfl,aV.of (sA _ _ er),rfl,t3,t3',us,us',h.st,rfl,sA _ _ e3,h3.ao (av.of sA),sA _ _ OY,h3'.ao (av.of sA),ho.st,ho.dp,ho.dp,ho.sl,fun H9 s9=>k _ (sA.trans s9)⟩
abbrev nF:Stmt:=top 57
theorem jr:aO ["_law_script","_law_draw","_law_told","_law_helpers","_law_program_here","_law_first","_law_steps_here","_law_condition_here","_law_block","_law_loop","_law_begin","_law_turn","_law_due","_law_k","_law_doubled"] ["_law_script"] (ak nF):=⟨rfl,rfl,rfl,by decide +kernel,rfl,by decide +kernel,by decide +kernel⟩
abbrev sW (i:Nat):Stmt:=(au nF).getD i (.Pass ⟨0,0,0,0⟩)
theorem a5p {f:Addr} {Y:Cy} {fS:Addr} (T:Txt K mg Y.z.s) (U:fB K mg Y.z) (J:gD K mg Y fS) (N:FA K Y) (dQ:Dn P w K mg base 2 "_law_cell_at" ["_law_script","_law_k"] (o7 K)) (dP:Dn P w K mg base 15 "_law_program" ["_law_draw","_law_many"] mW) (bK:Dn P w K mg base 13 "_law_helper_placed" ["_law_helper_here","_law_draw"] vo) (cj:Dn P w K mg base 17 "_law_helper_made" ["_law_told"] (vq Y)) (lI:Mr P w K mg base 1 Y.pg ["self","helpers"] (vp Y)) (bR:Dn P w K mg base 16 "_law_steps_made" ["_law_steps_here"] (nE Y 3)) (aD:Dn P w K mg base 5 "_law_condition" ["_law_draw","_law_things","_law_deep"] (dm 2)) (aM:Dn P w K mg base 8 "_law_condition_made" ["_law_told"] (iM Y.z 3)) (jB:Mr P w K mg base 2 Y.ch ["self","at","condition","then","other"] (qG Y)) (jz:Mr P w K mg base 2 Y.rp ["self","at","condition","keeps","falls","body"] (qE Y)) (jA:Mr P w K mg base 2 Y.cm ["self","at","condition"] (qF Y 5)) (lH:Mt P w K mg base 17 Y.pg "told" ["self"] (mU Y)) (gR:M9 P w K mg base 14 Y "told" ["self"] (eE Y 4)) (bU:M4 P w K mg base 4 Y.z "told" ["self"] (dJ Y.z 3)) (bS:Dn P w K mg base 18 "_law_helper_right" ["_law_helper_here","_law_told"] (kR Y)) (gQ:Mt P w K mg base 1 Y.pg "named" ["self","name"] (mV Y)) {cdv:Value} {A:Around} {outer:List Env} {s:Shared} {H0:Hp} {E:XK} (hr:dZ 19 (A.deeper (envOfC "law" (ak nF) s.heap.objs.size f cdv))) :
  ∃ t,PS (jQ dX P w K mg base ["_law_script","_law_draw","_law_told","_law_helpers","_law_program_here","_law_first","_law_steps_here","_law_condition_here","_law_block","_law_loop","_law_begin","_law_turn","_law_due","_law_k","_law_doubled"] "law" (ak nF) f cdv A outer s H0 E).uH (sW 13) t∧∀ (D:Ends) (x0 x1 x3 x5 x6:Option V) (tt pg pc pb pl:Addr) (us ws:List V) (hs:List Hl) (c:Cd) (h0:Hl) (u0:V) (b:Int) (rZ rY tO Ad:Option V) (G:Hp),WL Y G tt pg pc pb pl us ws hs c h0 u0→(∀ (G':Hp) (rZ rY:Option V),aF G G'→D.nx [x0,x1,some (.ref tt),x3,some (.ref pg),x5,x6,some (.ref pc),some (.ref pb),some (.ref pl),some (.int b),rZ,rY,tO,Ad] G')→t D [x0,x1,some (.ref tt),x3,some (.ref pg),x5,x6,some (.ref pc),some (.ref pb),some (.ref pl),some (.int b),rZ,rY,tO,Ad] G:=by
 obtain ⟨nX,mJ,kE,jv,jw,kD⟩:=dQ
 obtain ⟨nW,mH,lW,ki,kr,lV⟩:=dP
 obtain ⟨iG,gU,gx,fJ,fK,gw⟩:=bK
 obtain ⟨ji,iV,gJ,fT,fX,gI⟩:=cj
 obtain ⟨BB,xP,gh,mP,fZ⟩:=lI
 obtain ⟨iu,gG,dD,cX,cY,dB⟩:=bR
 obtain ⟨cF,bY,bD,aZ,bf,bC⟩:=aD
 obtain ⟨dI,dh,bW,bO,bQ,bV⟩:=aM
 obtain ⟨yZ,vf,fF,nC,fz⟩:=jB
 obtain ⟨yX,u7,fE,nB,fu⟩:=jz
 obtain ⟨yY,ve,gE,qt,gC⟩:=jA
 obtain ⟨BA,xO,mQ,mE,mK⟩:=lH
 obtain ⟨iW,iF,gY,gp,gr,gX⟩:=bS
 obtain ⟨tT,qg,nD,nj,nA⟩:=gQ
 have hu:=bq hr
 refine ⟨_,(oE PassesOwn.never rfl (jj (cZ (aa (pv 10) (aa (bX lC (bX ju (pv 10) aj) aj) (aa (bX lC (bX ju (pv 10) aj) aj) ah))))) (aN (i:=11) jr.nd rfl (Or.inl rfl)) (ai (cO (PW.pt (lA (aK di (pv 11) aj (aP _)) (jH (PW.pt (oV (uF (qZ (bF (gB (c:=.ty "tuple") trivial) (by rfl) T.isinstance boot_isinstance (aa (fP (pv 4) J.cp mE mQ (hr.mono (by first | decide | omega)) mK .nil az) (aa (wz (v:=.ty "tuple") rfl T.tuple boot_tuple rfl) ah))))) (mj (aK (nG 18 (uL hr)) (fP (pv 4) J.cp mE mQ (hr.mono (by first | decide | omega)) mK .nil az) (pv 2) (aP _)))))))) (ay (aJ ng)) bx)
   (ai (cO (PW.pt (lA (aK di (pv 11) aj (aP _)) (jH (aK (nG 18 (uL hr)) (zG (Y:=Y) (pv 8) J.cl pU gR (hr.mono (by first | decide | omega)) az) (aQ (aa aY (aa aj (aa (jI (Z:=Y.z) (pv 7) U.cl iN bU (hr.mono (by first | decide | omega)) az) (aa (aH aG (aH aG (pv 2) aj (fun _ _=>rfl)) aj (fun _ _=>rfl)) (aa (aH aG (aH aG (pv 2) aj (fun _ _=>rfl)) aj (fun _ _=>rfl)) ah)))))) (aP _))))) (ay (aJ ng)) bx)
   (ai (aR (i:=12) jr.nd rfl (Or.inl rfl) (aQ (aa aY (aa aj (aa (jI (Z:=Y.z) (pv 7) U.cl iN bU (hr.mono (by first | decide | omega)) az) (aa (aQ (aa (aQ (aa aj (aa (jI (Z:=Y.z) (pv 7) U.cl iN bU (hr.mono (by first | decide | omega)) az) ah))) ah)) (aa j9 (aa (aH aG (aH aG (pv 2) aj (fun _ _=>rfl)) aj (fun _ _=>rfl)) ah))))))))
   (ay (cO (PW.pt (lA (aK di (pv 11) aj (aP _)) (jH (aK (nG 18 (uL hr)) (zG (Y:=Y) (pv 9) J.cl pU gR (hr.mono (by first | decide | omega)) az) (pv 12) (aP _))))) (ay (aJ ng)) bx)))))),fun D x0 x1 x3 x5 x6 tt pg pc pb pl us ws hs c h0 u0 b rZ rY tO Ad G W nx=>?_⟩
 refine ⟨_,rfl,_,rfl,_,_,rfl,rfl,_,_,rfl,rfl,(show (0:Int) < 3 by decide),_,rfl,_,_,rfl,rfl,_,_,rfl,rfl,(show (0:Int) < 3 by decide),(szl 3),fun lz hlz=>⟨lz,rfl,⟨_,ck.of af⟩,?_⟩⟩
 have sz:=new (o:=.lst [.int b,.int ((b+1) % 3),.int ((b+2) % 3)]) hlz
 have W:=W.same sz
 have elz:upd G lz (.lst [.int b,.int ((b+1) % 3),.int ((b+2) % 3)]) lz=some (.lst [.int b,.int ((b+1) % 3),.int ((b+2) % 3)]):=af
 have nx:=fun G9 rZ rY (z:aF (upd G lz (.lst [.int b,.int ((b+1) % 3),.int ((b+2) % 3)])) G9)=>nx G9 rZ rY (sz.trans z)
 generalize upd G lz (.lst [.int b,.int ((b+1) % 3),.int ((b+2) % 3)])=G1 at W elz nx ⊢
 refine Bw (xs:=[.int b,.int ((b+1) % 3),.int ((b+2) % 3)]) (fun i σ H'=>∃ rZ rY:Option V,σ=[x0,x1,some (.ref tt),x3,some (.ref pg),x5,x6,some (.ref pc),some (.ref pb),some (.ref pl),some (.int b),rZ,rY,tO,Ad]∧aF G1 H') ⟨_,_,rfl,aF.refl _⟩ (fun i σ H' _ q=>by obtain ⟨_,_,_,q⟩:=q;exact ck.of (q _ _ elz)) ?_ ?_
 rotate_left
 ·rintro σ H' ⟨rZ,rY,rfl,sm⟩
  exact nx _ _ _ sm
 rintro i x σ H1 hi ⟨rZ,rY,rfl,sm⟩
 obtain ⟨xv,rfl⟩:∃ xv:Int,x=.int xv:=by
  have:=List.mem_of_getElem? hi
  simp only [List.mem_cons,List.mem_nil_iff,or_false] at this
  rcases this with e | e | e <;> exact ⟨_,e⟩
 have W:=W.same sm
 by_cases hx:xv=0
 ·refine ⟨_,rfl,rfl,_,rfl,dF (by rw [hx]) ?_⟩
  obtain ⟨IU,tp,IQ,_⟩:=id W.pg
  refine ⟨_,rfl,pg,IU,_,rfl,IQ,(kX (by decide +kernel) rfl),pg,us,hs,rfl,W.pg,W.ok,fun r1 ws1 H2 s2 vM P1=>?_⟩
  refine ⟨_,_,_,true,rfl,.tup vM,rfl,T.kT,_,rfl,ia ?_⟩
  have W:=W.same s2
  refine ⟨_,rfl,pg,IU,_,rfl,s2 _ _ IQ,(kX (by decide +kernel) rfl),pg,us,hs,rfl,W.pg,W.ok,fun r2 PJ H3 s3 OW P2=>?_⟩
  have W:=W.same s3
  refine ⟨_,rfl,gz (cJ (n:=18) OW W.et (kW (fun u v a m h g=>cu (Br (W.ok a m) h g) (by decide)) P2 W.pt)) ⟨_,rfl,ia ?_⟩⟩
  have sm:=(sm.trans s2).trans s3
  refine ⟨_,rfl,rfl,_,rfl,bJ (fun e=>absurd (hx.symm.trans (V.int.inj e)) (by decide)) (ia ?_)⟩
  refine ⟨_,rfl,pc,c,rfl,W.cc,pc,c,rfl,rfl,W.cc,W.cg.2,fun va H4 s4 D4=>?_⟩
  have W:=W.same s4
  refine ⟨_,rfl,pc,c,rfl,W.cc,pc,c,rfl,rfl,W.cc,W.cg.2,fun vd H5 s5 D5=>⟨(szl 2),fun q2 hq2=>⟨(szl 1),fun q3 Cg=>?_⟩⟩⟩
  have W:=W.same s5
  have n2:=new (o:=.tup [.int 9,vd]) hq2
  have n3:=new (o:=.tup [.ref q2]) Cg
  have W:=(W.same n2).same n3
  obtain ⟨r0,t1,t2,v1,v2,t3,xs,w0,qi,e3,h3,IM,hm0⟩:=W.first
  refine ⟨_,rfl,tt,_,0,_,rfl,rfl,aV.of W.et,bN (j:=0) w0,r0,_,7,_,rfl,rfl,aV.of qi,rfl,(szl 6),fun q4 HZ=>?_⟩
  have n4:=new (o:=.tup [.str "repeat",.int 8,va,.ref q3,.eT,.ref t3]) HZ
  have E6:=n3.trans n4
  have zY:=n2.trans E6
  have PR:ie (upd (upd (upd H5 q2 (.tup [.int 9,vd])) q3 (.tup [.ref q2])) q4 (.tup [.str "repeat",.int 8,va,.ref q3,.eT,.ref t3])) (.rep 8 c [(9,c)] none h0.st) (.ref q4):=by unfold ie;exact ⟨q4,va,.ref q3,.eT,t3,xs,rfl,af,D4.ao (av.of (s5.trans zY)),⟨q3,[.ref q2],rfl,n4 _ _ af,.cons ⟨q2,vd,rfl,E6 _ _ af,D5.ao (av.of zY)⟩ .nil⟩,rfl,n4 _ _ e3,h3.ao (av.of n4)⟩
  have W:=W.same n4
  have sm:=((sm.trans s4).trans s5).trans zY
  clear n2 n3 n4 E6 zY qi e3 h3 IM w0 hm0 D4 D5
  generalize upd (upd (upd H5 q2 (.tup [.int 9,vd])) q3 (.tup [.ref q2])) q4 (.tup [.str "repeat",.int 8,va,.ref q3,.eT,.ref t3])=H6 at W sm PR ⊢
  refine ⟨_,rfl,rfl,_,rfl,bJ (fun e=>absurd (hx.symm.trans (V.int.inj e)) (by decide)) (ia ⟨_,_,rfl,sm⟩)⟩
 have n0:=hx
 by_cases hx:xv=1
 ·refine ⟨_,rfl,rfl,_,rfl,bJ (fun e=>absurd (hx.symm.trans (V.int.inj e)) (by decide)) (ia ?_)⟩
  refine ⟨_,rfl,rfl,_,rfl,dF (by rw [hx]) ?_⟩
  refine ⟨_,rfl,pb,_,rfl,W.sb,pb,_,rfl,rfl,W.sb,W.xR.2,W.xR.1,fun vb H2 s2 P1=>?_⟩
  have W:=W.same s2
  refine ⟨_,rfl,pc,c,rfl,W.cc,pc,c,rfl,rfl,W.cc,W.cg.2,fun vc H3 s3 D3=>?_⟩
  have W:=W.same s3
  obtain ⟨r0,t1,t2,v1,v2,t3,xs,w0,qi,e3,h3,IM,hm0⟩:=W.first
  refine ⟨_,rfl,tt,_,0,_,rfl,rfl,aV.of W.et,bN (j:=0) w0,r0,_,7,_,rfl,rfl,aV.of qi,rfl,?_⟩
  refine ⟨_,rfl,tt,_,0,_,rfl,rfl,aV.of W.et,bN (j:=0) w0,r0,_,7,_,rfl,rfl,aV.of qi,rfl,(szl 5),fun q1 hq1=>?_⟩
  have nq:=new (o:=.tup [.str "choose",.int 7,vc,.ref t3,.ref t3]) hq1
  have P9:ie (upd H3 q1 (.tup [.str "choose",.int 7,vc,.ref t3,.ref t3])) (.ny 7 c h0.st h0.st) (.ref q1):=by unfold ie;exact ⟨q1,vc,t3,t3,xs,xs,rfl,af,D3.ao (av.of nq),nq _ _ e3,h3.ao (av.of nq),nq _ _ e3,h3.ao (av.of nq)⟩
  obtain ⟨rb,_,rfl,_⟩:=iC W.xR.1 P1
  refine gz (cu (tE (n:=4) W.xR.1 W.xR.2 (ie.ao (av.of (s3.trans nq)) P1) P9) (by decide)) ⟨_,rfl,ia ?_⟩
  have W:=W.same nq
  have sm:=((sm.trans s2).trans s3).trans nq
  clear nq P9 P1 qi e3 h3 IM w0 hm0 D3
  generalize upd H3 q1 (.tup [.str "choose",.int 7,vc,.ref t3,.ref t3])=H3 at W sm ⊢
  refine ⟨_,rfl,pc,c,rfl,W.cc,pc,c,rfl,rfl,W.cc,W.cg.2,fun va H4 s4 D4=>?_⟩
  have W:=W.same s4
  refine ⟨_,rfl,pc,c,rfl,W.cc,pc,c,rfl,rfl,W.cc,W.cg.2,fun vd H5 s5 D5=>⟨(szl 2),fun q2 hq2=>⟨(szl 1),fun q3 Cg=>?_⟩⟩⟩
  have W:=W.same s5
  have n2:=new (o:=.tup [.int 9,vd]) hq2
  have n3:=new (o:=.tup [.ref q2]) Cg
  have W:=(W.same n2).same n3
  obtain ⟨r0,t1,t2,v1,v2,t3,xs,w0,qi,e3,h3,IM,hm0⟩:=W.first
  refine ⟨_,rfl,tt,_,0,_,rfl,rfl,aV.of W.et,bN (j:=0) w0,r0,_,7,_,rfl,rfl,aV.of qi,rfl,(szl 6),fun q4 HZ=>?_⟩
  have n4:=new (o:=.tup [.str "repeat",.int 8,va,.ref q3,.eT,.ref t3]) HZ
  have E6:=n3.trans n4
  have zY:=n2.trans E6
  have PR:ie (upd (upd (upd H5 q2 (.tup [.int 9,vd])) q3 (.tup [.ref q2])) q4 (.tup [.str "repeat",.int 8,va,.ref q3,.eT,.ref t3])) (.rep 8 c [(9,c)] none h0.st) (.ref q4):=by unfold ie;exact ⟨q4,va,.ref q3,.eT,t3,xs,rfl,af,D4.ao (av.of (s5.trans zY)),⟨q3,[.ref q2],rfl,n4 _ _ af,.cons ⟨q2,vd,rfl,E6 _ _ af,D5.ao (av.of zY)⟩ .nil⟩,rfl,n4 _ _ e3,h3.ao (av.of n4)⟩
  have W:=W.same n4
  have sm:=((sm.trans s4).trans s5).trans zY
  clear n2 n3 n4 E6 zY qi e3 h3 IM w0 hm0 D4 D5
  generalize upd (upd (upd H5 q2 (.tup [.int 9,vd])) q3 (.tup [.ref q2])) q4 (.tup [.str "repeat",.int 8,va,.ref q3,.eT,.ref t3])=H6 at W sm PR ⊢
  refine ⟨_,rfl,rfl,_,rfl,bJ (fun e=>absurd (hx.symm.trans (V.int.inj e)) (by decide)) (ia ⟨_,_,rfl,sm⟩)⟩
 have n1:=hx
 by_cases hx:xv=2
 ·refine ⟨_,rfl,rfl,_,rfl,bJ (fun e=>absurd (hx.symm.trans (V.int.inj e)) (by decide)) (ia ?_)⟩
  refine ⟨_,rfl,rfl,_,rfl,bJ (fun e=>absurd (hx.symm.trans (V.int.inj e)) (by decide)) (ia ?_)⟩
  refine ⟨_,rfl,pc,c,rfl,W.cc,pc,c,rfl,rfl,W.cc,W.cg.2,fun va H4 s4 D4=>?_⟩
  have W:=W.same s4
  refine ⟨_,rfl,pc,c,rfl,W.cc,pc,c,rfl,rfl,W.cc,W.cg.2,fun vd H5 s5 D5=>⟨(szl 2),fun q2 hq2=>⟨(szl 1),fun q3 Cg=>?_⟩⟩⟩
  have W:=W.same s5
  have n2:=new (o:=.tup [.int 9,vd]) hq2
  have n3:=new (o:=.tup [.ref q2]) Cg
  have W:=(W.same n2).same n3
  obtain ⟨r0,t1,t2,v1,v2,t3,xs,w0,qi,e3,h3,IM,hm0⟩:=W.first
  refine ⟨_,rfl,tt,_,0,_,rfl,rfl,aV.of W.et,bN (j:=0) w0,r0,_,7,_,rfl,rfl,aV.of qi,rfl,(szl 6),fun q4 HZ=>?_⟩
  have n4:=new (o:=.tup [.str "repeat",.int 8,va,.ref q3,.eT,.ref t3]) HZ
  have E6:=n3.trans n4
  have zY:=n2.trans E6
  have PR:ie (upd (upd (upd H5 q2 (.tup [.int 9,vd])) q3 (.tup [.ref q2])) q4 (.tup [.str "repeat",.int 8,va,.ref q3,.eT,.ref t3])) (.rep 8 c [(9,c)] none h0.st) (.ref q4):=by unfold ie;exact ⟨q4,va,.ref q3,.eT,t3,xs,rfl,af,D4.ao (av.of (s5.trans zY)),⟨q3,[.ref q2],rfl,n4 _ _ af,.cons ⟨q2,vd,rfl,E6 _ _ af,D5.ao (av.of zY)⟩ .nil⟩,rfl,n4 _ _ e3,h3.ao (av.of n4)⟩
  have W:=W.same n4
  have sm:=((sm.trans s4).trans s5).trans zY
  clear n2 n3 n4 E6 zY qi e3 h3 IM w0 hm0 D4 D5
  generalize upd (upd (upd H5 q2 (.tup [.int 9,vd])) q3 (.tup [.ref q2])) q4 (.tup [.str "repeat",.int 8,va,.ref q3,.eT,.ref t3])=H6 at W sm PR ⊢
  refine ⟨_,rfl,rfl,_,rfl,dF (by rw [hx]) ?_⟩
  refine ⟨_,rfl,pl,_,rfl,W.sl,pl,_,rfl,rfl,W.sl,W.xq.2,W.xq.1,fun vl H7 s7 P7=>?_⟩
  obtain ⟨rl,_,rfl,_⟩:=iC W.xq.1 P7
  refine ⟨_,rfl,gz (cu (tE (n:=4) W.xq.1 W.xq.2 P7 (ie.ao (av.of s7) PR)) (by decide)) ⟨_,rfl,ia ?_⟩⟩
  exact ⟨_,_,rfl,sm.trans s7⟩
 have n2:=hx
 refine ⟨_,rfl,rfl,_,rfl,bJ (fun e=>n0 (V.int.inj e)) (ia ?_)⟩
 refine ⟨_,rfl,rfl,_,rfl,bJ (fun e=>n1 (V.int.inj e)) (ia ?_)⟩
 refine ⟨_,rfl,pc,c,rfl,W.cc,pc,c,rfl,rfl,W.cc,W.cg.2,fun va H4 s4 D4=>?_⟩
 have W:=W.same s4
 refine ⟨_,rfl,pc,c,rfl,W.cc,pc,c,rfl,rfl,W.cc,W.cg.2,fun vd H5 s5 D5=>⟨(szl 2),fun q2 hq2=>⟨(szl 1),fun q3 Cg=>?_⟩⟩⟩
 have W:=W.same s5
 have n2:=new (o:=.tup [.int 9,vd]) hq2
 have n3:=new (o:=.tup [.ref q2]) Cg
 have W:=(W.same n2).same n3
 obtain ⟨r0,t1,t2,v1,v2,t3,xs,w0,qi,e3,h3,IM,hm0⟩:=W.first
 refine ⟨_,rfl,tt,_,0,_,rfl,rfl,aV.of W.et,bN (j:=0) w0,r0,_,7,_,rfl,rfl,aV.of qi,rfl,(szl 6),fun q4 HZ=>?_⟩
 have n4:=new (o:=.tup [.str "repeat",.int 8,va,.ref q3,.eT,.ref t3]) HZ
 have E6:=n3.trans n4
 have zY:=n2.trans E6
 have PR:ie (upd (upd (upd H5 q2 (.tup [.int 9,vd])) q3 (.tup [.ref q2])) q4 (.tup [.str "repeat",.int 8,va,.ref q3,.eT,.ref t3])) (.rep 8 c [(9,c)] none h0.st) (.ref q4):=by unfold ie;exact ⟨q4,va,.ref q3,.eT,t3,xs,rfl,af,D4.ao (av.of (s5.trans zY)),⟨q3,[.ref q2],rfl,n4 _ _ af,.cons ⟨q2,vd,rfl,E6 _ _ af,D5.ao (av.of zY)⟩ .nil⟩,rfl,n4 _ _ e3,h3.ao (av.of n4)⟩
 have W:=W.same n4
 have sm:=((sm.trans s4).trans s5).trans zY
 clear n2 n3 n4 E6 zY qi e3 h3 IM w0 hm0 D4 D5
 generalize upd (upd (upd H5 q2 (.tup [.int 9,vd])) q3 (.tup [.ref q2])) q4 (.tup [.str "repeat",.int 8,va,.ref q3,.eT,.ref t3])=H6 at W sm PR ⊢
 refine ⟨_,rfl,rfl,_,rfl,bJ (fun e=>n2 (V.int.inj e)) (ia ⟨_,_,rfl,sm⟩)⟩
theorem a5o {f:Addr} {Y:Cy} {fS:Addr} (T:Txt K mg Y.z.s) (U:fB K mg Y.z) (J:gD K mg Y fS) (N:FA K Y) (dQ:Dn P w K mg base 2 "_law_cell_at" ["_law_script","_law_k"] (o7 K)) (dP:Dn P w K mg base 15 "_law_program" ["_law_draw","_law_many"] mW) (bK:Dn P w K mg base 13 "_law_helper_placed" ["_law_helper_here","_law_draw"] vo) (cj:Dn P w K mg base 17 "_law_helper_made" ["_law_told"] (vq Y)) (lI:Mr P w K mg base 1 Y.pg ["self","helpers"] (vp Y)) (bR:Dn P w K mg base 16 "_law_steps_made" ["_law_steps_here"] (nE Y 3)) (aD:Dn P w K mg base 5 "_law_condition" ["_law_draw","_law_things","_law_deep"] (dm 2)) (aM:Dn P w K mg base 8 "_law_condition_made" ["_law_told"] (iM Y.z 3)) (jB:Mr P w K mg base 2 Y.ch ["self","at","condition","then","other"] (qG Y)) (jz:Mr P w K mg base 2 Y.rp ["self","at","condition","keeps","falls","body"] (qE Y)) (jA:Mr P w K mg base 2 Y.cm ["self","at","condition"] (qF Y 5)) (lH:Mt P w K mg base 17 Y.pg "told" ["self"] (mU Y)) (gR:M9 P w K mg base 14 Y "told" ["self"] (eE Y 4)) (bU:M4 P w K mg base 4 Y.z "told" ["self"] (dJ Y.z 3)) (bS:Dn P w K mg base 18 "_law_helper_right" ["_law_helper_here","_law_told"] (kR Y)) (gQ:Mt P w K mg base 1 Y.pg "named" ["self","name"] (mV Y)) {cdv:Value} {A:Around} {outer:List Env} {s:Shared} {H0:Hp} {E:XK} (hr:dZ 19 (A.deeper (envOfC "law" (ak nF) s.heap.objs.size f cdv))) :
  ∃ t,PS (jQ dX P w K mg base ["_law_script","_law_draw","_law_told","_law_helpers","_law_program_here","_law_first","_law_steps_here","_law_condition_here","_law_block","_law_loop","_law_begin","_law_turn","_law_due","_law_k","_law_doubled"] "law" (ak nF) f cdv A outer s H0 E).uH (sW 14) t∧∀ (D:Ends) (x0 x1 x3 x5 x6:Option V) (tt pg pc pb pl:Addr) (us ws:List V) (hs:List Hl) (c:Cd) (h0:Hl) (u0:V) (b:Int) (rZ rY tO Ad:Option V) (G:Hp),WL Y G tt pg pc pb pl us ws hs c h0 u0→(∀ (G':Hp) (tO:Option V),aF G G'→D.nx [x0,x1,some (.ref tt),x3,some (.ref pg),x5,x6,some (.ref pc),some (.ref pb),some (.ref pl),some (.int b),rZ,rY,tO,Ad] G')→t D [x0,x1,some (.ref tt),x3,some (.ref pg),x5,x6,some (.ref pc),some (.ref pb),some (.ref pl),some (.int b),rZ,rY,tO,Ad] G:=by
 obtain ⟨nX,mJ,kE,jv,jw,kD⟩:=dQ
 obtain ⟨nW,mH,lW,ki,kr,lV⟩:=dP
 obtain ⟨iG,gU,gx,fJ,fK,gw⟩:=bK
 obtain ⟨ji,iV,gJ,fT,fX,gI⟩:=cj
 obtain ⟨BB,xP,gh,mP,fZ⟩:=lI
 obtain ⟨iu,gG,dD,cX,cY,dB⟩:=bR
 obtain ⟨cF,bY,bD,aZ,bf,bC⟩:=aD
 obtain ⟨dI,dh,bW,bO,bQ,bV⟩:=aM
 obtain ⟨yZ,vf,fF,nC,fz⟩:=jB
 obtain ⟨yX,u7,fE,nB,fu⟩:=jz
 obtain ⟨yY,ve,gE,qt,gC⟩:=jA
 obtain ⟨BA,xO,mQ,mE,mK⟩:=lH
 obtain ⟨iW,iF,gY,gp,gr,gX⟩:=bS
 obtain ⟨tT,qg,nD,nj,nA⟩:=gQ
 have hu:=bq hr
 refine ⟨_,(oE PassesOwn.never rfl (gT rfl T.range (aa (bF bZ (by rfl) T.len PySem.boot_len (aa (pv 2) ah)) ah)) (aN (i:=13) jr.nd rfl (Or.inl rfl)) (ay (cO (PW.pt (oV (uF (qZ (aq gY (hr.mono (by first | decide | omega)) rfl gp gr gX .nil az (aa (aH aG (aE (pv 4) rfl) (pv 13) (fun _ _=>rfl)) (aa (aH aG (pv 2) (pv 13) (fun _ _=>rfl)) ah))))) (mj (aK (yP hu) (zH (pv 4) J.cp nj nD (hr.mono (by first | decide | omega)) nA .nil az (aa (aH aG (aH aG (pv 2) (pv 13) (fun _ _=>rfl)) aj (fun _ _=>rfl)) ah)) (aH aG (aE (pv 4) rfl) (pv 13) (fun _ _=>rfl)) (aP _))))) (ay (aJ ng)) bx))),fun D x0 x1 x3 x5 x6 tt pg pc pb pl us ws hs c h0 u0 b rZ rY tO Ad G W nx=>?_⟩
 have lw:=aA W.pt
 obtain ⟨IU,tp,IQ,iL,lz,pp⟩:=id W.pg
 have lu:=aA pp
 have lh:=W.lh
 refine ⟨_,rfl,tt,_,rfl,.inr (aV.of W.et),_,rfl,by omega,by omega,nV (n:=ws.length) (fun i σ H'=>∃ tO:Option V,σ=[x0,x1,some (.ref tt),x3,some (.ref pg),x5,x6,some (.ref pc),some (.ref pb),some (.ref pl),some (.int b),rZ,rY,tO,Ad]∧aF G H') ⟨_,rfl,aF.refl _⟩ ?_ ?_⟩
 rotate_left
 ·rintro σ H' ⟨tO,rfl,sm⟩
  exact nx _ _ sm
 rintro i σ H1 hi ⟨tO,rfl,sm⟩
 have hiu:us[i]?=some us[i]:=List.getElem?_eq_getElem (by omega)
 have OO:ws[i]?=some ws[i]:=List.getElem?_eq_getElem hi
 obtain ⟨h,hh,hA⟩:=bH pp hiu
 obtain ⟨h',Y4,hT⟩:=bH W.pt OO
 rw [hh] at Y4
 cases Y4
 have hm:=List.mem_of_getElem? hh
 generalize us[i]=u at hiu hA
 generalize ws[i]=v at OO hT
 obtain ⟨p,dxu,_,_,_,_,_,_,rfl,epu,_⟩:=id hA
 obtain ⟨r,t1,t2,v1,v2,t3,xs,rfl,er,_⟩:=id hT
 have W1:=W.same sm
 refine ⟨_,rfl,pg,_,IU,_,_,rfl,sm _ _ IQ,J.cp,J.np,eu,_,rfl,tp,_,_,_,rfl,rfl,aV.of (sm _ _ iL),bN (by rw [Nat.zero_add];exact hiu),_,rfl,_,rfl,tt,_,_,_,rfl,rfl,aV.of W1.et,bN (by rw [Nat.zero_add];exact OO),p,_,h,rfl,hA.ao (av.of sm),hT.ao (av.of sm),W.ok h hm,fun H2 s2=>⟨_,rfl,ia ?_⟩⟩
 have sA:=sm.trans s2
 have W2:=W1.same s2
 refine ⟨_,rfl,pg,IU,_,rfl,sA _ _ IQ,(kX (by decide +kernel) rfl),_,rfl,_,rfl,tt,_,_,_,rfl,rfl,aV.of W2.et,bN (by rw [Nat.zero_add];exact OO),r,_,2,_,rfl,rfl,aV.of (sA _ _ er),rfl,pg,h.nm,us,hs,rfl,W2.pg,fun H3 s3=>?_⟩
 rw [MS W.nd hiu hh rfl]
 have sB:=sA.trans s3
 exact ⟨_,rfl,pg,_,IU,_,_,rfl,sB _ _ IQ,J.cp,J.np,eu,_,rfl,tp,_,_,_,rfl,rfl,aV.of (sB _ _ iL),bN (by rw [Nat.zero_add];exact hiu),p,Y.hp,dxu,_,rfl,rfl,sB _ _ epu,N.ne,N.eq,N.om,_,rfl,ia ⟨_,rfl,sB⟩⟩
theorem a5n {f:Addr} {Y:Cy} {fS:Addr} (T:Txt K mg Y.z.s) (U:fB K mg Y.z) (J:gD K mg Y fS) (N:FA K Y) (dQ:Dn P w K mg base 2 "_law_cell_at" ["_law_script","_law_k"] (o7 K)) (dP:Dn P w K mg base 15 "_law_program" ["_law_draw","_law_many"] mW) (bK:Dn P w K mg base 13 "_law_helper_placed" ["_law_helper_here","_law_draw"] vo) (cj:Dn P w K mg base 17 "_law_helper_made" ["_law_told"] (vq Y)) (lI:Mr P w K mg base 1 Y.pg ["self","helpers"] (vp Y)) (bR:Dn P w K mg base 16 "_law_steps_made" ["_law_steps_here"] (nE Y 3)) (aD:Dn P w K mg base 5 "_law_condition" ["_law_draw","_law_things","_law_deep"] (dm 2)) (aM:Dn P w K mg base 8 "_law_condition_made" ["_law_told"] (iM Y.z 3)) (jB:Mr P w K mg base 2 Y.ch ["self","at","condition","then","other"] (qG Y)) (jz:Mr P w K mg base 2 Y.rp ["self","at","condition","keeps","falls","body"] (qE Y)) (jA:Mr P w K mg base 2 Y.cm ["self","at","condition"] (qF Y 5)) (lH:Mt P w K mg base 17 Y.pg "told" ["self"] (mU Y)) (gR:M9 P w K mg base 14 Y "told" ["self"] (eE Y 4)) (bU:M4 P w K mg base 4 Y.z "told" ["self"] (dJ Y.z 3)) (bS:Dn P w K mg base 18 "_law_helper_right" ["_law_helper_here","_law_told"] (kR Y)) (gQ:Mt P w K mg base 1 Y.pg "named" ["self","name"] (mV Y)) {cdv:Value} {A:Around} {outer:List Env} {s:Shared} {H0:Hp} {E:XK} (hr:dZ 19 (A.deeper (envOfC "law" (ak nF) s.heap.objs.size f cdv))) :
  ∃ t,PS (jQ dX P w K mg base ["_law_script","_law_draw","_law_told","_law_helpers","_law_program_here","_law_first","_law_steps_here","_law_condition_here","_law_block","_law_loop","_law_begin","_law_turn","_law_due","_law_k","_law_doubled"] "law" (ak nF) f cdv A outer s H0 E).uH (sW 15) t∧∀ (D:Ends) (x0 x1 x3 x5 x6:Option V) (tt pg pc pb pl:Addr) (us ws:List V) (hs:List Hl) (c:Cd) (h0:Hl) (u0:V) (b:Int) (rZ rY tO Ad:Option V) (G:Hp),WL Y G tt pg pc pb pl us ws hs c h0 u0→(∀ (G':Hp) (z:Addr) (vh:V),aF G G'→v8 Y G' z [vh,u0] [h0,h0]→D.nx [x0,x1,some (.ref tt),x3,some (.ref pg),some u0,x6,some (.ref pc),some (.ref pb),some (.ref pl),some (.int b),rZ,rY,tO,some (.ref z)] G')→t D [x0,x1,some (.ref tt),x3,some (.ref pg),some u0,x6,some (.ref pc),some (.ref pb),some (.ref pl),some (.int b),rZ,rY,tO,Ad] G:=by
 obtain ⟨nX,mJ,kE,jv,jw,kD⟩:=dQ
 obtain ⟨nW,mH,lW,ki,kr,lV⟩:=dP
 obtain ⟨iG,gU,gx,fJ,fK,gw⟩:=bK
 obtain ⟨ji,iV,gJ,fT,fX,gI⟩:=cj
 obtain ⟨BB,xP,gh,mP,fZ⟩:=lI
 obtain ⟨iu,gG,dD,cX,cY,dB⟩:=bR
 obtain ⟨cF,bY,bD,aZ,bf,bC⟩:=aD
 obtain ⟨dI,dh,bW,bO,bQ,bV⟩:=aM
 obtain ⟨yZ,vf,fF,nC,fz⟩:=jB
 obtain ⟨yX,u7,fE,nB,fu⟩:=jz
 obtain ⟨yY,ve,gE,qt,gC⟩:=jA
 obtain ⟨BA,xO,mQ,mE,mK⟩:=lH
 obtain ⟨iW,iF,gY,gp,gr,gX⟩:=bS
 obtain ⟨tT,qg,nD,nj,nA⟩:=gQ
 have hu:=bq hr
 refine ⟨_,(aR (i:=14) jr.nd rfl (Or.inl rfl) (dM mP gh (hr.mono (by first | decide | omega)) rfl J.mgP fZ .nil az (aa (cZ (aa (aq gJ (hr.mono (by first | decide | omega)) rfl fT fX gI .nil az (aa (aH aG (pv 2) aj (fun _ _=>rfl)) ah)) (aa (pv 5) ah))) ah))),fun D x0 x1 x3 x5 x6 tt pg pc pb pl us ws hs c h0 u0 b rZ rY tO Ad G W nx=>?_⟩
 obtain ⟨r0,t1,t2,v1,v2,t3,xs,w0,qi,e3,h3,IM,hm0⟩:=W.first
 obtain ⟨IU,tp,IQ,iL,lz,pp⟩:=id W.pg
 obtain ⟨h9,hh9,hA0⟩:=bH pp W.uz
 rw [W.hz] at hh9
 cases hh9
 refine ⟨_,rfl,tt,_,0,_,rfl,rfl,aV.of W.et,bN (j:=0) w0,.ref r0,h0,rfl,IM,W.ok _ hm0,fun vh H1 s1 hA=>?_⟩
 refine ⟨_,rfl,(szl 2),fun lq IL=>?_⟩
 have s2:=new (o:=.lst [vh,u0]) IL
 refine fun z dz hz oX ne=>?_
 have g9:=cT (o:=.own z) (o':=.ins Y.pg dz []) hz oX
 refine ⟨z,dz,lq,_,rfl,af,g9 _ _ af,fun t9 H9 but e9 F9=>⟨rfl,?_⟩⟩
 have s9:aF (upd H1 lq (.lst [vh,u0])) H9:=fun b' o q=>but b' o (g9 _ _ q) (aB q hz)
 have sA:=(s1.trans s2).trans s9
 refine nx H9 z vh sA ⟨dz,t9,e9,F9,(by show 2≤1000;decide),.cons (hA.ao (av.of (s2.trans s9))) (.cons (hA0.ao (av.of sA)) .nil)⟩
theorem a5m {f:Addr} {Y:Cy} {fS:Addr} (T:Txt K mg Y.z.s) (U:fB K mg Y.z) (J:gD K mg Y fS) (N:FA K Y) (dQ:Dn P w K mg base 2 "_law_cell_at" ["_law_script","_law_k"] (o7 K)) (dP:Dn P w K mg base 15 "_law_program" ["_law_draw","_law_many"] mW) (bK:Dn P w K mg base 13 "_law_helper_placed" ["_law_helper_here","_law_draw"] vo) (cj:Dn P w K mg base 17 "_law_helper_made" ["_law_told"] (vq Y)) (lI:Mr P w K mg base 1 Y.pg ["self","helpers"] (vp Y)) (bR:Dn P w K mg base 16 "_law_steps_made" ["_law_steps_here"] (nE Y 3)) (aD:Dn P w K mg base 5 "_law_condition" ["_law_draw","_law_things","_law_deep"] (dm 2)) (aM:Dn P w K mg base 8 "_law_condition_made" ["_law_told"] (iM Y.z 3)) (jB:Mr P w K mg base 2 Y.ch ["self","at","condition","then","other"] (qG Y)) (jz:Mr P w K mg base 2 Y.rp ["self","at","condition","keeps","falls","body"] (qE Y)) (jA:Mr P w K mg base 2 Y.cm ["self","at","condition"] (qF Y 5)) (lH:Mt P w K mg base 17 Y.pg "told" ["self"] (mU Y)) (gR:M9 P w K mg base 14 Y "told" ["self"] (eE Y 4)) (bU:M4 P w K mg base 4 Y.z "told" ["self"] (dJ Y.z 3)) (bS:Dn P w K mg base 18 "_law_helper_right" ["_law_helper_here","_law_told"] (kR Y)) (gQ:Mt P w K mg base 1 Y.pg "named" ["self","name"] (mV Y)) {cdv:Value} {A:Around} {outer:List Env} {s:Shared} {H0:Hp} {E:XK} (hr:dZ 19 (A.deeper (envOfC "law" (ak nF) s.heap.objs.size f cdv))) :
  ∃ t,PS (jQ dX P w K mg base ["_law_script","_law_draw","_law_told","_law_helpers","_law_program_here","_law_first","_law_steps_here","_law_condition_here","_law_block","_law_loop","_law_begin","_law_turn","_law_due","_law_k","_law_doubled"] "law" (ak nF) f cdv A outer s H0 E).uH (sW 16) t∧∀ (D:Ends) (x0 x1 x3 x5 x6:Option V) (tt pg pc pb pl:Addr) (us ws:List V) (hs:List Hl) (c:Cd) (h0:Hl) (u0:V) (b:Int) (rZ rY tO:Option V) (z:Addr) (vh:V) (G:Hp),WL Y G tt pg pc pb pl us ws hs c h0 u0→v8 Y G z [vh,u0] [h0,h0]→(∀ (G':Hp),aF G G'→D.nx [x0,x1,some (.ref tt),x3,some (.ref pg),some u0,x6,some (.ref pc),some (.ref pb),some (.ref pl),some (.int b),rZ,rY,tO,some (.ref z)] G')→t D [x0,x1,some (.ref tt),x3,some (.ref pg),some u0,x6,some (.ref pc),some (.ref pb),some (.ref pl),some (.int b),rZ,rY,tO,some (.ref z)] G:=by
 obtain ⟨nX,mJ,kE,jv,jw,kD⟩:=dQ
 obtain ⟨nW,mH,lW,ki,kr,lV⟩:=dP
 obtain ⟨iG,gU,gx,fJ,fK,gw⟩:=bK
 obtain ⟨ji,iV,gJ,fT,fX,gI⟩:=cj
 obtain ⟨BB,xP,gh,mP,fZ⟩:=lI
 obtain ⟨iu,gG,dD,cX,cY,dB⟩:=bR
 obtain ⟨cF,bY,bD,aZ,bf,bC⟩:=aD
 obtain ⟨dI,dh,bW,bO,bQ,bV⟩:=aM
 obtain ⟨yZ,vf,fF,nC,fz⟩:=jB
 obtain ⟨yX,u7,fE,nB,fu⟩:=jz
 obtain ⟨yY,ve,gE,qt,gC⟩:=jA
 obtain ⟨BA,xO,mQ,mE,mK⟩:=lH
 obtain ⟨iW,iF,gY,gp,gr,gX⟩:=bS
 obtain ⟨tT,qg,nD,nj,nA⟩:=gQ
 have hu:=bq hr
 refine ⟨_,(cO (PW.pt (oV (aK (yP hu) (zH (pv 14) J.cp nj nD (hr.mono (by first | decide | omega)) nA .nil az (aa (aH aG (aH aG (pv 2) aj (fun _ _=>rfl)) aj (fun _ _=>rfl)) ah)) (aH aG (aE (pv 14) rfl) aj (fun _ _=>rfl)) (aP _)) (mj (aK tH (zH (pv 4) J.cp nj nD (hr.mono (by first | decide | omega)) nA .nil az (aa aY ah)) j9 (aP _))))) (ay (aJ ng)) bx),fun D x0 x1 x3 x5 x6 tt pg pc pb pl us ws hs c h0 u0 b rZ rY tO z vh G W hz nx=>?_⟩
 obtain ⟨r0,t1,t2,v1,v2,t3,xs,w0,qi,e3,h3,IM,hm0⟩:=W.first
 obtain ⟨IU,tp,IQ,iL,lz,pp⟩:=id W.pg
 obtain ⟨dz,t9,ez,et9,_,pz⟩:=id hz
 obtain ⟨pv,dv,_,_,_,_,_,_,rfl,epv,_⟩:=id (by cases pz with | cons a r=>exact a:vm Y G h0 vh)
 refine ⟨_,rfl,z,dz,_,rfl,ez,(kX (by decide +kernel) rfl),_,rfl,tt,_,0,_,rfl,rfl,aV.of W.et,bN (j:=0) w0,r0,_,2,_,rfl,rfl,aV.of qi,rfl,z,h0.nm,_,_,rfl,hz,fun H1 s1=>?_⟩
 rw [show nv h0.nm [.ref pv,u0] [h0,h0]=.ref pv by unfold nv;rw [if_pos rfl]]
 refine ⟨_,rfl,z,_,dz,_,_,rfl,s1 _ _ ez,J.cp,J.np,eu,t9,_,0,_,rfl,rfl,aV.of (s1 _ _ et9),rfl,pv,Y.hp,dv,_,rfl,rfl,s1 _ _ epv,N.ne,N.eq,N.om,_,rfl,ia ?_⟩
 refine ⟨_,rfl,pg,IU,_,rfl,s1 _ _ IQ,(kX (by decide +kernel) rfl),pg,_,us,hs,rfl,W.pg.same s1,fun H2 s2=>?_⟩
 rw [Bu fun h m=>RM (W.nm h m)]
 exact ⟨rfl,_,rfl,nu rfl (nx _ (s1.trans s2))⟩
theorem a5l {f:Addr} {Y:Cy} {fS:Addr} (T:Txt K mg Y.z.s) (U:fB K mg Y.z) (J:gD K mg Y fS) (N:FA K Y) (dQ:Dn P w K mg base 2 "_law_cell_at" ["_law_script","_law_k"] (o7 K)) (dP:Dn P w K mg base 15 "_law_program" ["_law_draw","_law_many"] mW) (bK:Dn P w K mg base 13 "_law_helper_placed" ["_law_helper_here","_law_draw"] vo) (cj:Dn P w K mg base 17 "_law_helper_made" ["_law_told"] (vq Y)) (lI:Mr P w K mg base 1 Y.pg ["self","helpers"] (vp Y)) (bR:Dn P w K mg base 16 "_law_steps_made" ["_law_steps_here"] (nE Y 3)) (aD:Dn P w K mg base 5 "_law_condition" ["_law_draw","_law_things","_law_deep"] (dm 2)) (aM:Dn P w K mg base 8 "_law_condition_made" ["_law_told"] (iM Y.z 3)) (jB:Mr P w K mg base 2 Y.ch ["self","at","condition","then","other"] (qG Y)) (jz:Mr P w K mg base 2 Y.rp ["self","at","condition","keeps","falls","body"] (qE Y)) (jA:Mr P w K mg base 2 Y.cm ["self","at","condition"] (qF Y 5)) (lH:Mt P w K mg base 17 Y.pg "told" ["self"] (mU Y)) (gR:M9 P w K mg base 14 Y "told" ["self"] (eE Y 4)) (bU:M4 P w K mg base 4 Y.z "told" ["self"] (dJ Y.z 3)) (bS:Dn P w K mg base 18 "_law_helper_right" ["_law_helper_here","_law_told"] (kR Y)) (gQ:Mt P w K mg base 1 Y.pg "named" ["self","name"] (mV Y)) {cdv:Value} {A:Around} {outer:List Env} {s:Shared} {H0:Hp} {E:XK} (hr:dZ 19 (A.deeper (envOfC "law" (ak nF) s.heap.objs.size f cdv))) :
  ∃ t,PS (jQ dX P w K mg base ["_law_script","_law_draw","_law_told","_law_helpers","_law_program_here","_law_first","_law_steps_here","_law_condition_here","_law_block","_law_loop","_law_begin","_law_turn","_law_due","_law_k","_law_doubled"] "law" (ak nF) f cdv A outer s H0 E).uH (sW 17) t∧∀ (D:Ends) (x0 x1 x3 x5 x6:Option V) (tt pg pc pb pl:Addr) (us ws:List V) (hs:List Hl) (c:Cd) (h0:Hl) (u0:V) (b:Int) (rZ rY tO Ad:Option V) (G:Hp),WL Y G tt pg pc pb pl us ws hs c h0 u0→D.rt (.bl true) G→t D [x0,x1,some (.ref tt),x3,some (.ref pg),x5,x6,some (.ref pc),some (.ref pb),some (.ref pl),some (.int b),rZ,rY,tO,Ad] G:=by
 obtain ⟨nX,mJ,kE,jv,jw,kD⟩:=dQ
 obtain ⟨nW,mH,lW,ki,kr,lV⟩:=dP
 obtain ⟨iG,gU,gx,fJ,fK,gw⟩:=bK
 obtain ⟨ji,iV,gJ,fT,fX,gI⟩:=cj
 obtain ⟨BB,xP,gh,mP,fZ⟩:=lI
 obtain ⟨iu,gG,dD,cX,cY,dB⟩:=bR
 obtain ⟨cF,bY,bD,aZ,bf,bC⟩:=aD
 obtain ⟨dI,dh,bW,bO,bQ,bV⟩:=aM
 obtain ⟨yZ,vf,fF,nC,fz⟩:=jB
 obtain ⟨yX,u7,fE,nB,fu⟩:=jz
 obtain ⟨yY,ve,gE,qt,gC⟩:=jA
 obtain ⟨BA,xO,mQ,mE,mK⟩:=lH
 obtain ⟨iW,iF,gY,gp,gr,gX⟩:=bS
 obtain ⟨tT,qg,nD,nj,nA⟩:=gQ
 have hu:=bq hr
 refine ⟨_,(aJ (pS (bF (gB (c:=.ty "tuple") trivial) (by rfl) T.isinstance boot_isinstance (aa (aE (pv 4) rfl) (aa (wz (v:=.ty "tuple") rfl T.tuple boot_tuple rfl) ah))) (pR (gi di (bF bZ (by rfl) T.len PySem.boot_len (aa (aE (pv 4) rfl) ah)) (bF bZ (by rfl) T.len PySem.boot_len (aa (pv 2) ah)) (aP _))))),fun D x0 x1 x3 x5 x6 tt pg pc pb pl us ws hs c h0 u0 b rZ rY tO Ad G W k=>?_⟩
 obtain ⟨IU,tp,IQ,iL,lz,pp⟩:=id W.pg
 have lu:=aA pp
 have lw:=aA W.pt
 refine ⟨_,rfl,pg,_,IU,_,_,rfl,IQ,J.cp,J.np,eu,_,_,_,true,rfl,.tup iL,rfl,T.kT,_,rfl,uY ?_⟩
 refine ⟨_,rfl,pg,_,IU,_,_,rfl,IQ,J.cp,J.np,eu,tp,_,rfl,.inr (aV.of iL),_,rfl,tt,_,rfl,.inr (aV.of W.et),rfl,?_⟩
 rw [decide_eq_true (congrArg (fun n:Nat=>V.int (n:Int)) (lu.trans lw.symm))]
 exact k
theorem Rz {f:Addr} {fd:FuncData} {Y:Cy} {fS:Addr} (F:fG K "law" "law" nF f fd) (T:Txt K mg Y.z.s) (U:fB K mg Y.z) (J:gD K mg Y fS) (N:FA K Y) (dQ:Dn P w K mg base 2 "_law_cell_at" ["_law_script","_law_k"] (o7 K)) (dP:Dn P w K mg base 15 "_law_program" ["_law_draw","_law_many"] mW) (bK:Dn P w K mg base 13 "_law_helper_placed" ["_law_helper_here","_law_draw"] vo) (cj:Dn P w K mg base 17 "_law_helper_made" ["_law_told"] (vq Y)) (lI:Mr P w K mg base 1 Y.pg ["self","helpers"] (vp Y)) (bR:Dn P w K mg base 16 "_law_steps_made" ["_law_steps_here"] (nE Y 3)) (aD:Dn P w K mg base 5 "_law_condition" ["_law_draw","_law_things","_law_deep"] (dm 2)) (aM:Dn P w K mg base 8 "_law_condition_made" ["_law_told"] (iM Y.z 3)) (jB:Mr P w K mg base 2 Y.ch ["self","at","condition","then","other"] (qG Y)) (jz:Mr P w K mg base 2 Y.rp ["self","at","condition","keeps","falls","body"] (qE Y)) (jA:Mr P w K mg base 2 Y.cm ["self","at","condition"] (qF Y 5)) (lH:Mt P w K mg base 17 Y.pg "told" ["self"] (mU Y)) (gR:M9 P w K mg base 14 Y "told" ["self"] (eE Y 4)) (bU:M4 P w K mg base 4 Y.z "told" ["self"] (dJ Y.z 3)) (bS:Dn P w K mg base 18 "_law_helper_right" ["_law_helper_here","_law_told"] (kR Y)) (gQ:Mt P w K mg base 1 Y.pg "named" ["self","name"] (mV Y)):bT P w K mg base dX 20 f fd ["_law_script"] (Ga K):=by
 refine F.ok jr (fun vs H Q E h=>?_) (fun cdv A outer s H vs Q E hr h=>?_)
 ·obtain ⟨a,ns,rfl,hS,hz,k⟩:=h
  rfl
 ·obtain ⟨a,ns,rfl,hS,hz,k⟩:=h
  obtain ⟨t13,p13,Vc⟩:=a5p (f:=f) T U J N dQ dP bK cj lI bR aD aM jB jz jA lH gR bU bS gQ (cdv:=cdv) (A:=A) (outer:=outer) (s:=s) (H0:=H) (E:=E) hr
  obtain ⟨X4,p14,Qd⟩:=a5o (f:=f) T U J N dQ dP bK cj lI bR aD aM jB jz jA lH gR bU bS gQ (cdv:=cdv) (A:=A) (outer:=outer) (s:=s) (H0:=H) (E:=E) hr
  obtain ⟨t15,p15,Vb⟩:=a5n (f:=f) T U J N dQ dP bK cj lI bR aD aM jB jz jA lH gR bU bS gQ (cdv:=cdv) (A:=A) (outer:=outer) (s:=s) (H0:=H) (E:=E) hr
  obtain ⟨t16,p16,Va⟩:=a5m (f:=f) T U J N dQ dP bK cj lI bR aD aM jB jz jA lH gR bU bS gQ (cdv:=cdv) (A:=A) (outer:=outer) (s:=s) (H0:=H) (E:=E) hr
  obtain ⟨t17,p17,U9⟩:=a5l (f:=f) T U J N dQ dP bK cj lI bR aD aM jB jz jA lH gR bU bS gQ (cdv:=cdv) (A:=A) (outer:=outer) (s:=s) (H0:=H) (E:=E) hr
  obtain ⟨nX,mJ,kE,jv,jw,kD⟩:=dQ
  obtain ⟨nW,mH,lW,ki,kr,lV⟩:=dP
  obtain ⟨iG,gU,gx,fJ,fK,gw⟩:=bK
  obtain ⟨ji,iV,gJ,fT,fX,gI⟩:=cj
  obtain ⟨BB,xP,gh,mP,fZ⟩:=lI
  obtain ⟨iu,gG,dD,cX,cY,dB⟩:=bR
  obtain ⟨cF,bY,bD,aZ,bf,bC⟩:=aD
  obtain ⟨dI,dh,bW,bO,bQ,bV⟩:=aM
  obtain ⟨yZ,vf,fF,nC,fz⟩:=jB
  obtain ⟨yX,u7,fE,nB,fu⟩:=jz
  obtain ⟨yY,ve,gE,qt,gC⟩:=jA
  obtain ⟨BA,xO,mQ,mE,mK⟩:=lH
  obtain ⟨iW,iF,gY,gp,gr,gX⟩:=bS
  obtain ⟨tT,qg,nD,nj,nA⟩:=gQ
  have hu:=bq hr
  rw [show au nF=[_,_,_,_,_,_,_,_,_,_,_,_,_,sW 13,sW 14,sW 15,sW 16,sW 17] from rfl]
  refine ⟨_,(ai (aR (i:=1) jr.nd rfl (Or.inr rfl) (cZ (aa (aq kE (hr.mono (by first | decide | omega)) rfl jv jw kD .nil az (aa (pv 0) (aa aj ah))) (aa aj ah))))
   (ai (aR (i:=2) jr.nd rfl (Or.inl rfl) (aS aI (by rfl) T.tuple boot_tuple (aa (cS (bu ["_law_one"] ["_law_draw"] [1] rfl (by decide +kernel) (by decide +kernel) (by with_unfolding_all rfl) (by exact ⟨rfl,trivial⟩) (by rfl) rfl (by rfl)) rfl (jj (aq lW (hr.mono (by first | decide | omega)) rfl ki kr lV .nil az (aa (pv 1) (aa aj ah)))) (fun _ _ _ _=>(aN (i:=0) (show List.Nodup (["_law_one","_law_draw"]:List Str) by decide +kernel) rfl (Or.inl rfl) (Or.inr rfl))) (fun _ _ _ _=>cI) (fun _ _ _ _=>(aq gx (hr.mono (by first | decide | omega)) rfl fJ fK gw .nil az (aa (pv 0) (aa (pv 1) ah))))) ah)))
   (ai (nc (i:=3) jr.nd rfl (Or.inl rfl) (bu ["_law_one"] [] [] rfl (by decide +kernel) (by decide +kernel) (by with_unfolding_all rfl) (by exact trivial) (by rfl) rfl (by rfl)) rfl (gF (pv 2)) (fun _ _ _ _=>(aN (i:=0) (show List.Nodup (["_law_one"]:List Str) by decide +kernel) rfl (Or.inl rfl) (Or.inr rfl))) (fun _ _ _ _=>cI) (fun _ _ _ _=>(aq gJ (hr.mono (by first | decide | omega)) rfl fT fX gI .nil az (aa (pv 0) ah))))
   (ai (aR (i:=4) jr.nd rfl (Or.inl rfl) (dM mP gh (hr.mono (by first | decide | omega)) rfl J.mgP fZ .nil az (aa (pv 3) ah)))
   (ai (aR (i:=5) jr.nd rfl (Or.inl rfl) (aH cU (pv 3) aj (fun _ _=>rfl)))
   (ai (gO (Rh PySem.F.plainAttrs_list PySem.F.slot_list_reverse PySem.F.type_list_reverse E7 (pv 3)))
   (ai (gO (q9 PySem.F.plainAttrs_list PySem.F.slot_list_append PySem.F.type_list_append lU (pv 3) (aa (pv 5) ah)))
   (ai (aR (i:=6) jr.nd rfl (Or.inl rfl) (aq dD (hr.mono (by first | decide | omega)) rfl cX cY dB .nil az (aa (aH aG (aH aG (pv 2) aj (fun _ _=>rfl)) aj (fun _ _=>rfl)) ah)))
   (ai (aR (i:=7) jr.nd rfl (Or.inl rfl) (aq bW (hr.mono (by first | decide | omega)) rfl bO bQ bV .nil az (aa (aq bD (hr.mono (by first | decide | omega)) rfl aZ bf bC .nil az (aa (pv 1) (aa (cZ (aa aY (aa aY ah))) (aa aj ah)))) ah)))
   (ai (aR (i:=8) jr.nd rfl (Or.inl rfl) (dM nC fF (hr.mono (by first | decide | omega)) rfl J.mg7 fz .nil az (aa aj (aa (pv 7) (aa (pv 6) (aa (pv 6) ah))))))
   (ai (aR (i:=9) jr.nd rfl (Or.inl rfl) (dM nB fE (hr.mono (by first | decide | omega)) rfl J.mg8 fu .nil az (aa aj (aa (pv 7) (aa (cZ (aa (aQ (aa aj (aa (pv 7) ah))) ah)) (aa j9 (aa (pv 6) ah)))))))
   (ai (gO (q9 PySem.F.plainAttrs_list PySem.F.slot_list_append PySem.F.type_list_append lU (pv 6) (aa (dM qt gE (hr.mono (by first | decide | omega)) rfl J.mg5 gC .nil az (aa aj (aa (pv 7) ah))) ah)))
   (ai (aR (i:=10) jr.nd rfl (Or.inl rfl) (bX lC (aq kE (hr.mono (by first | decide | omega)) rfl jv jw kD .nil az (aa (pv 0) (aa aj ah))) aj))
   (ai p13 (ai p14 (ai p15 (ai p16 (ay p17)))))))))))))))))),?_⟩
  refine ⟨_,rfl,a,ns,0,rfl,hS,fun r0=>⟨(szl 2),fun d hd=>?_⟩⟩
  have S0:aF H (upd H d (.lst [.int r0,.int 0])):=new hd
  have D0:Dr (upd H d (.lst [.int r0,.int 0])) d:=⟨_,_,af⟩
  generalize upd H d (.lst [.int r0,.int 0])=H0 at S0 D0 ⊢
  refine ⟨_,rfl,d,2,rfl,D0,(by decide),fun lp iI hs0 H1 b1 D1 f1 A1 n1 nd1=>?_⟩
  have S1:aF H H1:=bE.back S0 b1 hd
  refine ⟨lp,rfl,⟨_,ck.of A1.1⟩,gu (xs:=iI) (fun i ys H'=>bE d H1 H'∧Dr H' d∧∃ hs:List Hl,Paired (fun u h=>su H' h u) ys hs∧(∀ h∈hs,h.ok)∧hs.map (·.nm)=(hs0.take i).map (·.nm)) ⟨fun _ _ z _=>z,D1,[],.nil,(fun _ h=>nomatch h),rfl⟩ (fun i ys H' _ q=>ck.of (A1.next D1 q.1).1) ?_ ?_⟩
  ·rintro i x ys H' hix ⟨F,D,hs,py,oks,nms⟩
   obtain ⟨h,iH,hR⟩:=bH A1.2.1 hix
   have hm:=List.mem_of_getElem? iH
   have Af:=(List.getElem?_eq_some_iff.mp iH).1
   have NR:=A1.2.2.2
   have qI:ys.length≤i:=by
    have z:=congrArg List.length nms
    rw [List.length_map,List.length_map,List.length_take] at z
    rw [aA py]
    omega
   refine ⟨Ext.one,jd ⟨_,rfl,_,rfl,x,d,h,rfl,IW.ao (D1.soft F) hR,(A1.2.2.1 h hm).ok,D,fun v' h' H2 b2 D2 hT' ok2 nm2=>⟨line _ (by omega),F.trans b2,D2,hs++[h'],?_,?_,?_⟩⟩⟩
   ·exact bB (L2.Paired.dg py fun _ _ z=>z.ao (D.soft b2)) hT'
   ·intro g hg
    rcases List.mem_append.mp hg with z | z
    ·exact oks g z
    ·rw [List.mem_singleton.mp z];exact ok2
   ·rw [List.map_append,nms,take_snoc iH,List.map_append]
    show _++[h'.nm]=_++[h.nm]
    rw [nm2]
  rintro ws H2 ⟨F,D2,hs,py,okh,UW⟩ lq IL
  rw [aA A1.2.1,List.take_length] at UW
  have lhs:hs.length=hs0.length:=by
   have z:=congrArg List.length UW
   rw [List.length_map,List.length_map] at z
   exact z
  have ndh:(hs.map (·.nm)).Nodup:=by rw [UW];exact nd1
  have nmo:∀ h∈hs,sr h.nm:=fun h hm=>by
   have m:h.nm∈hs0.map (·.nm):=UW ▸ List.mem_map.mpr ⟨h,hm,rfl⟩
   obtain ⟨g,hg,e⟩:=List.mem_map.mp m
   rw [← e]
   exact (A1.2.2.1 g hg).nm.nm
  have NR:hs.length≤10:=by have:=A1.2.2.2;omega
  have l1:1≤hs.length:=by omega
  have S2:aF H H2:=bE.back S1 F hd
  clear UW n1 nd1 A1 F b1 D1 D0 S0 S1 f1
  refine ⟨lq,_,rfl,.inl ⟨ck.of af,fun tt htt=>?_⟩⟩
  have s3:aF H2 (upd (upd H2 lq (.lst ws)) tt (.tup ws)):=aF.new (new IL) htt
  have et:upd (upd H2 lq (.lst ws)) tt (.tup ws) tt=some (.tup ws):=af
  have pt:=L2.Paired.dg py fun _ _ z=>su.ao (av.of s3) z
  have S:=S2.trans s3
  have D:=D2.same s3
  clear s3 S2 D2 py
  generalize upd (upd H2 lq (.lst ws)) tt (.tup ws)=G0 at et pt S D ⊢
  have TQ:=aA pt
  refine ⟨_,rfl,tt,rfl,⟨ws,aV.of et⟩,dj (xs:=ws) (fun i zs H'=>aF G0 H'∧Paired (fun u h=>vm Y H' h u) zs (hs.take i)) ⟨aF.refl _,.nil⟩ (fun i zs H' _ q=>aV.of (q.1 _ _ et)) ?_ ?_⟩
  ·rintro i x zs H' hix ⟨sm,py⟩
   obtain ⟨h,iH,hT⟩:=bH pt hix
   have hm:=List.mem_of_getElem? iH
   have Af:=(List.getElem?_eq_some_iff.mp iH).1
   have qI:zs.length≤i:=by
    rw [aA py,List.length_take]
    omega
   refine ⟨Ext.one,jd ⟨_,rfl,x,h,rfl,hT.ao (av.of sm),okh h hm,fun v' H3 s3 hA=>⟨line _ (by omega),sm.trans s3,?_⟩⟩⟩
   rw [take_snoc iH]
   exact bB (L2.Paired.dg py fun _ _ z=>z.ao (av.of s3)) hA
  rintro us H3 ⟨sm,pu⟩ lh Y0
  rw [TQ,List.take_length] at pu
  have n3:=new (o:=.lst us) Y0
  have GN:upd H3 lh (.lst us) lh=some (.lst us):=af
  have Vn:H lh=none:=yS (S.trans sm) Y0
  have nlh:lh≠d:=(D.same sm).ne Y0
  have pu:=L2.Paired.dg pu fun _ _ z=>vm.ao (av.of n3) z
  have pt:=L2.Paired.dg pt fun _ _ z=>su.ao (av.of (sm.trans n3)) z
  have et:=(sm.trans n3) _ _ et
  have S:=S.trans (sm.trans n3)
  have D:=D.same (sm.trans n3)
  clear n3 sm Y0
  generalize upd H3 lh (.lst us)=G1 at GN pu pt et S D ⊢
  have rV:=aA pu
  refine ⟨_,rfl,?_⟩
  refine fun pg dz hpg oX ne=>?_
  have g9:=cT (o:=.own pg) (o':=.ins Y.pg dz []) hpg oX
  refine ⟨pg,dz,lh,_,rfl,af,g9 _ _ GN,fun tp H9 but e9 F9=>⟨rfl,?_⟩⟩
  have s9:aF G1 H9:=fun b' o q=>but b' o (g9 _ _ q) (aB q hpg)
  have PG:v8 Y H9 pg us hs:=⟨dz,tp,e9,F9,by omega,L2.Paired.dg pu fun _ _ z=>vm.ao (av.of s9) z⟩
  have GN:=s9 _ _ GN
  have pt:=L2.Paired.dg pt fun _ _ z=>su.ao (av.of s9) z
  have et:=s9 _ _ et
  have S:=S.trans s9
  have D:=D.same s9
  clear s9 but e9 F9 g9 hpg oX ne pu
  obtain ⟨u0,us',rfl⟩:∃ u r,us=u::r:=by
   cases us with
   | nil=>simp at rV;omega
   | cons u r=>exact ⟨u,r,rfl⟩
  refine ⟨_,rfl,lh,_,0,_,rfl,rfl,ck.of GN,bN (j:=0) rfl,?_⟩
  refine ⟨_,rfl,.inl ⟨rfl,_,ck.of GN⟩,lh,_,rfl,rfl,GN,?_⟩
  have k5:=u5 (ys:=(u0::us').reverse) GN
  have PG:=PG.ao k5
  have pt:=L2.Paired.dg pt fun _ _ z=>su.ao k5 z
  have et:=k5.t _ _ et
  have S:=uE (o:=.lst (u0::us').reverse) S Vn
  have D:Dr (upd H9 lh (.lst (u0::us').reverse)) d:=by obtain ⟨x8,y8,q8⟩:=D;exact ⟨x8,y8,by rw [aX nlh.symm];exact q8⟩
  have GN:upd H9 lh (.lst (u0::us').reverse) lh=some (.lst (u0::us').reverse):=af
  clear k5
  generalize upd H9 lh (.lst (u0::us').reverse)=G2 at GN PG pt et S D ⊢
  refine ⟨_,rfl,.inl ⟨rfl,_,ck.of GN⟩,_,rfl,lh,_,_,rfl,rfl,GN,(by rw [List.length_reverse];exact line _ (by omega)),?_⟩
  have k6:=u5 (ys:=(u0::us').reverse++[u0]) GN
  have PG:=PG.ao k6
  have pt:=L2.Paired.dg pt fun _ _ z=>su.ao k6 z
  have et:=k6.t _ _ et
  have S:=uE (o:=.lst ((u0::us').reverse++[u0])) S Vn
  have D:Dr (upd G2 lh (.lst ((u0::us').reverse++[u0]))) d:=by obtain ⟨x8,y8,q8⟩:=D;exact ⟨x8,y8,by rw [aX nlh.symm];exact q8⟩
  clear k6 GN
  generalize upd G2 lh (.lst ((u0::us').reverse++[u0]))=G3 at PG pt et S D ⊢
  obtain ⟨h0,hs',rfl⟩:∃ h r,hs=h::r:=by
   cases hs with
   | nil=>simp at l1
   | cons h r=>exact ⟨h,r,rfl⟩
  obtain ⟨w0,PK,rfl⟩:∃ u r,ws=u::r:=by
   cases ws with
   | nil=>simp at TQ
   | cons u r=>exact ⟨u,r,rfl⟩
  obtain ⟨r0,t1,t2,v1,v2,t3,xs,rfl,qi,_,_,_,_,e3,h3⟩:=(by cases pt with | cons a r=>exact a:su G3 h0 w0)
  have o0:=okh h0 (List.mem_cons_self ..)
  refine ⟨_,rfl,tt,_,0,_,rfl,rfl,aV.of et,bN (j:=0) rfl,r0,_,7,_,rfl,rfl,aV.of qi,rfl,t3,xs,h0.st,rfl,e3,h3,o0.st,o0.dp,o0.sl,fun ls ss G4 s4 f4 els P4=>?_⟩
  have a8i:H ls=none:=yS S f4
  have nls:ls≠d:=D.ne f4
  have S:=S.trans s4
  have D:=D.same s4
  have PG:=PG.ao (av.of s4)
  have pt:=L2.Paired.dg pt fun _ _ z=>su.ao (av.of s4) z
  have et:=s4 _ _ et
  clear qi e3 h3 s4 f4
  refine ⟨_,rfl,(szl 2),fun lx hlx=>?_⟩
  have n5:=new (o:=.lst [.str "x",.str "y"]) hlx
  refine ⟨d,lx,1,[("x":Str),"y"],rfl,(by decide),D.same n5,af,(by decide),(by decide +kernel),fun vt c G5 b5 D5 ht Mx hg=>?_⟩
  have S5:aF H G5:=bE.back (S.trans n5) b5 hd
  have k5:av G4 G5:=(av.of n5).trans ((D.same n5).soft b5)
  have els:=b5 _ _ (n5 _ _ els) nls
  have P4:=P4.ao k5
  have PG:=PG.ao k5
  have pt:=L2.Paired.dg pt fun _ _ z=>su.ao k5 z
  have et:=k5.t _ _ et
  clear n5 b5 k5 S D hlx
  have hd2:c.dep≤2:=Mx
  refine ⟨vt,c,_,rfl,ht,by omega,hg,fun vc G6 s6 hc=>?_⟩
  have cg:FJ c:=⟨⟨_,hg⟩,by omega⟩
  obtain ⟨pc,rfl⟩:=gA hc
  have S:=S5.trans s6
  have els:=s6 _ _ els
  have P4:=P4.ao (av.of s6)
  have PG:=PG.ao (av.of s6)
  have pt:=L2.Paired.dg pt fun _ _ z=>su.ao (av.of s6) z
  have et:=s6 _ _ et
  clear s6 S5 D5 ht
  have lss:=aA (eg.mp P4)
  have lst:=o0.sl
  refine ⟨_,rfl,_,rfl,_,rfl,?_⟩
  refine fun pb dz ON oX ne=>?_
  have g7:=cT (o:=.own pb) (o':=.ins Y.ch dz []) ON oX
  refine ⟨pb,dz,ls,ls,7,.ref pc,ss,ss,rfl,af,g7 _ _ els,g7 _ _ els,fun t1' vP G7 but e7 F1 F2=>⟨rfl,?_⟩⟩
  have s7:aF G6 G7:=fun b' o q=>but b' o (g7 _ _ q) (aB q ON)
  have SB:cD Y G7 (.ny 7 c h0.st h0.st) (.ref pb):=by
   unfold cD
   exact ⟨pb,dz,.ref pc,t1',vP,ss,ss,rfl,e7,hc.ao (av.of s7),F1,by omega,P4.ao (av.of s7),F2,by omega,P4.ao (av.of s7)⟩
  have S:=S.trans s7
  have els:=s7 _ _ els
  have P4:=P4.ao (av.of s7)
  have PG:=PG.ao (av.of s7)
  have pt:=L2.Paired.dg pt fun _ _ z=>su.ao (av.of s7) z
  have et:=s7 _ _ et
  have hc:=hc.ao (av.of s7)
  clear s7 but e7 F1 F2 g7 ON oX ne
  refine ⟨_,rfl,_,rfl,(szl 2),fun q1 hq1=>⟨(szl 1),fun lq IL=>⟨_,rfl,?_⟩⟩⟩
  have n8:=(new (o:=.tup [.int 9,.ref pc]) hq1).trans (new (o:=.lst [.ref q1]) IL)
  have eq1:upd (upd G7 q1 (.tup [.int 9,.ref pc])) lq (.lst [.ref q1]) q1=some (.tup [.int 9,.ref pc]):=new IL _ _ af
  have SH:upd (upd G7 q1 (.tup [.int 9,.ref pc])) lq (.lst [.ref q1]) lq=some (.lst [.ref q1]):=af
  generalize upd (upd G7 q1 (.tup [.int 9,.ref pc])) lq (.lst [.ref q1])=G8 at n8 eq1 SH ⊢
  refine fun pl dz hpl oX ne=>?_
  have g8:=cT (o:=.own pl) (o':=.ins Y.rp dz []) hpl oX
  refine ⟨pl,dz,lq,ls,8,.ref pc,.eT,[.ref q1],ss,rfl,af,g8 _ _ SH,(by show 1≤1000;decide),(fun u hu=>?_),g8 _ _ (n8 _ _ els),fun t1' vP G9 but e9 F1 F2=>⟨rfl,?_⟩⟩
  ·rw [List.mem_singleton.mp hu]
   exact ⟨q1,_,rfl,g8 _ _ eq1⟩
  have s8:aF G8 G9:=fun b' o q=>but b' o (g8 _ _ q) (aB q hpl)
  have s7:=n8.trans s8
  have SL:cD Y G9 (.rep 8 c [(9,c)] none h0.st) (.ref pl):=by
   unfold cD
   exact ⟨pl,dz,.ref pc,.ref t1',.eT,vP,ss,rfl,e9,hc.ao (av.of s7),⟨t1',[.ref q1],rfl,F1,(by show 1≤1000;decide),.cons ⟨q1,.ref pc,rfl,s8 _ _ eq1,hc.ao (av.of s7)⟩ .nil⟩,rfl,F2,by omega,P4.ao (av.of s7)⟩
  have S:=S.trans s7
  have els:=s7 _ _ els
  have PG:=PG.ao (av.of s7)
  have pt:=L2.Paired.dg pt fun _ _ z=>su.ao (av.of s7) z
  have et:=s7 _ _ et
  have hc:=hc.ao (av.of s7)
  have SB:=cD.ao (av.of s7) SB
  clear s7 s8 but e9 F1 F2 g8 hpl oX ne n8 eq1 SH P4
  refine ⟨_,rfl,.inl ⟨rfl,_,ck.of els⟩,_,rfl,?_⟩
  refine fun pz dz hpz oX ne=>?_
  have g9:=cT (o:=.own pz) (o':=.ins Y.cm dz []) hpz oX
  refine ⟨pz,dz,1,.ref pc,rfl,af,fun GA but eA=>⟨rfl,?_⟩⟩
  have sA:aF G9 GA:=fun b' o q=>but b' o (g9 _ _ q) (aB q hpz)
  have els:=sA _ _ els
  refine ⟨ls,_,_,rfl,rfl,els,(line _ (by omega)),?_⟩
  have kB:av G9 (upd GA ls (.lst (ss++[.ref pz]))):=(av.of sA).trans (u5 els)
  have S:=uE (o:=.lst (ss++[.ref pz])) (S.trans sA) a8i
  have PG:=PG.ao kB
  have pt:=L2.Paired.dg pt fun _ _ z=>su.ao kB z
  have et:=kB.t _ _ et
  have hc:=hc.ao kB
  have SB:=cD.ao kB SB
  have SL:=cD.ao kB SL
  clear kB sA but eA g9 hpz oX ne els
  generalize upd GA ls (.lst (ss++[.ref pz]))=GB at S PG pt et hc SB SL ⊢
  refine ⟨_,rfl,a,ns,1,rfl,S.seq hS,fun rb=>⟨_,_,rfl,rfl,(show (0:Int) < 3 by decide),?_⟩⟩
  have W:WL Y GB tt pg pc pb pl (u0::us') (.ref r0::PK) (h0::hs') c h0 u0:=⟨et,pt,PG,okh,ndh,nmo,NR,rfl,rfl,cg,hc,SB,SL⟩
  refine Vc _ _ _ _ _ _ tt pg pc pb pl _ _ _ c h0 u0 _ _ _ _ _ GB W fun GC rZ rY sC=>?_
  have W:=W.same sC
  refine Qd _ _ _ _ _ _ tt pg pc pb pl _ _ _ c h0 u0 _ _ _ _ _ GC W fun GD tO sD=>?_
  have W:=W.same sD
  refine Vb _ _ _ _ none _ tt pg pc pb pl _ _ _ c h0 u0 _ _ _ _ _ GD W fun GE z vh sE hz=>?_
  have W:=W.same sE
  refine Va _ _ _ _ none _ tt pg pc pb pl _ _ _ c h0 u0 _ _ _ _ z vh GE W hz fun GF sF=>?_
  have W:=W.same sF
  exact U9 _ _ _ _ _ _ tt pg pc pb pl _ _ _ c h0 u0 _ _ _ _ _ GF W (k GF)
theorem Q8 (Z:Cz):∀ vs H Q E,¬ iM Z 0 vs H Q E:=fun _ _ _ _ ⟨_,c,_,_,_,d,_⟩=>by have:=GO c;omega
theorem Iv {Z:Cz} {f0 f1 f2 f3:Addr} {vL Ak SE fd3:FuncData} (T:Txt K mg Z.s) (U:fB K mg Z) (F0:fG K "told" "Compare.told" pP f0 vL) (h0:Meth K (qK Z 0) "told" f0) (b0:Binds K vL ["self"] []) (F1:fG K "told" "Turned.told" pA f1 Ak) (h1:Meth K (qK Z 1) "told" f1) (b1:Binds K Ak ["self"] []) (F2:fG K "told" "Every.told" pN f2 SE) (h2:Meth K (qK Z 2) "told" f2) (b2:Binds K SE ["self"] []) (F3:fG K "told" "Some.told" pC f3 fd3) (h3:Meth K (qK Z 3) "told" f3) (b3:Binds K fd3 ["self"] []) (fh:Mt P w K mg base 1 Z.s "told" ["self"] (ly Z.s)):∀ n,M4 P w K mg base (n+1) Z "told" ["self"] (dJ Z n):=by
 refine LM (lv:=fun n=>n+1) (sp:=fun n=>dJ Z n) (fun j=>match j with | 0=>f0 | 1=>f1 | 2=>f2 | _=>f3) (fun j=>match j with | 0=>vL | 1=>Ak | 2=>SE | _=>fd3) (fun j hj=>?_) (fun j hj=>?_) (Um Z) (fun n R j hj=>?_)
 ·match j,hj with
  | 0,_=>exact h0
  | 1,_=>exact h1
  | 2,_=>exact h2
  | 3,_=>exact h3
 ·match j,hj with
  | 0,_=>exact b0
  | 1,_=>exact b1
  | 2,_=>exact b2
  | 3,_=>exact b3
 ·match j,hj with
  | 0,_=>exact Ll (n:=n) F0 T U fh
  | 1,_=>exact KQ (n:=n) F1 T U R
  | 2,_=>exact Lg (n:=n) F2 T U R
  | 3,_=>exact K1 (n:=n) F3 T U R
theorem Ip {Y:Cy} {fS:Addr} (T:Txt K mg Y.z.s) (U:fB K mg Y.z) (J:gD K mg Y fS) {g0 g1 g2 g3 g4 g5 g6 g7 g8:Addr} {gd0 gd1 gd2 gd3 gd4 gd5 gd6 gd7 gd8:FuncData} (G0:fG K "told" "Let.told" pH g0 gd0) (h0:Meth K (gH Y 0) "told" g0) (b0:Binds K gd0 ["self"] []) (G1:fG K "told" "Divide.told" pO g1 gd1) (h1:Meth K (gH Y 1) "told" g1) (b1:Binds K gd1 ["self"] []) (G2:fG K "told" "Fetch.told" pM g2 gd2) (h2:Meth K (gH Y 2) "told" g2) (b2:Binds K gd2 ["self"] []) (G3:fG K "told" "Put.told" pB g3 gd3) (h3:Meth K (gH Y 3) "told" g3) (b3:Binds K gd3 ["self"] []) (G4:fG K "told" "Make.told" pG g4 gd4) (h4:Meth K (gH Y 4) "told" g4) (b4:Binds K gd4 ["self"] []) (G5:fG K "told" "Claim.told" m6 g5 gd5) (h5:Meth K (gH Y 5) "told" g5) (b5:Binds K gd5 ["self"] []) (G6:fG K "told" "Call.told" m7 g6 gd6) (h6:Meth K (gH Y 6) "told" g6) (b6:Binds K gd6 ["self"] []) (G7:fG K "told" "Choose.told" m8 g7 gd7) (h7:Meth K (gH Y 7) "told" g7) (b7:Binds K gd7 ["self"] []) (G8:fG K "told" "Repeat.told" mZ g8 gd8) (h8:Meth K (gH Y 8) "told" g8) (b8:Binds K gd8 ["self"] []) {f0:Addr} {vL:FuncData} (F0:fG K "told_each" "told_each" vW f0 vL) (hm0:mg "told_each"=some (.ref f0)) (hk0:PySem.W.keepIn K (.ref f0)=true) (hb0:Binds K vL ["parts"] []) (fh:Mt P w K mg base 1 Y.z.s "told" ["self"] (ly Y.z.s)) (bU:M4 P w K mg base 4 Y.z "told" ["self"] (dJ Y.z 3)) (M5:Dn P w K mg base 2 "told_each" ["parts"] (FY Y.z)) (BG:Dn P w K mg base 5 "told_pairs" ["pairs"] (AY Y.z)):∀ n,M9 P w K mg base (2*n+6) Y "told" ["self"] (eE Y n):=by
 refine LL (lv:=fun n=>2*n+6) (sp:=fun n=>eE Y n) (fun j=>match j with | 0=>g0 | 1=>g1 | 2=>g2 | 3=>g3 | 4=>g4 | 5=>g5 | 6=>g6 | 7=>g7 | _=>g8) (fun j=>match j with | 0=>gd0 | 1=>gd1 | 2=>gd2 | 3=>gd3 | 4=>gd4 | 5=>gd5 | 6=>gd6 | 7=>gd7 | _=>gd8) (fun j hj=>?_) (fun j hj=>?_) (QX Y) (fun n R j hj=>?_)
 ·match j,hj with
  | 0,_=>exact h0
  | 1,_=>exact h1
  | 2,_=>exact h2
  | 3,_=>exact h3
  | 4,_=>exact h4
  | 5,_=>exact h5
  | 6,_=>exact h6
  | 7,_=>exact h7
  | 8,_=>exact h8
 ·match j,hj with
  | 0,_=>exact b0
  | 1,_=>exact b1
  | 2,_=>exact b2
  | 3,_=>exact b3
  | 4,_=>exact b4
  | 5,_=>exact b5
  | 6,_=>exact b6
  | 7,_=>exact b7
  | 8,_=>exact b8
 ·match j,hj with
  | 0,_=>exact K9 (n:=n) G0 T U J fh
  | 1,_=>exact Li (n:=n) G1 T U J fh
  | 2,_=>exact Le (n:=n) G2 T U J fh
  | 3,_=>exact KY (n:=n) G3 T U J fh
  | 4,_=>exact K7 (n:=n) G4 T U J fh
  | 5,_=>exact Hz (n:=n) G5 T U J bU
  | 6,_=>exact HA (n:=n) G6 T U J M5
  | 7,_=>exact HB (n:=n) G7 T U J bU (⟨f0,vL,EX (n:=n) F0 T U J R,hm0,hk0,hb0⟩)
  | 8,_=>exact Hu (n:=n) G8 T U J bU fh BG (⟨f0,vL,EX (n:=n) F0 T U J R,hm0,hk0,hb0⟩)
theorem Ir {Y:Cy} {fS:Addr} (T:Txt K mg Y.z.s) (U:fB K mg Y.z) (J:gD K mg Y fS) {f0:Addr} {vL:FuncData} (F0:fG K "_law_condition" "_law_condition" pJ f0 vL) (hm0:mg "_law_condition"=some (.ref f0)) (hk0:PySem.W.keepIn K (.ref f0)=true) (hb0:Binds K vL ["_law_draw","_law_things","_law_deep"] [])  (bI:Dn P w K mg base 2 "_law_next" ["_law_draw","_law_size"] eS) (cH:Dn P w K mg base 3 "_law_sum" ["_law_draw","_law_things"] iJ):∀ n,Dn P w K mg base (n+3) "_law_condition" ["_law_draw","_law_things","_law_deep"] (dm n) :=
 se (lv:=fun n=>n+3) (sp:=fun n=>dm n) hm0 hk0 hb0 (Q9) fun n R=>zK (n:=n) F0 T U J bI cH R
theorem Iq {Y:Cy} {fS:Addr} (T:Txt K mg Y.z.s) (U:fB K mg Y.z) (J:gD K mg Y fS) {f0:Addr} {vL:FuncData} (F0:fG K "_law_condition_made" "_law_condition_made" m5 f0 vL) (hm0:mg "_law_condition_made"=some (.ref f0)) (hk0:PySem.W.keepIn K (.ref f0)=true) (hb0:Binds K vL ["_law_told"] [])  (jx:Dn P w K mg base 4 "_law_sum_made" ["_law_one"] (qv Y.z)) (Ax:Mr P w K mg base 1 Y.z.c ["self","one","sign","other"] (wm Y.z)) (Aq:Mr P w K mg base 1 Y.z.t ["self","condition"] (wg Y.z)) (Aw:Mr P w K mg base 1 Y.z.e ["self","conditions"] (mT Y.z.e)) (As:Mr P w K mg base 1 Y.z.o ["self","conditions"] (mT Y.z.o)):∀ n,Dn P w K mg base (n+5) "_law_condition_made" ["_law_told"] (iM Y.z n) :=
 se (lv:=fun n=>n+5) (sp:=fun n=>iM Y.z n) hm0 hk0 hb0 (Q8 Y.z) fun n R=>KW (n:=n) F0 T U J jx Ax Aq Aw As R
theorem Fw {Y:Cy} {fS:Addr} (T:Txt K mg Y.z.s) (U:fB K mg Y.z) (J:gD K mg Y fS) {f0:Addr} {vL:FuncData} (F0:fG K "_law_placed" "_law_placed" A8 f0 vL) (hm0:mg "_law_placed"=some (.ref f0)) (hk0:PySem.W.keepIn K (.ref f0)=true) (hb0:Binds K vL ["_law_step_here","_law_draw"] []) {f1:Addr} {Ak:FuncData} (F1:fG K "_law_all_placed" "_law_all_placed" vD f1 Ak) (hm1:mg "_law_all_placed"=some (.ref f1)) (hk1:PySem.W.keepIn K (.ref f1)=true) (hb1:Binds K Ak ["_law_steps_here","_law_draw"] []) (bI:Dn P w K mg base 2 "_law_next" ["_law_draw","_law_size"] eS) (iX:Dn P w K mg base 3 "_law_pairs_placed" ["_law_conditions","_law_draw"] A2):∀ n,Dn P w K mg base (2*n+5) "_law_placed" ["_law_step_here","_law_draw"] (Jx n) :=
 se (lv:=fun n=>2*n+5) (sp:=fun n=>Jx n) hm0 hk0 hb0 (pl0) fun n R=>UO (n:=n) F0 T U J bI iX (⟨f1,Ak,KZ (n:=n) F1 T U J R,hm1,hk1,hb1⟩)
theorem yx {Y:Cy} {fS:Addr} (T:Txt K mg Y.z.s) (U:fB K mg Y.z) (J:gD K mg Y fS) {f0:Addr} {vL:FuncData} (F0:fG K "_law_step_made" "_law_step_made" vC f0 vL) (hm0:mg "_law_step_made"=some (.ref f0)) (hk0:PySem.W.keepIn K (.ref f0)=true) (hb0:Binds K vL ["_law_told"] []) {f1:Addr} {Ak:FuncData} (F1:fG K "_law_steps_made" "_law_steps_made" pI f1 Ak) (hm1:mg "_law_steps_made"=some (.ref f1)) (hk1:PySem.W.keepIn K (.ref f1)=true) (hb1:Binds K Ak ["_law_steps_here"] []) (jx:Dn P w K mg base 4 "_law_sum_made" ["_law_one"] (qv Y.z)) (aM:Dn P w K mg base 8 "_law_condition_made" ["_law_told"] (iM Y.z 3)) (jP:Dn P w K mg base 9 "_law_pairs_made" ["_law_pairs"] (sM Y.z)) (Na:Mr P w K mg base 2 Y.lt ["self","at","name","total"] (vz Y 0)) (Nf:Mr P w K mg base 2 Y.dv ["self","at","name","word","total","by"] (Gb Y 1)) (Nc:Mr P w K mg base 2 Y.ft ["self","at","name","row","place"] (vv Y 2)) (M6:Mr P w K mg base 2 Y.pt ["self","at","row","place","total"] (vv Y 3)) (M8:Mr P w K mg base 2 Y.mq ["self","at","row","size"] (vz Y 4)) (jA:Mr P w K mg base 2 Y.cm ["self","at","condition"] (qF Y 5)) (Ng:Mr P w K mg base 2 Y.cl ["self","at","names","helper","given"] (Ge Y)) (jB:Mr P w K mg base 2 Y.ch ["self","at","condition","then","other"] (qG Y)) (jz:Mr P w K mg base 2 Y.rp ["self","at","condition","keeps","falls","body"] (qE Y)):∀ n,Dn P w K mg base (2*n+9) "_law_step_made" ["_law_told"] (A0 Y n) :=
 se (lv:=fun n=>2*n+9) (sp:=fun n=>A0 Y n) hm0 hk0 hb0 (a0n Y) fun n R=>Ro (n:=n) F0 T U J jx aM jP (⟨f1,Ak,Gq (n:=n) F1 T U J R,hm1,hk1,hb1⟩) Na Nf Nc M6 M8 jA Ng jB jz
theorem Iu {Y:Cy} {fS:Addr} (T:Txt K mg Y.z.s) (U:fB K mg Y.z) (J:gD K mg Y fS) {f0:Addr} {vL:FuncData} (F0:fG K "_law_step" "_law_step" cN f0 vL) (hm0:mg "_law_step"=some (.ref f0)) (hk0:PySem.W.keepIn K (.ref f0)=true) (hb0:Binds K vL ["_law_draw","_law_own","_law_deep","_law_helpers"] []) {f1:Addr} {Ak:FuncData} (F1:fG K "_law_steps" "_law_steps" kU f1 Ak) (hm1:mg "_law_steps"=some (.ref f1)) (hk1:PySem.W.keepIn K (.ref f1)=true) (hb1:Binds K Ak ["_law_draw","_law_own","_law_many","_law_deep","_law_helpers"] []) (bI:Dn P w K mg base 2 "_law_next" ["_law_draw","_law_size"] eS) (cH:Dn P w K mg base 3 "_law_sum" ["_law_draw","_law_things"] iJ) (aD:Dn P w K mg base 5 "_law_condition" ["_law_draw","_law_things","_law_deep"] (dm 2)) (cA:Dn P w K mg base 1 "_law_plain" ["_law_helpers"] ig) (cW:Dn P w K mg base 4 "_law_call" ["_law_draw","_law_own","_law_helper_here"] ir):∀ n,Dn P w K mg base (2*n+6) "_law_step" ["_law_draw","_law_own","_law_deep","_law_helpers"] (sO n) :=
 se (lv:=fun n=>2*n+6) (sp:=fun n=>sO n) hm0 hk0 hb0 (SQ) fun n R=>Lj (n:=n) F0 T U J bI cH aD (⟨f1,Ak,yR (n:=n) F1 T U J R,hm1,hk1,hb1⟩) cA cW
theorem Fx {Y:Cy} {fS:Addr} (T:Txt K mg Y.z.s) (U:fB K mg Y.z) (J:gD K mg Y fS) {f0:Addr} {vL:FuncData} (F0:fG K "_law_fields" "_law_fields" fM f0 vL) (hm0:mg "_law_fields"=some (.ref f0)) (hk0:PySem.W.keepIn K (.ref f0)=true) (hb0:Binds K vL ["_law_step_here","_law_told"] []) {f1:Addr} {Ak:FuncData} (F1:fG K "_law_block_fields" "_law_block_fields" pK f1 Ak) (hm1:mg "_law_block_fields"=some (.ref f1)) (hk1:PySem.W.keepIn K (.ref f1)=true) (hb1:Binds K Ak ["_law_step_here","_law_told"] []) {f2:Addr} {SE:FuncData} (F2:fG K "_law_all_fields" "_law_all_fields" pL f2 SE) (hm2:mg "_law_all_fields"=some (.ref f2)) (hk2:PySem.W.keepIn K (.ref f2)=true) (hb2:Binds K SE ["_law_steps_here","_law_told"] []) (M9:∀ n,M9 P w K mg base (2*n+6) Y "told" ["self"] (eE Y n)) (W:Nx K Y) (bU:M4 P w K mg base 4 Y.z "told" ["self"] (dJ Y.z 3)):∀ n,Dn P w K mg base (3*n+7) "_law_fields" ["_law_step_here","_law_told"] (o6 Y n) :=
 se (lv:=fun n=>3*n+7) (sp:=fun n=>o6 Y n) hm0 hk0 hb0 (OR Y) fun n R=>Ou (n:=n) F0 T U J W (⟨f1,Ak,Ov (n:=n) F1 T U J bU (⟨f2,SE,Gr (n:=n) F2 T U J (M9 n) R,hm2,hk2,hb2⟩),hm1,hk1,hb1⟩)
end
end Hw
namespace Hw
open PySem L2 PyProof.Rows
theorem all_mk {l:PySem.W.OpenLaw} {w:World} {K:PySem.W.Frag} {h:Heap} {mg:Str→Option Value} {fa Cs Cc Ct Ce Co L0 L1 L2 L3 L4 L5 L6 L7 L8 Hp Pg Sp f1 f2 f3 f4 f5 f6 f7 f8 f9 ZI VP VO VN VM VL VJ VI VH VG ZH ZG ZF ZE ZD ZC ZA Zz Zy VF VE VD f32 VC Zx Zw T6 Zv Zu Zt Zs Zr Zq Zp f44 Zo Zn f47 Zm Zl f50 Zk Zj f53 Zi Zh Zg Zf f58 Ze Zd f61 f62 Zc f64 f65 VB:Addr} (X:K.In h) (G:h.Ns mainGlobals mg) (hfa:mg "law"=some (.ref fa))
  {od1 an1 od2 an2 od3 an3 od4 an4 od5 an5 od6 an6 od7 an7 od8 an8 od9 an9 a3Q b3k a3P b3j a3O b3i a3N b3h a3M b3g a3L b3f a3K b3e a3J b3d a3I b3c a3H b3b a3G b3a a3F b2Z a3E b2Y a3D b2X a3C b2W a3B b2V a3A b2U a3z b2T a3y b2S a3x b2R a3w b2Q a3v b2P a3u b2O a3t b2N a3s b2M a3r b2L a3q b2K a3p b2J a3o b2I a3n b2H a3m b2G a3l b2F a3k b2E a3j b2D a3i b2C a3h b2B a3g b2A a3f b2z a3e b2y a3d b2x a3c b2w a3b b2v a3a b2u a2Z b2t a2Y b2s a2X b2r a2W b2q a2V b2p a2U b2o a2T b2n a2S b2m a2R b2l a2Q b2k a2P b2j a2O b2h a2N Xo a2M b2g:Option Addr} {sl1 sl2 sl3 sl4 sl5 sl6 sl7 sl8 sl9 a1l a1k a1j a1i a1h a1g a1f a1e a1d a1c a1b a1a a09 a08 a07 a06 a05 a04 a03 a02 a01 a00 a0Z a0Y a0X a0W a0V a0U a0T a0S a0R a0Q a0P a0O a0N a0M a0L a0K a0J a0I a0H a0G a0F a0E a0D a0C a0B a0A a0z a0y a0x a0w a0v a0u a0t a0s a0r:Array (Option Value)} {oc1 kV1 dc1 pm1 cd1 ct1 oc2 kV2 dc2 pm2 cd2 ct2 oc3 kV3 dc3 pm3 cd3 ct3 oc4 kV4 dc4 pm4 cd4 ct4 oc5 kV5 dc5 pm5 cd5 ct5 oc6 kV6 dc6 pm6 cd6 ct6 oc7 kV7 dc7 pm7 cd7 ct7 oc8 kV8 dc8 pm8 cd8 ct8 oc9 kV9 dc9 pm9 cd9 ct9 a4V a7q b0b a2G Xg b09 a4U a7p b0a a2F Xf b08 a4T a7o a99 a2E Xe b07 a4S a7n a98 a2D Xd b06 a4R a7m a97 a2C Xc b05 a4Q a7l a96 a2B Xb b04 a4P a7k a95 a2A Xa b03 a4O a7j a94 a2z W8 b02 a4N a7i a93 a2y W7 b01 a4M a7h a92 a2x W6 b00 a4L a7g a91 a2w W5 b0Z a4K a7f a90 a2v W4 b0Y a4J a7e a9Z a2u W3 b0X a4I a7d a9Y a2t W0 b0W a4H a7c a9X a2s WZ b0V a4G a7b a9W a2r WY b0U a4F a7a a9V a2q WX b0T a4E a69 a9U a2p WW b0S a4D a68 a9T a2o WV b0R a4C a67 a9S a2n WU b0Q a4B a66 a9R a2m WT b0P a4A a6Z a9Q a2l WS b0O a4z a6Y a9P a2k WR b0N a4y a6X a9O a2j WQ b0M a4x a6W a9N a2i WO b0L a4w a6V a9M a2h WN b0K a4v a6U a9L a2g WM b0J a4u a6T a9K a2f WK b0I a4t a6S a9J a2e WJ b0H a4s a6R a9I a2d WI b0G a4r a6Q a9H a2c WH b0F a4q a6P a9G a2b WG b0E a4p a6O a9F a2a WE b0D a4o a6N a9E a1Z WD b0C a4n a6M a9D a1Y WC b0B a4m a6L a9C a1X WB b0A a4l a6K a9B a1W WA b0z a4k a6J a9A a1V Wz b0y a4j a6I a9z a1U Wy b0x a4i a6H a9y a1T Wx b0w a4h a6G a9x a1S Ww b0v a4g a6F a9w a1R Wv b0u a4f a6E a9v a1Q Wu b0t a4e a6D a9u a1P Wt b0s a4d a6C a9t a1O Ws b0r a4c a6B a9s a1N Wr b0q a4b a6A a9r a1M Wq b0p a4a a6z a9q a1L Wo b0o a3Z a6y a9p a1K Wn b0n a3Y a6x a9o a1J Wm b0m a3X a6w a9n a1I Wl b0l a3W a6v a9m a1H Wk b0k a3V a6u a9l a1G Wj b0j a3U a6t a9k a1F Wi b0i a3T a6s a9j a1E Wh b0h a3S Vd V7 UJ S6 Wf a3R a6r a9i a1D Wg b0g:Value}
  (Ss:PySem.W.nsIn K mainGlobals "Sum"=some (some (.ref Cs))) (KD:PySem.W.plainGet K Cs Str.empty=true) (MK:PySem.W.hasDictIn K Cs=true) (Kc:PySem.W.plainOver K Cs=true) (JO:PySem.W.findIn K (.ref Cs) "__setattr__"=some (some (.builtin "object.__setattr__"))) (LG:PySem.W.makesIn K Cs=true) (Ml:PySem.W.keepIn K (.ref Cs)=true)
  (Sw:PySem.W.nsIn K mainGlobals "Compare"=some (some (.ref Cc))) (KI:PySem.W.plainGet K Cc Str.empty=true) (MN:PySem.W.hasDictIn K Cc=true) (Kf:PySem.W.plainOver K Cc=true) (JR:PySem.W.findIn K (.ref Cc) "__setattr__"=some (some (.builtin "object.__setattr__"))) (LJ:PySem.W.makesIn K Cc=true) (Mp:PySem.W.keepIn K (.ref Cc)=true)
  (So:PySem.W.nsIn K mainGlobals "Turned"=some (some (.ref Ct))) (KC:PySem.W.plainGet K Ct Str.empty=true) (MJ:PySem.W.hasDictIn K Ct=true) (Ka:PySem.W.plainOver K Ct=true) (JN:PySem.W.findIn K (.ref Ct) "__setattr__"=some (some (.builtin "object.__setattr__"))) (LF:PySem.W.makesIn K Ct=true) (Mj:PySem.W.keepIn K (.ref Ct)=true)
  (Sv:PySem.W.nsIn K mainGlobals "Every"=some (some (.ref Ce))) (KH:PySem.W.plainGet K Ce Str.empty=true) (MM:PySem.W.hasDictIn K Ce=true) (Ke:PySem.W.plainOver K Ce=true) (JQ:PySem.W.findIn K (.ref Ce) "__setattr__"=some (some (.builtin "object.__setattr__"))) (LI:PySem.W.makesIn K Ce=true) (Mn:PySem.W.keepIn K (.ref Ce)=true)
  (Su:PySem.W.nsIn K mainGlobals "Some"=some (some (.ref Co))) (KG:PySem.W.plainGet K Co Str.empty=true) (ML:PySem.W.hasDictIn K Co=true) (Kd:PySem.W.plainOver K Co=true) (JP:PySem.W.findIn K (.ref Co) "__setattr__"=some (some (.builtin "object.__setattr__"))) (LH:PySem.W.makesIn K Co=true) (Mm:PySem.W.keepIn K (.ref Co)=true)
  (Sm:PySem.W.nsIn K mainGlobals "Let"=some (some (.ref L0))) (Kz:PySem.W.plainGet K L0 Str.empty=true) (MH:PySem.W.hasDictIn K L0=true) (J8:PySem.W.plainOver K L0=true) (JL:PySem.W.findIn K (.ref L0) "__setattr__"=some (some (.builtin "object.__setattr__"))) (LC:PySem.W.makesIn K L0=true) (Mh:PySem.W.keepIn K (.ref L0)=true)
  (Sl:PySem.W.nsIn K mainGlobals "Divide"=some (some (.ref L1))) (Ky:PySem.W.plainGet K L1 Str.empty=true) (MG:PySem.W.hasDictIn K L1=true) (J7:PySem.W.plainOver K L1=true) (JK:PySem.W.findIn K (.ref L1) "__setattr__"=some (some (.builtin "object.__setattr__"))) (LB:PySem.W.makesIn K L1=true) (Mg:PySem.W.keepIn K (.ref L1)=true)
  (Sk:PySem.W.nsIn K mainGlobals "Fetch"=some (some (.ref L2))) (Kw:PySem.W.plainGet K L2 Str.empty=true) (MF:PySem.W.hasDictIn K L2=true) (J6:PySem.W.plainOver K L2=true) (JJ:PySem.W.findIn K (.ref L2) "__setattr__"=some (some (.builtin "object.__setattr__"))) (LA:PySem.W.makesIn K L2=true) (Mf:PySem.W.keepIn K (.ref L2)=true)
  (Sj:PySem.W.nsIn K mainGlobals "Put"=some (some (.ref L3))) (Kv:PySem.W.plainGet K L3 Str.empty=true) (ME:PySem.W.hasDictIn K L3=true) (J5:PySem.W.plainOver K L3=true) (JI:PySem.W.findIn K (.ref L3) "__setattr__"=some (some (.builtin "object.__setattr__"))) (Lz:PySem.W.makesIn K L3=true) (Me:PySem.W.keepIn K (.ref L3)=true)
  (Si:PySem.W.nsIn K mainGlobals "Make"=some (some (.ref L4))) (Ku:PySem.W.plainGet K L4 Str.empty=true) (MD:PySem.W.hasDictIn K L4=true) (J4:PySem.W.plainOver K L4=true) (JH:PySem.W.findIn K (.ref L4) "__setattr__"=some (some (.builtin "object.__setattr__"))) (Ly:PySem.W.makesIn K L4=true) (Mc:PySem.W.keepIn K (.ref L4)=true)
  (Sh:PySem.W.nsIn K mainGlobals "Claim"=some (some (.ref L5))) (Ks:PySem.W.plainGet K L5 Str.empty=true) (MC:PySem.W.hasDictIn K L5=true) (J3:PySem.W.plainOver K L5=true) (JG:PySem.W.findIn K (.ref L5) "__setattr__"=some (some (.builtin "object.__setattr__"))) (Lx:PySem.W.makesIn K L5=true) (Mb:PySem.W.keepIn K (.ref L5)=true)
  (Sg:PySem.W.nsIn K mainGlobals "Call"=some (some (.ref L6))) (Kr:PySem.W.plainGet K L6 Str.empty=true) (MB:PySem.W.hasDictIn K L6=true) (J2:PySem.W.plainOver K L6=true) (JF:PySem.W.findIn K (.ref L6) "__setattr__"=some (some (.builtin "object.__setattr__"))) (Lw:PySem.W.makesIn K L6=true) (Ma:PySem.W.keepIn K (.ref L6)=true)
  (Se:PySem.W.nsIn K mainGlobals "Choose"=some (some (.ref L7))) (Kq:PySem.W.plainGet K L7 Str.empty=true) (MA:PySem.W.hasDictIn K L7=true) (J1:PySem.W.plainOver K L7=true) (JE:PySem.W.findIn K (.ref L7) "__setattr__"=some (some (.builtin "object.__setattr__"))) (Lv:PySem.W.makesIn K L7=true) (LZ:PySem.W.keepIn K (.ref L7)=true)
  (Sd:PySem.W.nsIn K mainGlobals "Repeat"=some (some (.ref L8))) (Ko:PySem.W.plainGet K L8 Str.empty=true) (Mz:PySem.W.hasDictIn K L8=true) (J0:PySem.W.plainOver K L8=true) (JD:PySem.W.findIn K (.ref L8) "__setattr__"=some (some (.builtin "object.__setattr__"))) (Lu:PySem.W.makesIn K L8=true) (LY:PySem.W.keepIn K (.ref L8)=true)
  (Sn:PySem.W.nsIn K mainGlobals "Helper"=some (some (.ref Hp))) (KA:PySem.W.plainGet K Hp Str.empty=true) (MI:PySem.W.hasDictIn K Hp=true) (J9:PySem.W.plainOver K Hp=true) (JM:PySem.W.findIn K (.ref Hp) "__setattr__"=some (some (.builtin "object.__setattr__"))) (LD:PySem.W.makesIn K Hp=true) (Mi:PySem.W.keepIn K (.ref Hp)=true)
  (R9:PySem.W.nsIn K mainGlobals "Program"=some (some (.ref Pg))) (Kn:PySem.W.plainGet K Pg Str.empty=true) (My:PySem.W.hasDictIn K Pg=true) (JZ:PySem.W.plainOver K Pg=true) (JC:PySem.W.findIn K (.ref Pg) "__setattr__"=some (some (.builtin "object.__setattr__"))) (Lr:PySem.W.makesIn K Pg=true) (LX:PySem.W.keepIn K (.ref Pg)=true)
  (R7:PySem.W.nsIn K mainGlobals "Step"=some (some (.ref Sp)))
  (QL:PySem.W.findCls K (.ref Sp) (.type "type") "__init__"=some (.val (.ref VB)))
  (QK:PySem.W.specialIn K (.ref Sp) "__getattribute__"=some (some (.builtin "type.__getattribute__")))
  (QJ:PySem.W.readsIn K Sp (.type "type")=true)
  (a1:PySem.W.findIn K (.ref Cs) "__init__"=some (some (.ref f1))) (i1:PySem.W.isFn K (.ref f1)=true)
  (l1:K.lookup f1=some ⟨oc1,od1,.func (PySem.W.fnOf "__init__" "Sum.__init__" (aL xo) (au xo) (ak xo) .none kV1 dc1 pm1 an1 cd1 ct1),sl1⟩) (c1:PySem.W.codeIn K cd1 "Sum.__init__"=true) (k1:PySem.W.keepIn K (.ref f1)=true)
  (a2:PySem.W.findIn K (.ref Cs) "told"=some (some (.ref f2))) (i2:PySem.W.isFn K (.ref f2)=true)
  (l2:K.lookup f2=some ⟨oc2,od2,.func (PySem.W.fnOf "told" "Sum.told" (aL qS) (au qS) (ak qS) .none kV2 dc2 pm2 an2 cd2 ct2),sl2⟩) (c2:PySem.W.codeIn K cd2 "Sum.told"=true) (k2:PySem.W.keepIn K (.ref f2)=true)
  (a3:PySem.W.findIn K (.ref Cc) "__init__"=some (some (.ref f3))) (i3:PySem.W.isFn K (.ref f3)=true)
  (l3:K.lookup f3=some ⟨oc3,od3,.func (PySem.W.fnOf "__init__" "Compare.__init__" (aL qX) (au qX) (ak qX) .none kV3 dc3 pm3 an3 cd3 ct3),sl3⟩) (c3:PySem.W.codeIn K cd3 "Compare.__init__"=true) (k3:PySem.W.keepIn K (.ref f3)=true)
  (a4:PySem.W.findIn K (.ref Ct) "__init__"=some (some (.ref f4))) (i4:PySem.W.isFn K (.ref f4)=true)
  (l4:K.lookup f4=some ⟨oc4,od4,.func (PySem.W.fnOf "__init__" "Turned.__init__" (aL qQ) (au qQ) (ak qQ) .none kV4 dc4 pm4 an4 cd4 ct4),sl4⟩) (c4:PySem.W.codeIn K cd4 "Turned.__init__"=true) (k4:PySem.W.keepIn K (.ref f4)=true)
  (a5:PySem.W.findIn K (.ref Ce) "__init__"=some (some (.ref f5))) (i5:PySem.W.isFn K (.ref f5)=true)
  (l5:K.lookup f5=some ⟨oc5,od5,.func (PySem.W.fnOf "__init__" "Several.__init__" (aL j7) (au j7) (ak j7) .none kV5 dc5 pm5 an5 cd5 ct5),sl5⟩) (c5:PySem.W.codeIn K cd5 "Several.__init__"=true) (k5:PySem.W.keepIn K (.ref f5)=true)
  (a6:PySem.W.findIn K (.ref Co) "__init__"=some (some (.ref f6))) (i6:PySem.W.isFn K (.ref f6)=true)
  (l6:K.lookup f6=some ⟨oc6,od6,.func (PySem.W.fnOf "__init__" "Several.__init__" (aL j7) (au j7) (ak j7) .none kV6 dc6 pm6 an6 cd6 ct6),sl6⟩) (c6:PySem.W.codeIn K cd6 "Several.__init__"=true) (k6:PySem.W.keepIn K (.ref f6)=true)
  (a7:PySem.W.findIn K (.ref Cc) "told"=some (some (.ref f7))) (i7:PySem.W.isFn K (.ref f7)=true)
  (l7:K.lookup f7=some ⟨oc7,od7,.func (PySem.W.fnOf "told" "Compare.told" (aL pP) (au pP) (ak pP) .none kV7 dc7 pm7 an7 cd7 ct7),sl7⟩) (c7:PySem.W.codeIn K cd7 "Compare.told"=true) (k7:PySem.W.keepIn K (.ref f7)=true)
  (a8:PySem.W.findIn K (.ref Ct) "told"=some (some (.ref f8))) (i8:PySem.W.isFn K (.ref f8)=true)
  (l8:K.lookup f8=some ⟨oc8,od8,.func (PySem.W.fnOf "told" "Turned.told" (aL pA) (au pA) (ak pA) .none kV8 dc8 pm8 an8 cd8 ct8),sl8⟩) (c8:PySem.W.codeIn K cd8 "Turned.told"=true) (k8:PySem.W.keepIn K (.ref f8)=true)
  (a9:PySem.W.findIn K (.ref Ce) "told"=some (some (.ref f9))) (i9:PySem.W.isFn K (.ref f9)=true)
  (l9:K.lookup f9=some ⟨oc9,od9,.func (PySem.W.fnOf "told" "Every.told" (aL pN) (au pN) (ak pN) .none kV9 dc9 pm9 an9 cd9 ct9),sl9⟩) (c9:PySem.W.codeIn K cd9 "Every.told"=true) (k9:PySem.W.keepIn K (.ref f9)=true)
  (a10:PySem.W.findIn K (.ref Co) "told"=some (some (.ref ZI))) (i10:PySem.W.isFn K (.ref ZI)=true)
  (NR:K.lookup ZI=some ⟨a4V,a3Q,.func (PySem.W.fnOf "told" "Some.told" (aL pC) (au pC) (ak pC) .none a7q b0b a2G b3k Xg b09),a1l⟩) (c10:PySem.W.codeIn K Xg "Some.told"=true) (YX:PySem.W.keepIn K (.ref ZI)=true)
  (a11:PySem.W.findIn K (.ref L0) "__init__"=some (some (.ref VP))) (i11:PySem.W.isFn K (.ref VP)=true)
  (RU:K.lookup VP=some ⟨a4U,a3P,.func (PySem.W.fnOf "__init__" "Let.__init__" (aL EJ) (au EJ) (ak EJ) .none a7p b0a a2F b3j Xf b08),a1k⟩) (Xl:PySem.W.codeIn K Xf "Let.__init__"=true) (rZ:PySem.W.keepIn K (.ref VP)=true)
  (a12:PySem.W.findIn K (.ref L1) "__init__"=some (some (.ref VO))) (i12:PySem.W.isFn K (.ref VO)=true)
  (TU:K.lookup VO=some ⟨a4T,a3O,.func (PySem.W.fnOf "__init__" "Divide.__init__" (aL EM) (au EM) (ak EM) .none a7o a99 a2E b3i Xe b07),a1j⟩) (c12:PySem.W.codeIn K Xe "Divide.__init__"=true) (rY:PySem.W.keepIn K (.ref VO)=true)
  (a13:PySem.W.findIn K (.ref L2) "__init__"=some (some (.ref VN))) (i13:PySem.W.isFn K (.ref VN)=true)
  (Vc:K.lookup VN=some ⟨a4S,a3N,.func (PySem.W.fnOf "__init__" "Fetch.__init__" (aL EL) (au EL) (ak EL) .none a7n a98 a2D b3h Xd b06),a1i⟩) (c13:PySem.W.codeIn K Xd "Fetch.__init__"=true) (tO:PySem.W.keepIn K (.ref VN)=true)
  (a14:PySem.W.findIn K (.ref L3) "__init__"=some (some (.ref VM))) (i14:PySem.W.isFn K (.ref VM)=true)
  (Qd:K.lookup VM=some ⟨a4R,a3M,.func (PySem.W.fnOf "__init__" "Put.__init__" (aL EG) (au EG) (ak EG) .none a7m a97 a2C b3g Xc b05),a1h⟩) (c14:PySem.W.codeIn K Xc "Put.__init__"=true) (Ad:PySem.W.keepIn K (.ref VM)=true)
  (a15:PySem.W.findIn K (.ref L4) "__init__"=some (some (.ref VL))) (i15:PySem.W.isFn K (.ref VL)=true)
  (Vb:K.lookup VL=some ⟨a4Q,a3L,.func (PySem.W.fnOf "__init__" "Make.__init__" (aL EI) (au EI) (ak EI) .none a7l a96 a2B b3f Xb b04),a1g⟩) (Xk:PySem.W.codeIn K Xb "Make.__init__"=true) (k15:PySem.W.keepIn K (.ref VL)=true)
  (a16:PySem.W.findIn K (.ref L5) "__init__"=some (some (.ref VJ))) (i16:PySem.W.isFn K (.ref VJ)=true)
  (Va:K.lookup VJ=some ⟨a4P,a3K,.func (PySem.W.fnOf "__init__" "Claim.__init__" (aL EN) (au EN) (ak EN) .none a7k a95 a2A b3e Xa b03),a1f⟩) (c16:PySem.W.codeIn K Xa "Claim.__init__"=true) (k16:PySem.W.keepIn K (.ref VJ)=true)
  (a17:PySem.W.findIn K (.ref L6) "__init__"=some (some (.ref VI))) (i17:PySem.W.isFn K (.ref VI)=true)
  (U9:K.lookup VI=some ⟨a4O,a3J,.func (PySem.W.fnOf "__init__" "Call.__init__" (aL EO) (au EO) (ak EO) .none a7j a94 a2z b3d W8 b02),a1e⟩) (c17:PySem.W.codeIn K W8 "Call.__init__"=true) (k17:PySem.W.keepIn K (.ref VI)=true)
  (a18:PySem.W.findIn K (.ref L7) "__init__"=some (some (.ref VH))) (i18:PySem.W.isFn K (.ref VH)=true)
  (l18:K.lookup VH=some ⟨a4N,a3I,.func (PySem.W.fnOf "__init__" "Choose.__init__" (aL ER) (au ER) (ak ER) .none a7i a93 a2y b3c W7 b01),a1d⟩) (c18:PySem.W.codeIn K W7 "Choose.__init__"=true) (k18:PySem.W.keepIn K (.ref VH)=true)
  (a19:PySem.W.findIn K (.ref L8) "__init__"=some (some (.ref VG))) (i19:PySem.W.isFn K (.ref VG)=true)
  (l19:K.lookup VG=some ⟨a4M,a3H,.func (PySem.W.fnOf "__init__" "Repeat.__init__" (aL EF) (au EF) (ak EF) .none a7h a92 a2x b3b W6 b00),a1c⟩) (c19:PySem.W.codeIn K W6 "Repeat.__init__"=true) (k19:PySem.W.keepIn K (.ref VG)=true)
  (a20:PySem.W.findIn K (.ref L0) "told"=some (some (.ref ZH))) (i20:PySem.W.isFn K (.ref ZH)=true)
  (l20:K.lookup ZH=some ⟨a4L,a3G,.func (PySem.W.fnOf "told" "Let.told" (aL pH) (au pH) (ak pH) .none a7g a91 a2w b3a W5 b0Z),a1b⟩) (c20:PySem.W.codeIn K W5 "Let.told"=true) (YW:PySem.W.keepIn K (.ref ZH)=true)
  (a21:PySem.W.findIn K (.ref L1) "told"=some (some (.ref ZG))) (i21:PySem.W.isFn K (.ref ZG)=true)
  (l21:K.lookup ZG=some ⟨a4K,a3F,.func (PySem.W.fnOf "told" "Divide.told" (aL pO) (au pO) (ak pO) .none a7f a90 a2v b2Z W4 b0Y),a1a⟩) (c21:PySem.W.codeIn K W4 "Divide.told"=true) (YV:PySem.W.keepIn K (.ref ZG)=true)
  (a22:PySem.W.findIn K (.ref L2) "told"=some (some (.ref ZF))) (i22:PySem.W.isFn K (.ref ZF)=true)
  (l22:K.lookup ZF=some ⟨a4J,a3E,.func (PySem.W.fnOf "told" "Fetch.told" (aL pM) (au pM) (ak pM) .none a7e a9Z a2u b2Y W3 b0X),a09⟩) (c22:PySem.W.codeIn K W3 "Fetch.told"=true) (YU:PySem.W.keepIn K (.ref ZF)=true)
  (a23:PySem.W.findIn K (.ref L3) "told"=some (some (.ref ZE))) (i23:PySem.W.isFn K (.ref ZE)=true)
  (l23:K.lookup ZE=some ⟨a4I,a3D,.func (PySem.W.fnOf "told" "Put.told" (aL pB) (au pB) (ak pB) .none a7d a9Y a2t b2X W0 b0W),a08⟩) (c23:PySem.W.codeIn K W0 "Put.told"=true) (YT:PySem.W.keepIn K (.ref ZE)=true)
  (a24:PySem.W.findIn K (.ref L4) "told"=some (some (.ref ZD))) (i24:PySem.W.isFn K (.ref ZD)=true)
  (l24:K.lookup ZD=some ⟨a4H,a3C,.func (PySem.W.fnOf "told" "Make.told" (aL pG) (au pG) (ak pG) .none a7c a9X a2s b2W WZ b0V),a07⟩) (c24:PySem.W.codeIn K WZ "Make.told"=true) (YS:PySem.W.keepIn K (.ref ZD)=true)
  (a25:PySem.W.findIn K (.ref L5) "told"=some (some (.ref ZC))) (i25:PySem.W.isFn K (.ref ZC)=true)
  (l25:K.lookup ZC=some ⟨a4G,a3B,.func (PySem.W.fnOf "told" "Claim.told" (aL m6) (au m6) (ak m6) .none a7b a9W a2r b2V WY b0U),a06⟩) (c25:PySem.W.codeIn K WY "Claim.told"=true) (YR:PySem.W.keepIn K (.ref ZC)=true)
  (a26:PySem.W.findIn K (.ref L6) "told"=some (some (.ref ZA))) (i26:PySem.W.isFn K (.ref ZA)=true)
  (l26:K.lookup ZA=some ⟨a4F,a3A,.func (PySem.W.fnOf "told" "Call.told" (aL m7) (au m7) (ak m7) .none a7a a9V a2q b2U WX b0T),a05⟩) (c26:PySem.W.codeIn K WX "Call.told"=true) (YQ:PySem.W.keepIn K (.ref ZA)=true)
  (a27:PySem.W.findIn K (.ref L7) "told"=some (some (.ref Zz))) (i27:PySem.W.isFn K (.ref Zz)=true)
  (l27:K.lookup Zz=some ⟨a4E,a3z,.func (PySem.W.fnOf "told" "Choose.told" (aL m8) (au m8) (ak m8) .none a69 a9U a2p b2T WW b0S),a04⟩) (c27:PySem.W.codeIn K WW "Choose.told"=true) (YO:PySem.W.keepIn K (.ref Zz)=true)
  (a28:PySem.W.findIn K (.ref L8) "told"=some (some (.ref Zy))) (i28:PySem.W.isFn K (.ref Zy)=true)
  (l28:K.lookup Zy=some ⟨a4D,a3y,.func (PySem.W.fnOf "told" "Repeat.told" (aL mZ) (au mZ) (ak mZ) .none a68 a9T a2o b2S WV b0R),a03⟩) (c28:PySem.W.codeIn K WV "Repeat.told"=true) (YN:PySem.W.keepIn K (.ref Zy)=true)
  (a29:PySem.W.findIn K (.ref Hp) "__init__"=some (some (.ref VF))) (i29:PySem.W.isFn K (.ref VF)=true)
  (l29:K.lookup VF=some ⟨a4C,a3x,.func (PySem.W.fnOf "__init__" "Helper.__init__" (aL EK) (au EK) (ak EK) .none a67 a9S a2n b2R WU b0Q),a02⟩) (c29:PySem.W.codeIn K WU "Helper.__init__"=true) (k29:PySem.W.keepIn K (.ref VF)=true)
  (a30:PySem.W.findIn K (.ref Pg) "__init__"=some (some (.ref VE))) (i30:PySem.W.isFn K (.ref VE)=true)
  (l30:K.lookup VE=some ⟨a4B,a3w,.func (PySem.W.fnOf "__init__" "Program.__init__" (aL EH) (au EH) (ak EH) .none a66 a9R a2m b2Q WT b0P),a01⟩) (c30:PySem.W.codeIn K WT "Program.__init__"=true) (k30:PySem.W.keepIn K (.ref VE)=true)
  (a31:PySem.W.findIn K (.ref Hp) "told"=some (some (.ref VD))) (i31:PySem.W.isFn K (.ref VD)=true)
  (l31:K.lookup VD=some ⟨a4A,a3v,.func (PySem.W.fnOf "told" "Helper.told" (aL qW) (au qW) (ak qW) .none a6Z a9Q a2l b2P WS b0O),a00⟩) (c31:PySem.W.codeIn K WS "Helper.told"=true) (YM:PySem.W.keepIn K (.ref VD)=true)
  (a32:PySem.W.findIn K (.ref Pg) "told"=some (some (.ref f32))) (i32:PySem.W.isFn K (.ref f32)=true)
  (l32:K.lookup f32=some ⟨a4z,a3u,.func (PySem.W.fnOf "told" "Program.told" (aL oq) (au oq) (ak oq) .none a6Y a9P a2k b2O WR b0N),a0Z⟩) (c32:PySem.W.codeIn K WR "Program.told"=true) (YL:PySem.W.keepIn K (.ref f32)=true)
  (a33:PySem.W.findIn K (.ref Pg) "named"=some (some (.ref VC))) (i33:PySem.W.isFn K (.ref VC)=true)
  (l33:K.lookup VC=some ⟨a4y,a3t,.func (PySem.W.fnOf "named" "Program.named" (aL qT) (au qT) (ak qT) .none a6X a9O a2j b2N WQ b0M),a0Y⟩) (c33:PySem.W.codeIn K WQ "Program.named"=true) (YK:PySem.W.keepIn K (.ref VC)=true)
  (a34:PySem.W.nsIn K mainGlobals "sum_of"=some (some (.ref Zx)))
  (l34:K.lookup Zx=some ⟨a4x,a3s,.func (PySem.W.fnOf "sum_of" "sum_of" (aL qR) (au qR) (ak qR) .none a6W a9N a2i b2M WO b0L),a0X⟩) (c34:PySem.W.codeIn K WO "sum_of"=true) (YJ:PySem.W.keepIn K (.ref Zx)=true)
  (a35:PySem.W.nsIn K mainGlobals "as_pairs"=some (some (.ref Zw)))
  (l35:K.lookup Zw=some ⟨a4w,a3r,.func (PySem.W.fnOf "as_pairs" "as_pairs" (aL ES) (au ES) (ak ES) .none a6V a9M a2h b2L WN b0K),a0W⟩) (c35:PySem.W.codeIn K WN "as_pairs"=true) (YI:PySem.W.keepIn K (.ref Zw)=true)
  (Ub:PySem.W.nsIn K mainGlobals "told_each"=some (some (.ref T6)))
  (l36:K.lookup T6=some ⟨a4v,a3q,.func (PySem.W.fnOf "told_each" "told_each" (aL vW) (au vW) (ak vW) .none a6U a9L a2g b2K WM b0J),a0V⟩) (c36:PySem.W.codeIn K WM "told_each"=true) (R0:PySem.W.keepIn K (.ref T6)=true)
  (a37:PySem.W.nsIn K mainGlobals "told_pairs"=some (some (.ref Zv)))
  (l37:K.lookup Zv=some ⟨a4u,a3p,.func (PySem.W.fnOf "told_pairs" "told_pairs" (aL ED) (au ED) (ak ED) .none a6T a9K a2f b2J WK b0I),a0U⟩) (c37:PySem.W.codeIn K WK "told_pairs"=true) (YH:PySem.W.keepIn K (.ref Zv)=true)
  (a38:PySem.W.nsIn K mainGlobals "_law_mixed"=some (some (.ref Zu)))
  (l38:K.lookup Zu=some ⟨a4t,a3o,.func (PySem.W.fnOf "_law_mixed" "_law_mixed" (aL qU) (au qU) (ak qU) .none a6S a9J a2e b2I WJ b0H),a0T⟩) (c38:PySem.W.codeIn K WJ "_law_mixed"=true) (YG:PySem.W.keepIn K (.ref Zu)=true)
  (a39:PySem.W.nsIn K mainGlobals "_law_cell_at"=some (some (.ref Zt)))
  (l39:K.lookup Zt=some ⟨a4s,a3n,.func (PySem.W.fnOf "_law_cell_at" "_law_cell_at" (aL oB) (au oB) (ak oB) .none a6R a9I a2d b2H WI b0G),a0S⟩) (c39:PySem.W.codeIn K WI "_law_cell_at"=true) (YF:PySem.W.keepIn K (.ref Zt)=true)
  (a40:PySem.W.nsIn K mainGlobals "_law_next"=some (some (.ref Zs)))
  (l40:K.lookup Zs=some ⟨a4r,a3m,.func (PySem.W.fnOf "_law_next" "_law_next" (aL w5) (au w5) (ak w5) .none a6Q a9H a2c b2G WH b0F),a0R⟩) (c40:PySem.W.codeIn K WH "_law_next"=true) (YE:PySem.W.keepIn K (.ref Zs)=true)
  (a41:PySem.W.nsIn K mainGlobals "_law_kept"=some (some (.ref Zr)))
  (l41:K.lookup Zr=some ⟨a4q,a3l,.func (PySem.W.fnOf "_law_kept" "_law_kept" (aL sX) (au sX) (ak sX) .none a6P a9G a2b b2F WG b0E),a0Q⟩) (c41:PySem.W.codeIn K WG "_law_kept"=true) (YD:PySem.W.keepIn K (.ref Zr)=true)
  (a42:PySem.W.nsIn K mainGlobals "_law_names"=some (some (.ref Zq)))
  (l42:K.lookup Zq=some ⟨a4p,a3k,.func (PySem.W.fnOf "_law_names" "_law_names" (aL pF) (au pF) (ak pF) .none a6O a9F a2a b2E WE b0D),a0P⟩) (c42:PySem.W.codeIn K WE "_law_names"=true) (YC:PySem.W.keepIn K (.ref Zq)=true)
  (a43:PySem.W.nsIn K mainGlobals "_law_sum"=some (some (.ref Zp)))
  (l43:K.lookup Zp=some ⟨a4o,a3j,.func (PySem.W.fnOf "_law_sum" "_law_sum" (aL w6) (au w6) (ak w6) .none a6N a9E a1Z b2D WD b0C),a0O⟩) (c43:PySem.W.codeIn K WD "_law_sum"=true) (YB:PySem.W.keepIn K (.ref Zp)=true)
  (a44:PySem.W.nsIn K mainGlobals "_law_condition"=some (some (.ref f44)))
  (TR:K.lookup f44=some ⟨a4n,a3i,.func (PySem.W.fnOf "_law_condition" "_law_condition" (aL pJ) (au pJ) (ak pJ) .none a6M a9D a1Y b2C WC b0B),a0N⟩) (c44:PySem.W.codeIn K WC "_law_condition"=true) (YA:PySem.W.keepIn K (.ref f44)=true)
  (a45:PySem.W.nsIn K mainGlobals "_law_pairs_placed"=some (some (.ref Zo)))
  (l45:K.lookup Zo=some ⟨a4m,a3h,.func (PySem.W.fnOf "_law_pairs_placed" "_law_pairs_placed" (aL xh) (au xh) (ak xh) .none a6L a9C a1X b2B WB b0A),a0M⟩) (Xj:PySem.W.codeIn K WB "_law_pairs_placed"=true) (Yz:PySem.W.keepIn K (.ref Zo)=true)
  (ZS:PySem.W.nsIn K mainGlobals "_law_all_placed"=some (some (.ref Zn)))
  (l46:K.lookup Zn=some ⟨a4l,a3g,.func (PySem.W.fnOf "_law_all_placed" "_law_all_placed" (aL vD) (au vD) (ak vD) .none a6K a9B a1W b2A WA b0z),a0L⟩) (c46:PySem.W.codeIn K WA "_law_all_placed"=true) (Vh:PySem.W.keepIn K (.ref Zn)=true)
  (a47:PySem.W.nsIn K mainGlobals "_law_placed"=some (some (.ref f47)))
  (l47:K.lookup f47=some ⟨a4k,a3f,.func (PySem.W.fnOf "_law_placed" "_law_placed" (aL A8) (au A8) (ak A8) .none a6J a9A a1V b2z Wz b0y),a0K⟩) (c47:PySem.W.codeIn K Wz "_law_placed"=true) (RZ:PySem.W.keepIn K (.ref f47)=true)
  (a48:PySem.W.nsIn K mainGlobals "_law_helper_placed"=some (some (.ref Zm)))
  (l48:K.lookup Zm=some ⟨a4j,a3e,.func (PySem.W.fnOf "_law_helper_placed" "_law_helper_placed" (aL xj) (au xj) (ak xj) .none a6I a9z a1U b2y Wy b0x),a0J⟩) (c48:PySem.W.codeIn K Wy "_law_helper_placed"=true) (Yy:PySem.W.keepIn K (.ref Zm)=true)
  (a49:PySem.W.nsIn K mainGlobals "_law_sum_made"=some (some (.ref Zl)))
  (l49:K.lookup Zl=some ⟨a4i,a3d,.func (PySem.W.fnOf "_law_sum_made" "_law_sum_made" (aL ou) (au ou) (ak ou) .none a6H a9y a1T b2x Wx b0w),a0I⟩) (c49:PySem.W.codeIn K Wx "_law_sum_made"=true) (Yx:PySem.W.keepIn K (.ref Zl)=true)
  (a50:PySem.W.nsIn K mainGlobals "_law_condition_made"=some (some (.ref f50)))
  (l50:K.lookup f50=some ⟨a4h,a3c,.func (PySem.W.fnOf "_law_condition_made" "_law_condition_made" (aL m5) (au m5) (ak m5) .none a6G a9x a1S b2w Ww b0v),a0H⟩) (c50:PySem.W.codeIn K Ww "_law_condition_made"=true) (Yw:PySem.W.keepIn K (.ref f50)=true)
  (a51:PySem.W.nsIn K mainGlobals "_law_pairs_made"=some (some (.ref Zk)))
  (l51:K.lookup Zk=some ⟨a4g,a3b,.func (PySem.W.fnOf "_law_pairs_made" "_law_pairs_made" (aL xg) (au xg) (ak xg) .none a6F a9w a1R b2v Wv b0u),a0G⟩) (c51:PySem.W.codeIn K Wv "_law_pairs_made"=true) (Yv:PySem.W.keepIn K (.ref Zk)=true)
  (ZR:PySem.W.nsIn K mainGlobals "_law_steps_made"=some (some (.ref Zj)))
  (l52:K.lookup Zj=some ⟨a4f,a3a,.func (PySem.W.fnOf "_law_steps_made" "_law_steps_made" (aL pI) (au pI) (ak pI) .none a6E a9v a1Q b2u Wu b0t),a0F⟩) (c52:PySem.W.codeIn K Wu "_law_steps_made"=true) (Vg:PySem.W.keepIn K (.ref Zj)=true)
  (a53:PySem.W.nsIn K mainGlobals "_law_step_made"=some (some (.ref f53)))
  (l53:K.lookup f53=some ⟨a4e,a2Z,.func (PySem.W.fnOf "_law_step_made" "_law_step_made" (aL vC) (au vC) (ak vC) .none a6D a9u a1P b2t Wt b0s),a0E⟩) (c53:PySem.W.codeIn K Wt "_law_step_made"=true) (Yu:PySem.W.keepIn K (.ref f53)=true)
  (a54:PySem.W.nsIn K mainGlobals "_law_helper_made"=some (some (.ref Zi)))
  (l54:K.lookup Zi=some ⟨a4d,a2Y,.func (PySem.W.fnOf "_law_helper_made" "_law_helper_made" (aL xm) (au xm) (ak xm) .none a6C a9t a1O b2s Ws b0r),a0D⟩) (c54:PySem.W.codeIn K Ws "_law_helper_made"=true) (Yt:PySem.W.keepIn K (.ref Zi)=true)
  (a55:PySem.W.nsIn K mainGlobals "_law_plain"=some (some (.ref Zh)))
  (l55:K.lookup Zh=some ⟨a4c,a2X,.func (PySem.W.fnOf "_law_plain" "_law_plain" (aL ow) (au ow) (ak ow) .none a6B a9s a1N b2r Wr b0q),a0C⟩) (c55:PySem.W.codeIn K Wr "_law_plain"=true) (Ys:PySem.W.keepIn K (.ref Zh)=true)
  (ZQ:PySem.W.nsIn K mainGlobals "_law_steps"=some (some (.ref Zg)))
  (l56:K.lookup Zg=some ⟨a4b,a2W,.func (PySem.W.fnOf "_law_steps" "_law_steps" (aL kU) (au kU) (ak kU) .none a6A a9r a1M b2q Wq b0p),a0B⟩) (c56:PySem.W.codeIn K Wq "_law_steps"=true) (Vf:PySem.W.keepIn K (.ref Zg)=true)
  (a57:PySem.W.nsIn K mainGlobals "_law_call"=some (some (.ref Zf)))
  (l57:K.lookup Zf=some ⟨a4a,a2V,.func (PySem.W.fnOf "_law_call" "_law_call" (aL oz) (au oz) (ak oz) .none a6z a9q a1L b2p Wo b0o),a0A⟩) (c57:PySem.W.codeIn K Wo "_law_call"=true) (Yr:PySem.W.keepIn K (.ref Zf)=true)
  (a58:PySem.W.nsIn K mainGlobals "_law_step"=some (some (.ref f58)))
  (l58:K.lookup f58=some ⟨a3Z,a2U,.func (PySem.W.fnOf "_law_step" "_law_step" (aL cN) (au cN) (ak cN) .none a6y a9p a1K b2o Wn b0n),a0z⟩) (c58:PySem.W.codeIn K Wn "_law_step"=true) (Yq:PySem.W.keepIn K (.ref f58)=true)
  (a59:PySem.W.nsIn K mainGlobals "_law_helper"=some (some (.ref Ze)))
  (l59:K.lookup Ze=some ⟨a3Y,a2T,.func (PySem.W.fnOf "_law_helper" "_law_helper" (aL lZ) (au lZ) (ak lZ) .none a6x a9o a1J b2n Wm b0m),a0y⟩) (c59:PySem.W.codeIn K Wm "_law_helper"=true) (Yp:PySem.W.keepIn K (.ref Ze)=true)
  (a60:PySem.W.nsIn K mainGlobals "_law_program"=some (some (.ref Zd)))
  (l60:K.lookup Zd=some ⟨a3X,a2S,.func (PySem.W.fnOf "_law_program" "_law_program" (aL qV) (au qV) (ak qV) .none a6w a9n a1I b2m Wl b0l),a0x⟩) (c60:PySem.W.codeIn K Wl "_law_program"=true) (Yo:PySem.W.keepIn K (.ref Zd)=true)
  (a61:PySem.W.nsIn K mainGlobals "_law_fields"=some (some (.ref f61)))
  (l61:K.lookup f61=some ⟨a3W,a2R,.func (PySem.W.fnOf "_law_fields" "_law_fields" (aL fM) (au fM) (ak fM) .none a6v a9m a1H b2l Wk b0k),a0w⟩) (c61:PySem.W.codeIn K Wk "_law_fields"=true) (Yn:PySem.W.keepIn K (.ref f61)=true)
  (a62:PySem.W.nsIn K mainGlobals "_law_block_fields"=some (some (.ref f62)))
  (l62:K.lookup f62=some ⟨a3V,a2Q,.func (PySem.W.fnOf "_law_block_fields" "_law_block_fields" (aL pK) (au pK) (ak pK) .none a6u a9l a1G b2k Wj b0j),a0v⟩) (c62:PySem.W.codeIn K Wj "_law_block_fields"=true) (Ym:PySem.W.keepIn K (.ref f62)=true)
  (ZP:PySem.W.nsIn K mainGlobals "_law_all_fields"=some (some (.ref Zc)))
  (l63:K.lookup Zc=some ⟨a3U,a2P,.func (PySem.W.fnOf "_law_all_fields" "_law_all_fields" (aL pL) (au pL) (ak pL) .none a6t a9k a1F b2j Wi b0i),a0u⟩) (c63:PySem.W.codeIn K Wi "_law_all_fields"=true) (Ve:PySem.W.keepIn K (.ref Zc)=true)
  (a64:PySem.W.nsIn K mainGlobals "_law_helper_right"=some (some (.ref f64)))
  (l64:K.lookup f64=some ⟨a3T,a2O,.func (PySem.W.fnOf "_law_helper_right" "_law_helper_right" (aL mh) (au mh) (ak mh) .none a6s a9j a1E b2h Wh b0h),a0t⟩) (c64:PySem.W.codeIn K Wh "_law_helper_right"=true) (Yl:PySem.W.keepIn K (.ref f64)=true)
  (a65:PySem.W.nsIn K mainGlobals "law"=some (some (.ref f65)))
  (l65:K.lookup f65=some ⟨a3S,a2N,.func (PySem.W.fnOf "law" "law" (aL nF) (au nF) (ak nF) .none Vd V7 UJ Xo S6 Wf),a0s⟩) (c65:PySem.W.codeIn K S6 "law"=true) (k65:PySem.W.keepIn K (.ref f65)=true)
  (l66:K.lookup VB=some ⟨a3R,a2M,.func (PySem.W.fnOf "__init__" "Step.__init__" (aL EE) (au EE) (ak EE) .none a6r a9i a1D b2g Wg b0g),a0r⟩) (c66:PySem.W.codeIn K Wg "Step.__init__"=true) (Yk:PySem.W.keepIn K (.ref VB)=true)
  (rR:PySem.W.findIn K (.ref Cs) "terms"=some none)
  (pX:PySem.W.findIn K (.ref Cs) "number"=some none)
  (xF:PySem.W.findIn K (.ref Cc) "one"=some none)
  (uS:PySem.W.findIn K (.ref Cc) "sign"=some none)
  (rS:PySem.W.findIn K (.ref Cc) "other"=some none)
  (mD:PySem.W.findIn K (.ref Ct) "condition"=some none)
  (lE:PySem.W.findIn K (.ref Ce) "conditions"=some none)
  (lD:PySem.W.findIn K (.ref Co) "conditions"=some none)
  (zW:PySem.W.findIn K (.ref L0) "at"=some none)
  (uQ:PySem.W.findIn K (.ref L0) "name"=some none)
  (rN:PySem.W.findIn K (.ref L0) "total"=some none)
  (zV:PySem.W.findIn K (.ref L1) "at"=some none)
  (uP:PySem.W.findIn K (.ref L1) "name"=some none)
  (uO:PySem.W.findIn K (.ref L1) "word"=some none)
  (rM:PySem.W.findIn K (.ref L1) "total"=some none)
  (zU:PySem.W.findIn K (.ref L1) "by"=some none)
  (zT:PySem.W.findIn K (.ref L2) "at"=some none)
  (uM:PySem.W.findIn K (.ref L2) "name"=some none)
  (xE:PySem.W.findIn K (.ref L2) "row"=some none)
  (rK:PySem.W.findIn K (.ref L2) "place"=some none)
  (zS:PySem.W.findIn K (.ref L3) "at"=some none)
  (xD:PySem.W.findIn K (.ref L3) "row"=some none)
  (rJ:PySem.W.findIn K (.ref L3) "place"=some none)
  (rH:PySem.W.findIn K (.ref L3) "total"=some none)
  (zR:PySem.W.findIn K (.ref L4) "at"=some none)
  (xC:PySem.W.findIn K (.ref L4) "row"=some none)
  (uK:PySem.W.findIn K (.ref L4) "size"=some none)
  (zQ:PySem.W.findIn K (.ref L5) "at"=some none)
  (mC:PySem.W.findIn K (.ref L5) "condition"=some none)
  (zP:PySem.W.findIn K (.ref L6) "at"=some none)
  (rF:PySem.W.findIn K (.ref L6) "names"=some none)
  (pV:PySem.W.findIn K (.ref L6) "helper"=some none)
  (rG:PySem.W.findIn K (.ref L6) "given"=some none)
  (zO:PySem.W.findIn K (.ref L7) "at"=some none)
  (mz:PySem.W.findIn K (.ref L7) "condition"=some none)
  (uJ:PySem.W.findIn K (.ref L7) "then"=some none)
  (rE:PySem.W.findIn K (.ref L7) "other"=some none)
  (zN:PySem.W.findIn K (.ref L8) "at"=some none)
  (mw:PySem.W.findIn K (.ref L8) "condition"=some none)
  (rC:PySem.W.findIn K (.ref L8) "keeps"=some none)
  (rD:PySem.W.findIn K (.ref L8) "falls"=some none)
  (uI:PySem.W.findIn K (.ref L8) "body"=some none)
  (zX:PySem.W.findIn K (.ref Hp) "at"=some none)
  (uR:PySem.W.findIn K (.ref Hp) "name"=some none)
  (pW:PySem.W.findIn K (.ref Hp) "params"=some none)
  (oJ:PySem.W.findIn K (.ref Hp) "answers"=some none)
  (rP:PySem.W.findIn K (.ref Hp) "needs"=some none)
  (rQ:PySem.W.findIn K (.ref Hp) "gives"=some none)
  (rO:PySem.W.findIn K (.ref Hp) "steps"=some none)
  (oH:PySem.W.findIn K (.ref Pg) "helpers"=some none)
  (I9:PySem.W.nsIn K mainGlobals "len"=some none)
  (I0:PySem.W.nsIn K mainGlobals "sum"=some none)
  (wG:PySem.W.nsIn K mainGlobals "sorted"=some none)
  (Cq:PySem.W.nsIn K mainGlobals "list"=some none)
  (zj:PySem.W.nsIn K mainGlobals "tuple"=some none)
  (n9:PySem.W.nsIn K mainGlobals "isinstance"=some none)
  (zk:PySem.W.nsIn K mainGlobals "range"=some none)
  (Jd:PySem.W.nsIn K mainGlobals "abs"=some none)
  (I8:PySem.W.nsIn K mainGlobals "str"=some none)
  (Ja:PySem.W.nsIn K mainGlobals "int"=some none)
  (Cr:PySem.W.nsIn K mainGlobals "dict"=some none)
  (Jc:PySem.W.nsIn K mainGlobals "all"=some none)
  (Jb:PySem.W.nsIn K mainGlobals "any"=some none)
  (QN:PySem.W.specialIn K (.builtin "object.__class__") "__get__"=some (some (.builtin "getset_descriptor.__get__")))
  (QM:PySem.W.takesIn K (.builtin "object.__class__")=some true)
  (Ez:PySem.W.findIn K (.ref Cs) "__class__"=some (some (.builtin "object.__class__")))
  (En:PySem.W.mroIn K Cs (.type "object")=some true)
  (Ey:PySem.W.findIn K (.ref L0) "__class__"=some (some (.builtin "object.__class__")))
  (Em:PySem.W.mroIn K L0 (.type "object")=some true)
  (Ex:PySem.W.findIn K (.ref L1) "__class__"=some (some (.builtin "object.__class__")))
  (El:PySem.W.mroIn K L1 (.type "object")=some true)
  (Ew:PySem.W.findIn K (.ref L2) "__class__"=some (some (.builtin "object.__class__")))
  (Ek:PySem.W.mroIn K L2 (.type "object")=some true)
  (Eu:PySem.W.findIn K (.ref L3) "__class__"=some (some (.builtin "object.__class__")))
  (Ej:PySem.W.mroIn K L3 (.type "object")=some true)
  (Et:PySem.W.findIn K (.ref L4) "__class__"=some (some (.builtin "object.__class__")))
  (Ei:PySem.W.mroIn K L4 (.type "object")=some true)
  (Es:PySem.W.findIn K (.ref L5) "__class__"=some (some (.builtin "object.__class__")))
  (Eh:PySem.W.mroIn K L5 (.type "object")=some true)
  (Er:PySem.W.findIn K (.ref L6) "__class__"=some (some (.builtin "object.__class__")))
  (Eg:PySem.W.mroIn K L6 (.type "object")=some true)
  (Ep:PySem.W.findIn K (.ref L7) "__class__"=some (some (.builtin "object.__class__")))
  (Ef:PySem.W.mroIn K L7 (.type "object")=some true)
  (Eo:PySem.W.findIn K (.ref L8) "__class__"=some (some (.builtin "object.__class__")))
  (Ed:PySem.W.mroIn K L8 (.type "object")=some true)
  (Jp:PySem.W.findIn K (.ref Hp) "__ne__"=some (some (.builtin "object.__ne__")))
  (Jq:PySem.W.findIn K (.ref Hp) "__eq__"=some (some (.builtin "object.__eq__")))
  (Jo:PySem.W.mroIn K Hp (.type "object")=some true)
  (Ec:PySem.W.kitOne K (.ref L0) (.ref L0)=some true)
  (Eb:PySem.W.kitOne K (.ref L0) (.ref L1)=some false)
  (Ea:PySem.W.kitOne K (.ref L0) (.ref L2)=some false)
  (D8:PySem.W.kitOne K (.ref L0) (.ref L3)=some false)
  (D7:PySem.W.kitOne K (.ref L0) (.ref L4)=some false)
  (D6:PySem.W.kitOne K (.ref L0) (.ref L5)=some false)
  (DZ:PySem.W.kitOne K (.ref L0) (.ref L6)=some false)
  (DY:PySem.W.kitOne K (.ref L0) (.ref L7)=some false)
  (DX:PySem.W.kitOne K (.ref L0) (.ref L8)=some false)
  (Jm:PySem.W.kitOne K (.ref L0) (.ref Sp)=some true)
  (DW:PySem.W.kitOne K (.ref L1) (.ref L0)=some false)
  (DV:PySem.W.kitOne K (.ref L1) (.ref L1)=some true)
  (DU:PySem.W.kitOne K (.ref L1) (.ref L2)=some false)
  (DT:PySem.W.kitOne K (.ref L1) (.ref L3)=some false)
  (DS:PySem.W.kitOne K (.ref L1) (.ref L4)=some false)
  (DR:PySem.W.kitOne K (.ref L1) (.ref L5)=some false)
  (DQ:PySem.W.kitOne K (.ref L1) (.ref L6)=some false)
  (DP:PySem.W.kitOne K (.ref L1) (.ref L7)=some false)
  (DO:PySem.W.kitOne K (.ref L1) (.ref L8)=some false)
  (Jl:PySem.W.kitOne K (.ref L1) (.ref Sp)=some true)
  (DN:PySem.W.kitOne K (.ref L2) (.ref L0)=some false)
  (DM:PySem.W.kitOne K (.ref L2) (.ref L1)=some false)
  (DL:PySem.W.kitOne K (.ref L2) (.ref L2)=some true)
  (DK:PySem.W.kitOne K (.ref L2) (.ref L3)=some false)
  (DJ:PySem.W.kitOne K (.ref L2) (.ref L4)=some false)
  (DI:PySem.W.kitOne K (.ref L2) (.ref L5)=some false)
  (DH:PySem.W.kitOne K (.ref L2) (.ref L6)=some false)
  (DG:PySem.W.kitOne K (.ref L2) (.ref L7)=some false)
  (DF:PySem.W.kitOne K (.ref L2) (.ref L8)=some false)
  (Jk:PySem.W.kitOne K (.ref L2) (.ref Sp)=some true)
  (DE:PySem.W.kitOne K (.ref L3) (.ref L0)=some false)
  (DC:PySem.W.kitOne K (.ref L3) (.ref L1)=some false)
  (DB:PySem.W.kitOne K (.ref L3) (.ref L2)=some false)
  (DA:PySem.W.kitOne K (.ref L3) (.ref L3)=some true)
  (Dz:PySem.W.kitOne K (.ref L3) (.ref L4)=some false)
  (Dw:PySem.W.kitOne K (.ref L3) (.ref L5)=some false)
  (Dv:PySem.W.kitOne K (.ref L3) (.ref L6)=some false)
  (Du:PySem.W.kitOne K (.ref L3) (.ref L7)=some false)
  (Dt:PySem.W.kitOne K (.ref L3) (.ref L8)=some false)
  (Jj:PySem.W.kitOne K (.ref L3) (.ref Sp)=some true)
  (Ds:PySem.W.kitOne K (.ref L4) (.ref L0)=some false)
  (Dp:PySem.W.kitOne K (.ref L4) (.ref L1)=some false)
  (Dl:PySem.W.kitOne K (.ref L4) (.ref L2)=some false)
  (Dk:PySem.W.kitOne K (.ref L4) (.ref L3)=some false)
  (Dj:PySem.W.kitOne K (.ref L4) (.ref L4)=some true)
  (Di:PySem.W.kitOne K (.ref L4) (.ref L5)=some false)
  (Dh:PySem.W.kitOne K (.ref L4) (.ref L6)=some false)
  (Dg:PySem.W.kitOne K (.ref L4) (.ref L7)=some false)
  (De:PySem.W.kitOne K (.ref L4) (.ref L8)=some false)
  (Ji:PySem.W.kitOne K (.ref L4) (.ref Sp)=some true)
  (Dd:PySem.W.kitOne K (.ref L5) (.ref L0)=some false)
  (C9:PySem.W.kitOne K (.ref L5) (.ref L1)=some false)
  (C8:PySem.W.kitOne K (.ref L5) (.ref L2)=some false)
  (C7:PySem.W.kitOne K (.ref L5) (.ref L3)=some false)
  (C6:PySem.W.kitOne K (.ref L5) (.ref L4)=some false)
  (C5:PySem.W.kitOne K (.ref L5) (.ref L5)=some true)
  (C4:PySem.W.kitOne K (.ref L5) (.ref L6)=some false)
  (C3:PySem.W.kitOne K (.ref L5) (.ref L7)=some false)
  (C2:PySem.W.kitOne K (.ref L5) (.ref L8)=some false)
  (Jh:PySem.W.kitOne K (.ref L5) (.ref Sp)=some true)
  (C0:PySem.W.kitOne K (.ref L6) (.ref L0)=some false)
  (CZ:PySem.W.kitOne K (.ref L6) (.ref L1)=some false)
  (CY:PySem.W.kitOne K (.ref L6) (.ref L2)=some false)
  (CW:PySem.W.kitOne K (.ref L6) (.ref L3)=some false)
  (CV:PySem.W.kitOne K (.ref L6) (.ref L4)=some false)
  (CU:PySem.W.kitOne K (.ref L6) (.ref L5)=some false)
  (CT:PySem.W.kitOne K (.ref L6) (.ref L6)=some true)
  (CS:PySem.W.kitOne K (.ref L6) (.ref L7)=some false)
  (CQ:PySem.W.kitOne K (.ref L6) (.ref L8)=some false)
  (Jg:PySem.W.kitOne K (.ref L6) (.ref Sp)=some true)
  (CP:PySem.W.kitOne K (.ref L7) (.ref L0)=some false)
  (CO:PySem.W.kitOne K (.ref L7) (.ref L1)=some false)
  (CN:PySem.W.kitOne K (.ref L7) (.ref L2)=some false)
  (CM:PySem.W.kitOne K (.ref L7) (.ref L3)=some false)
  (CL:PySem.W.kitOne K (.ref L7) (.ref L4)=some false)
  (CK:PySem.W.kitOne K (.ref L7) (.ref L5)=some false)
  (CJ:PySem.W.kitOne K (.ref L7) (.ref L6)=some false)
  (CI:PySem.W.kitOne K (.ref L7) (.ref L7)=some true)
  (CH:PySem.W.kitOne K (.ref L7) (.ref L8)=some false)
  (Jf:PySem.W.kitOne K (.ref L7) (.ref Sp)=some true)
  (CG:PySem.W.kitOne K (.ref L8) (.ref L0)=some false)
  (CF:PySem.W.kitOne K (.ref L8) (.ref L1)=some false)
  (CD:PySem.W.kitOne K (.ref L8) (.ref L2)=some false)
  (CC:PySem.W.kitOne K (.ref L8) (.ref L3)=some false)
  (CB:PySem.W.kitOne K (.ref L8) (.ref L4)=some false)
  (CA:PySem.W.kitOne K (.ref L8) (.ref L5)=some false)
  (Cw:PySem.W.kitOne K (.ref L8) (.ref L6)=some false)
  (Cv:PySem.W.kitOne K (.ref L8) (.ref L7)=some false)
  (Cu:PySem.W.kitOne K (.ref L8) (.ref L8)=some true)
  (Je:PySem.W.kitOne K (.ref L8) (.ref Sp)=some true)
 :∃ fd:FuncData,(∀ (s:Shared) (v:Value),BindsTo s fd ⟨[v],[]⟩ [("_law_script",v)])∧∀ base:Heap,K.In base→base.Ns mainGlobals mg→bT l.prog w K mg base dX 20 fa fd ["_law_script"] (Ga K):=by
 have e:=hfa.symm.trans (PySem.W.mg_of X G a65)
 cases e
 let Y:Cy:=(⟨⟨Cs,Cc,Ct,Ce,Co⟩,Sp,L0,L1,L2,L3,L4,L5,L6,L7,L8,Hp,Pg⟩:Cy)
 have T:Txt K mg Y.z.s:=⟨⟨KD,MK,Kc,JO⟩,rR,pX,PySem.W.mg_of X G Ss,PySem.W.mg_none_of X G I9,PySem.W.mg_none_of X G I0,PySem.W.mg_none_of X G wG,PySem.W.mg_none_of X G Cq,PySem.W.mg_none_of X G zj,PySem.W.mg_none_of X G n9,PySem.W.mg_none_of X G zk,PySem.W.mg_none_of X G Jd,PySem.W.mg_none_of X G I8,PySem.W.mg_none_of X G Ja,PySem.W.mg_none_of X G Cr,Ez,QN,QM,En,OH K Cs,OG K⟩
 have cl4:∀ j,j < 4→AL K (qK Y.z j):=fun j hj=>match j,hj with
  | 0,_=>⟨KI,MN,Kf,JR⟩
  | 1,_=>⟨KC,MJ,Ka,JN⟩
  | 2,_=>⟨KH,MM,Ke,JQ⟩
  | 3,_=>⟨KG,ML,Kd,JP⟩
 have U:fB K mg Y.z:=⟨cl4,xF,uS,rS,mD,lE,lD,PySem.W.mg_of X G Sw,PySem.W.mg_of X G So,PySem.W.mg_of X G Sv,PySem.W.mg_of X G Su,PySem.W.mg_none_of X G Jc,PySem.W.mg_none_of X G Jb⟩
 have cl9:∀ j,j < 9→AL K (gH Y j):=fun j hj=>match j,hj with
  | 0,_=>⟨Kz,MH,J8,JL⟩
  | 1,_=>⟨Ky,MG,J7,JK⟩
  | 2,_=>⟨Kw,MF,J6,JJ⟩
  | 3,_=>⟨Kv,ME,J5,JI⟩
  | 4,_=>⟨Ku,MD,J4,JH⟩
  | 5,_=>⟨Ks,MC,J3,JG⟩
  | 6,_=>⟨Kr,MB,J2,JF⟩
  | 7,_=>⟨Kq,MA,J1,JE⟩
  | 8,_=>⟨Ko,Mz,J0,JD⟩
 have na9:∀ j x,j < 9→x∈fN j→iz K (gH Y j) x:=by
  intro j x hj hx
  match j,hj,hx with
  | 0,_,hx =>
   rcases List.mem_cons.mp hx with e | hx
   ·rw [e];exact zW
   rcases List.mem_cons.mp hx with e | hx
   ·rw [e];exact uQ
   rcases List.mem_cons.mp hx with e | hx
   ·rw [e];exact rN
   exact nomatch hx
  | 1,_,hx =>
   rcases List.mem_cons.mp hx with e | hx
   ·rw [e];exact zV
   rcases List.mem_cons.mp hx with e | hx
   ·rw [e];exact uP
   rcases List.mem_cons.mp hx with e | hx
   ·rw [e];exact uO
   rcases List.mem_cons.mp hx with e | hx
   ·rw [e];exact rM
   rcases List.mem_cons.mp hx with e | hx
   ·rw [e];exact zU
   exact nomatch hx
  | 2,_,hx =>
   rcases List.mem_cons.mp hx with e | hx
   ·rw [e];exact zT
   rcases List.mem_cons.mp hx with e | hx
   ·rw [e];exact uM
   rcases List.mem_cons.mp hx with e | hx
   ·rw [e];exact xE
   rcases List.mem_cons.mp hx with e | hx
   ·rw [e];exact rK
   exact nomatch hx
  | 3,_,hx =>
   rcases List.mem_cons.mp hx with e | hx
   ·rw [e];exact zS
   rcases List.mem_cons.mp hx with e | hx
   ·rw [e];exact xD
   rcases List.mem_cons.mp hx with e | hx
   ·rw [e];exact rJ
   rcases List.mem_cons.mp hx with e | hx
   ·rw [e];exact rH
   exact nomatch hx
  | 4,_,hx =>
   rcases List.mem_cons.mp hx with e | hx
   ·rw [e];exact zR
   rcases List.mem_cons.mp hx with e | hx
   ·rw [e];exact xC
   rcases List.mem_cons.mp hx with e | hx
   ·rw [e];exact uK
   exact nomatch hx
  | 5,_,hx =>
   rcases List.mem_cons.mp hx with e | hx
   ·rw [e];exact zQ
   rcases List.mem_cons.mp hx with e | hx
   ·rw [e];exact mC
   exact nomatch hx
  | 6,_,hx =>
   rcases List.mem_cons.mp hx with e | hx
   ·rw [e];exact zP
   rcases List.mem_cons.mp hx with e | hx
   ·rw [e];exact rF
   rcases List.mem_cons.mp hx with e | hx
   ·rw [e];exact pV
   rcases List.mem_cons.mp hx with e | hx
   ·rw [e];exact rG
   exact nomatch hx
  | 7,_,hx =>
   rcases List.mem_cons.mp hx with e | hx
   ·rw [e];exact zO
   rcases List.mem_cons.mp hx with e | hx
   ·rw [e];exact mz
   rcases List.mem_cons.mp hx with e | hx
   ·rw [e];exact uJ
   rcases List.mem_cons.mp hx with e | hx
   ·rw [e];exact rE
   exact nomatch hx
  | 8,_,hx =>
   rcases List.mem_cons.mp hx with e | hx
   ·rw [e];exact zN
   rcases List.mem_cons.mp hx with e | hx
   ·rw [e];exact mw
   rcases List.mem_cons.mp hx with e | hx
   ·rw [e];exact rC
   rcases List.mem_cons.mp hx with e | hx
   ·rw [e];exact rD
   rcases List.mem_cons.mp hx with e | hx
   ·rw [e];exact uI
   exact nomatch hx
 have naH:∀ x∈hN,iz K Hp x:=by
  intro x hx
  rcases List.mem_cons.mp hx with e | hx
  ·rw [e];exact zX
  rcases List.mem_cons.mp hx with e | hx
  ·rw [e];exact uR
  rcases List.mem_cons.mp hx with e | hx
  ·rw [e];exact pW
  rcases List.mem_cons.mp hx with e | hx
  ·rw [e];exact oJ
  rcases List.mem_cons.mp hx with e | hx
  ·rw [e];exact rP
  rcases List.mem_cons.mp hx with e | hx
  ·rw [e];exact rQ
  rcases List.mem_cons.mp hx with e | hx
  ·rw [e];exact rO
  exact nomatch hx
 have J:gD K mg Y VB:=⟨cl9,na9,⟨KA,MI,J9,JM⟩,naH,⟨Kn,My,JZ,JC⟩,oH,PySem.W.mg_of X G R7,PySem.W.mg_of X G Sm,PySem.W.mg_of X G Sl,PySem.W.mg_of X G Sk,PySem.W.mg_of X G Sj,PySem.W.mg_of X G Si,PySem.W.mg_of X G Sh,PySem.W.mg_of X G Sg,PySem.W.mg_of X G Se,PySem.W.mg_of X G Sd,PySem.W.mg_of X G Sn,PySem.W.mg_of X G R9,QK,QJ,QL,rfl,Yk⟩
 have W_:Nx K Y:=⟨fun j hj=>match j,hj with
  | 0,_=>Ey
  | 1,_=>Ex
  | 2,_=>Ew
  | 3,_=>Eu
  | 4,_=>Et
  | 5,_=>Es
  | 6,_=>Er
  | 7,_=>Ep
  | 8,_=>Eo
  ,fun j hj=>match j,hj with
  | 0,_=>Em
  | 1,_=>El
  | 2,_=>Ek
  | 3,_=>Ej
  | 4,_=>Ei
  | 5,_=>Eh
  | 6,_=>Eg
  | 7,_=>Ef
  | 8,_=>Ed
  ,fun j i hj hi=>match j,i,hj,hi with
  | 0,0,_,_=>Ec
  | 0,1,_,_=>Eb
  | 0,2,_,_=>Ea
  | 0,3,_,_=>D8
  | 0,4,_,_=>D7
  | 0,5,_,_=>D6
  | 0,6,_,_=>DZ
  | 0,7,_,_=>DY
  | 0,8,_,_=>DX
  | 1,0,_,_=>DW
  | 1,1,_,_=>DV
  | 1,2,_,_=>DU
  | 1,3,_,_=>DT
  | 1,4,_,_=>DS
  | 1,5,_,_=>DR
  | 1,6,_,_=>DQ
  | 1,7,_,_=>DP
  | 1,8,_,_=>DO
  | 2,0,_,_=>DN
  | 2,1,_,_=>DM
  | 2,2,_,_=>DL
  | 2,3,_,_=>DK
  | 2,4,_,_=>DJ
  | 2,5,_,_=>DI
  | 2,6,_,_=>DH
  | 2,7,_,_=>DG
  | 2,8,_,_=>DF
  | 3,0,_,_=>DE
  | 3,1,_,_=>DC
  | 3,2,_,_=>DB
  | 3,3,_,_=>DA
  | 3,4,_,_=>Dz
  | 3,5,_,_=>Dw
  | 3,6,_,_=>Dv
  | 3,7,_,_=>Du
  | 3,8,_,_=>Dt
  | 4,0,_,_=>Ds
  | 4,1,_,_=>Dp
  | 4,2,_,_=>Dl
  | 4,3,_,_=>Dk
  | 4,4,_,_=>Dj
  | 4,5,_,_=>Di
  | 4,6,_,_=>Dh
  | 4,7,_,_=>Dg
  | 4,8,_,_=>De
  | 5,0,_,_=>Dd
  | 5,1,_,_=>C9
  | 5,2,_,_=>C8
  | 5,3,_,_=>C7
  | 5,4,_,_=>C6
  | 5,5,_,_=>C5
  | 5,6,_,_=>C4
  | 5,7,_,_=>C3
  | 5,8,_,_=>C2
  | 6,0,_,_=>C0
  | 6,1,_,_=>CZ
  | 6,2,_,_=>CY
  | 6,3,_,_=>CW
  | 6,4,_,_=>CV
  | 6,5,_,_=>CU
  | 6,6,_,_=>CT
  | 6,7,_,_=>CS
  | 6,8,_,_=>CQ
  | 7,0,_,_=>CP
  | 7,1,_,_=>CO
  | 7,2,_,_=>CN
  | 7,3,_,_=>CM
  | 7,4,_,_=>CL
  | 7,5,_,_=>CK
  | 7,6,_,_=>CJ
  | 7,7,_,_=>CI
  | 7,8,_,_=>CH
  | 8,0,_,_=>CG
  | 8,1,_,_=>CF
  | 8,2,_,_=>CD
  | 8,3,_,_=>CC
  | 8,4,_,_=>CB
  | 8,5,_,_=>CA
  | 8,6,_,_=>Cw
  | 8,7,_,_=>Cv
  | 8,8,_,_=>Cu
  ,fun j hj=>match j,hj with
  | 0,_=>Jm
  | 1,_=>Jl
  | 2,_=>Jk
  | 3,_=>Jj
  | 4,_=>Ji
  | 5,_=>Jh
  | 6,_=>Jg
  | 7,_=>Jf
  | 8,_=>Je
  ⟩
 have N_:FA K Y:=⟨Jp,Jq,Jo⟩
 have F1:=br (st:=xo) l1 c1 k1
 have b1:=F1.binds (ps:=["self","terms","number"]) fun _ _ _ _ _ _ us hl=>match us,hl with | [_,_,_],_=>rfl
 have F2:=br (st:=qS) l2 c2 k2
 have b2:=F2.binds (ps:=["self"]) fun _ _ _ _ _ _ us hl=>match us,hl with | [_],_=>rfl
 have F3:=br (st:=qX) l3 c3 k3
 have b3:=F3.binds (ps:=["self","one","sign","other"]) fun _ _ _ _ _ _ us hl=>match us,hl with | [_,_,_,_],_=>rfl
 have F4:=br (st:=qQ) l4 c4 k4
 have b4:=F4.binds (ps:=["self","condition"]) fun _ _ _ _ _ _ us hl=>match us,hl with | [_,_],_=>rfl
 have F5:=br (st:=j7) l5 c5 k5
 have b5:=F5.binds (ps:=["self","conditions"]) fun _ _ _ _ _ _ us hl=>match us,hl with | [_,_],_=>rfl
 have F6:=br (st:=j7) l6 c6 k6
 have b6:=F6.binds (ps:=["self","conditions"]) fun _ _ _ _ _ _ us hl=>match us,hl with | [_,_],_=>rfl
 have F7:=br (st:=pP) l7 c7 k7
 have b7:=F7.binds (ps:=["self"]) fun _ _ _ _ _ _ us hl=>match us,hl with | [_],_=>rfl
 have F8:=br (st:=pA) l8 c8 k8
 have b8:=F8.binds (ps:=["self"]) fun _ _ _ _ _ _ us hl=>match us,hl with | [_],_=>rfl
 have F9:=br (st:=pN) l9 c9 k9
 have b9:=F9.binds (ps:=["self"]) fun _ _ _ _ _ _ us hl=>match us,hl with | [_],_=>rfl
 have F10:=br (st:=pC) NR c10 YX
 have b10:=F10.binds (ps:=["self"]) fun _ _ _ _ _ _ us hl=>match us,hl with | [_],_=>rfl
 have F11:=br (st:=EJ) RU Xl rZ
 have qA:=F11.binds (ps:=["self","at","name","total"]) fun _ _ _ _ _ _ us hl=>match us,hl with | [_,_,_,_],_=>rfl
 have F12:=br (st:=EM) TU c12 rY
 have BR:=F12.binds (ps:=["self","at","name","word","total","by"]) fun _ _ _ _ _ _ us hl=>match us,hl with | [_,_,_,_,_,_],_=>rfl
 have F13:=br (st:=EL) Vc c13 tO
 have Nt:=F13.binds (ps:=["self","at","name","row","place"]) fun _ _ _ _ _ _ us hl=>match us,hl with | [_,_,_,_,_],_=>rfl
 have F14:=br (st:=EG) Qd c14 Ad
 have Qu:=F14.binds (ps:=["self","at","row","place","total"]) fun _ _ _ _ _ _ us hl=>match us,hl with | [_,_,_,_,_],_=>rfl
 have F15:=br (st:=EI) Vb Xk k15
 have Qt:=F15.binds (ps:=["self","at","row","size"]) fun _ _ _ _ _ _ us hl=>match us,hl with | [_,_,_,_],_=>rfl
 have F16:=br (st:=EN) Va c16 k16
 have b16:=F16.binds (ps:=["self","at","condition"]) fun _ _ _ _ _ _ us hl=>match us,hl with | [_,_,_],_=>rfl
 have F17:=br (st:=EO) U9 c17 k17
 have b17:=F17.binds (ps:=["self","at","names","helper","given"]) fun _ _ _ _ _ _ us hl=>match us,hl with | [_,_,_,_,_],_=>rfl
 have F18:=br (st:=ER) l18 c18 k18
 have b18:=F18.binds (ps:=["self","at","condition","then","other"]) fun _ _ _ _ _ _ us hl=>match us,hl with | [_,_,_,_,_],_=>rfl
 have F19:=br (st:=EF) l19 c19 k19
 have b19:=F19.binds (ps:=["self","at","condition","keeps","falls","body"]) fun _ _ _ _ _ _ us hl=>match us,hl with | [_,_,_,_,_,_],_=>rfl
 have F20:=br (st:=pH) l20 c20 YW
 have b20:=F20.binds (ps:=["self"]) fun _ _ _ _ _ _ us hl=>match us,hl with | [_],_=>rfl
 have F21:=br (st:=pO) l21 c21 YV
 have b21:=F21.binds (ps:=["self"]) fun _ _ _ _ _ _ us hl=>match us,hl with | [_],_=>rfl
 have F22:=br (st:=pM) l22 c22 YU
 have b22:=F22.binds (ps:=["self"]) fun _ _ _ _ _ _ us hl=>match us,hl with | [_],_=>rfl
 have F23:=br (st:=pB) l23 c23 YT
 have b23:=F23.binds (ps:=["self"]) fun _ _ _ _ _ _ us hl=>match us,hl with | [_],_=>rfl
 have F24:=br (st:=pG) l24 c24 YS
 have b24:=F24.binds (ps:=["self"]) fun _ _ _ _ _ _ us hl=>match us,hl with | [_],_=>rfl
 have F25:=br (st:=m6) l25 c25 YR
 have b25:=F25.binds (ps:=["self"]) fun _ _ _ _ _ _ us hl=>match us,hl with | [_],_=>rfl
 have F26:=br (st:=m7) l26 c26 YQ
 have b26:=F26.binds (ps:=["self"]) fun _ _ _ _ _ _ us hl=>match us,hl with | [_],_=>rfl
 have F27:=br (st:=m8) l27 c27 YO
 have b27:=F27.binds (ps:=["self"]) fun _ _ _ _ _ _ us hl=>match us,hl with | [_],_=>rfl
 have F28:=br (st:=mZ) l28 c28 YN
 have b28:=F28.binds (ps:=["self"]) fun _ _ _ _ _ _ us hl=>match us,hl with | [_],_=>rfl
 have F29:=br (st:=EK) l29 c29 k29
 have b29:=F29.binds (ps:=["self","at","name","params","answers","needs","gives","steps"]) fun _ _ _ _ _ _ us hl=>match us,hl with | [_,_,_,_,_,_,_,_],_=>rfl
 have F30:=br (st:=EH) l30 c30 k30
 have b30:=F30.binds (ps:=["self","helpers"]) fun _ _ _ _ _ _ us hl=>match us,hl with | [_,_],_=>rfl
 have F31:=br (st:=qW) l31 c31 YM
 have b31:=F31.binds (ps:=["self"]) fun _ _ _ _ _ _ us hl=>match us,hl with | [_],_=>rfl
 have F32:=br (st:=oq) l32 c32 YL
 have b32:=F32.binds (ps:=["self"]) fun _ _ _ _ _ _ us hl=>match us,hl with | [_],_=>rfl
 have F33:=br (st:=qT) l33 c33 YK
 have b33:=F33.binds (ps:=["self","name"]) fun _ _ _ _ _ _ us hl=>match us,hl with | [_,_],_=>rfl
 have F34:=br (st:=qR) l34 c34 YJ
 have b34:=F34.binds (ps:=["pairs","number"]) fun _ _ _ _ _ _ us hl=>match us,hl with | [_,_],_=>rfl
 have F35:=br (st:=ES) l35 c35 YI
 have b35:=F35.binds (ps:=["pairs"]) fun _ _ _ _ _ _ us hl=>match us,hl with | [_],_=>rfl
 have XD:=br (st:=vW) l36 c36 R0
 have ZO:=XD.binds (ps:=["parts"]) fun _ _ _ _ _ _ us hl=>match us,hl with | [_],_=>rfl
 have F37:=br (st:=ED) l37 c37 YH
 have b37:=F37.binds (ps:=["pairs"]) fun _ _ _ _ _ _ us hl=>match us,hl with | [_],_=>rfl
 have F38:=br (st:=qU) l38 c38 YG
 have b38:=F38.binds (ps:=["_law_cell","_law_k"]) fun _ _ _ _ _ _ us hl=>match us,hl with | [_,_],_=>rfl
 have F39:=br (st:=oB) l39 c39 YF
 have b39:=F39.binds (ps:=["_law_script","_law_k"]) fun _ _ _ _ _ _ us hl=>match us,hl with | [_,_],_=>rfl
 have F40:=br (st:=w5) l40 c40 YE
 have b40:=F40.binds (ps:=["_law_draw","_law_size"]) fun _ _ _ _ _ _ us hl=>match us,hl with | [_,_],_=>rfl
 have F41:=br (st:=sX) l41 c41 YD
 have Qs:=F41.binds (ps:=[]) fun _ _ _ _ _ _ us hl=>match us,hl with | [],_=>rfl
 have F42:=br (st:=pF) l42 c42 YC
 have Qq:=F42.binds (ps:=["_law_draw","_law_many"]) fun _ _ _ _ _ _ us hl=>match us,hl with | [_,_],_=>rfl
 have F43:=br (st:=w6) l43 c43 YB
 have ZN:=F43.binds (ps:=["_law_draw","_law_things"]) fun _ _ _ _ _ _ us hl=>match us,hl with | [_,_],_=>rfl
 have F44:=br (st:=pJ) TR c44 YA
 have ZM:=F44.binds (ps:=["_law_draw","_law_things","_law_deep"]) fun _ _ _ _ _ _ us hl=>match us,hl with | [_,_,_],_=>rfl
 have F45:=br (st:=xh) l45 Xj Yz
 have ZL:=F45.binds (ps:=["_law_conditions","_law_draw"]) fun _ _ _ _ _ _ us hl=>match us,hl with | [_,_],_=>rfl
 have F46:=br (st:=vD) l46 c46 Vh
 have b46:=F46.binds (ps:=["_law_steps_here","_law_draw"]) fun _ _ _ _ _ _ us hl=>match us,hl with | [_,_],_=>rfl
 have F47:=br (st:=A8) l47 c47 RZ
 have b47:=F47.binds (ps:=["_law_step_here","_law_draw"]) fun _ _ _ _ _ _ us hl=>match us,hl with | [_,_],_=>rfl
 have F48:=br (st:=xj) l48 c48 Yy
 have b48:=F48.binds (ps:=["_law_helper_here","_law_draw"]) fun _ _ _ _ _ _ us hl=>match us,hl with | [_,_],_=>rfl
 have F49:=br (st:=ou) l49 c49 Yx
 have b49:=F49.binds (ps:=["_law_one"]) fun _ _ _ _ _ _ us hl=>match us,hl with | [_],_=>rfl
 have F50:=br (st:=m5) l50 c50 Yw
 have b50:=F50.binds (ps:=["_law_told"]) fun _ _ _ _ _ _ us hl=>match us,hl with | [_],_=>rfl
 have F51:=br (st:=xg) l51 c51 Yv
 have b51:=F51.binds (ps:=["_law_pairs"]) fun _ _ _ _ _ _ us hl=>match us,hl with | [_],_=>rfl
 have F52:=br (st:=pI) l52 c52 Vg
 have b52:=F52.binds (ps:=["_law_steps_here"]) fun _ _ _ _ _ _ us hl=>match us,hl with | [_],_=>rfl
 have F53:=br (st:=vC) l53 c53 Yu
 have b53:=F53.binds (ps:=["_law_told"]) fun _ _ _ _ _ _ us hl=>match us,hl with | [_],_=>rfl
 have F54:=br (st:=xm) l54 c54 Yt
 have b54:=F54.binds (ps:=["_law_told"]) fun _ _ _ _ _ _ us hl=>match us,hl with | [_],_=>rfl
 have F55:=br (st:=ow) l55 c55 Ys
 have b55:=F55.binds (ps:=["_law_helpers"]) fun _ _ _ _ _ _ us hl=>match us,hl with | [_],_=>rfl
 have F56:=br (st:=kU) l56 c56 Vf
 have b56:=F56.binds (ps:=["_law_draw","_law_own","_law_many","_law_deep","_law_helpers"]) fun _ _ _ _ _ _ us hl=>match us,hl with | [_,_,_,_,_],_=>rfl
 have F57:=br (st:=oz) l57 c57 Yr
 have b57:=F57.binds (ps:=["_law_draw","_law_own","_law_helper_here"]) fun _ _ _ _ _ _ us hl=>match us,hl with | [_,_,_],_=>rfl
 have F58:=br (st:=cN) l58 c58 Yq
 have b58:=F58.binds (ps:=["_law_draw","_law_own","_law_deep","_law_helpers"]) fun _ _ _ _ _ _ us hl=>match us,hl with | [_,_,_,_],_=>rfl
 have F59:=br (st:=lZ) l59 c59 Yp
 have b59:=F59.binds (ps:=["_law_draw","_law_name","_law_names_here","_law_many","_law_helpers"]) fun _ _ _ _ _ _ us hl=>match us,hl with | [_,_,_,_,_],_=>rfl
 have F60:=br (st:=qV) l60 c60 Yo
 have b60:=F60.binds (ps:=["_law_draw","_law_many"]) fun _ _ _ _ _ _ us hl=>match us,hl with | [_,_],_=>rfl
 have F61:=br (st:=fM) l61 c61 Yn
 have b61:=F61.binds (ps:=["_law_step_here","_law_told"]) fun _ _ _ _ _ _ us hl=>match us,hl with | [_,_],_=>rfl
 have F62:=br (st:=pK) l62 c62 Ym
 have b62:=F62.binds (ps:=["_law_step_here","_law_told"]) fun _ _ _ _ _ _ us hl=>match us,hl with | [_,_],_=>rfl
 have F63:=br (st:=pL) l63 c63 Ve
 have b63:=F63.binds (ps:=["_law_steps_here","_law_told"]) fun _ _ _ _ _ _ us hl=>match us,hl with | [_,_],_=>rfl
 have F64:=br (st:=mh) l64 c64 Yl
 have b64:=F64.binds (ps:=["_law_helper_here","_law_told"]) fun _ _ _ _ _ _ us hl=>match us,hl with | [_,_],_=>rfl
 have F65:=br (st:=nF) l65 c65 k65
 have F66:=br (st:=EE) l66 c66 Yk
 have b66:=F66.binds (ps:=["self","at"]) fun _ _ _ _ _ _ us hl=>match us,hl with | [_,_],_=>rfl
 refine ⟨PySem.W.fnOf "law" "law" (aL nF) (au nF) (ak nF) .none Vd V7 UJ Xo S6 Wf,fun s v=>.of_eq rfl,fun base _ _=>?_⟩
 have Tv:Mr l.prog w K mg base 1 Y.z.s ["self","terms","number"] (EB Y.z.s):=⟨f1,_,Ot F1 T,⟨LG,a1,i1,Ml⟩,b1⟩
 have NH:Dn l.prog w K mg base 3 "sum_of" ["pairs","number"] (zo Y.z.s):=⟨Zx,_,Ht F34 T Tv,PySem.W.mg_of X G a34,YJ,b34⟩
 have AK:Mt l.prog w K mg base 1 Y.z.s "told" ["self"] (ly Y.z.s):=⟨f2,_,KS (n:=0) F2 T U ,⟨a2,i2,k2⟩,b2⟩
 have PC:Mr l.prog w K mg base 1 Y.z.c ["self","one","sign","other"] (wm Y.z):=⟨f3,_,Lm (n:=0) F3 T U ,⟨LJ,a3,i3,Mp⟩,b3⟩
 have Pq:Mr l.prog w K mg base 1 Y.z.t ["self","condition"] (wg Y.z):=⟨f4,_,KR (n:=0) F4 T U ,⟨LF,a4,i4,Mj⟩,b4⟩
 have Pz:Mr l.prog w K mg base 1 Y.z.e ["self","conditions"] (mT Y.z.e):=⟨f5,_,Lh (n:=0) F5 T U ,⟨LI,a5,i5,Mn⟩,b5⟩
 have Pw:Mr l.prog w K mg base 1 Y.z.o ["self","conditions"] (mT Y.z.o):=⟨f6,_,K4 (n:=0) F6 T U ,⟨LH,a6,i6,Mm⟩,b6⟩
 have ug:=Iv (P:=l.prog) (w:=w) (base:=base) (Z:=Y.z) T U F7 ⟨a7,i7,k7⟩ b7 F8 ⟨a8,i8,k8⟩ b8 F9 ⟨a9,i9,k9⟩ b9 F10 ⟨a10,i10,YX⟩ b10 AK
 have ud:∃ fd,bT l.prog w K mg base dX 1 VB fd ["self","at"] (o4 Y)∧Binds K fd ["self","at"] []:=⟨_,Rp (n:=0) F66 T U J ,b66⟩
 have QE:Dn l.prog w K mg base 1 "as_pairs" ["pairs"] Gg:=⟨Zw,_,RI (n:=0) F35 T U J ,PySem.W.mg_of X G a35,YI,b35⟩
 have XM:Mr l.prog w K mg base 2 Y.lt ["self","at","name","total"] (vz Y 0):=⟨VP,_,Ry (n:=0) F11 T U J ud,⟨LC,a11,i11,Mh⟩,qA⟩
 have XQ:Mr l.prog w K mg base 2 Y.dv ["self","at","name","word","total","by"] (Gb Y 1):=⟨VO,_,RD (n:=0) F12 T U J ud,⟨LB,a12,i12,Mg⟩,BR⟩
 have XO:Mr l.prog w K mg base 2 Y.ft ["self","at","name","row","place"] (vv Y 2):=⟨VN,_,RC (n:=0) F13 T U J ud,⟨LA,a13,i13,Mf⟩,Nt⟩
 have XH:Mr l.prog w K mg base 2 Y.pt ["self","at","row","place","total"] (vv Y 3):=⟨VM,_,Rr (n:=0) F14 T U J ud,⟨Lz,a14,i14,Me⟩,Qu⟩
 have XJ:Mr l.prog w K mg base 2 Y.mq ["self","at","row","size"] (vz Y 4):=⟨VL,_,Rx (n:=0) F15 T U J ud,⟨Ly,a15,i15,Mc⟩,Qt⟩
 have QC:Mr l.prog w K mg base 2 Y.cm ["self","at","condition"] (qF Y 5):=⟨VJ,_,RE (n:=0) F16 T U J ud,⟨Lx,a16,i16,Mb⟩,b16⟩
 have XR:Mr l.prog w K mg base 2 Y.cl ["self","at","names","helper","given"] (Ge Y):=⟨VI,_,RG (n:=0) F17 T U J ud,⟨Lw,a17,i17,Ma⟩,b17⟩
 have QD:Mr l.prog w K mg base 2 Y.ch ["self","at","condition","then","other"] (qG Y):=⟨VH,_,RH (n:=0) F18 T U J ud,⟨Lv,a18,i18,LZ⟩,b18⟩
 have QB:Mr l.prog w K mg base 2 Y.rp ["self","at","condition","keeps","falls","body"] (qE Y):=⟨VG,_,Rq (n:=0) F19 T U J ud QE,⟨Lu,a19,i19,LY⟩,b19⟩
 have XN:Mr l.prog w K mg base 2 Y.hp ["self","at","name","params","answers","needs","gives","steps"] (Jy Y):=⟨VF,_,RA (n:=0) F29 T U J QE,⟨LD,a29,i29,Mi⟩,b29⟩
 have XI:Mr l.prog w K mg base 1 Y.pg ["self","helpers"] (vp Y):=⟨VE,_,Rw (n:=0) F30 T U J ,⟨Lr,a30,i30,LX⟩,b30⟩
 have XF:Dn l.prog w K mg base 2 "told_each" ["parts"] (FY Y.z):=⟨T6,_,Rl (n:=0) XD T U J AK,PySem.W.mg_of X G Ub,R0,ZO⟩
 have QA:Dn l.prog w K mg base 5 "told_pairs" ["pairs"] (AY Y.z):=⟨Zv,_,Rk (n:=0) F37 T U J (ug 3),PySem.W.mg_of X G a37,YH,b37⟩
 have um:=Ip (P:=l.prog) (w:=w) (base:=base) (Y:=Y) T U J F20 ⟨a20,i20,YW⟩ b20 F21 ⟨a21,i21,YV⟩ b21 F22 ⟨a22,i22,YU⟩ b22 F23 ⟨a23,i23,YT⟩ b23 F24 ⟨a24,i24,YS⟩ b24 F25 ⟨a25,i25,YR⟩ b25 F26 ⟨a26,i26,YQ⟩ b26 F27 ⟨a27,i27,YO⟩ b27 F28 ⟨a28,i28,YN⟩ b28 XD (PySem.W.mg_of X G Ub) R0 ZO AK (ug 3) XF QA
 have Tz:Dn l.prog w K mg base 13 "told_each" ["parts"] (AZ Y 3):=⟨T6,_,EX (n:=3) XD T U J (um 3),PySem.W.mg_of X G Ub,R0,ZO⟩
 have Hj:Mt l.prog w K mg base 15 Y.hp "told" ["self"] (wk Y):=⟨VD,_,Ld (n:=0) F31 T U J QA Tz,⟨a31,i31,YM⟩,b31⟩
 have XG:Dn l.prog w K mg base 16 "told_each" ["parts"] (Jw Y):=⟨T6,_,Rm (n:=0) XD T U J Hj,PySem.W.mg_of X G Ub,R0,ZO⟩
 have NI:Mt l.prog w K mg base 17 Y.pg "told" ["self"] (mU Y):=⟨f32,_,Hv (n:=0) F32 T U J XG,⟨a32,i32,YL⟩,b32⟩
 have Py:Mt l.prog w K mg base 1 Y.pg "named" ["self","name"] (mV Y):=⟨VC,_,K6 (n:=0) F33 T U J ,⟨a33,i33,YK⟩,b33⟩
 have Hi:Dn l.prog w K mg base 1 "_law_mixed" ["_law_cell","_law_k"] wj:=⟨Zu,_,K8 (n:=0) F38 T U J ,PySem.W.mg_of X G a38,YG,b38⟩
 have ID:Dn l.prog w K mg base 2 "_law_cell_at" ["_law_script","_law_k"] (o7 K):=⟨Zt,_,EZ (n:=0) F39 T U J Hi,PySem.W.mg_of X G a39,YF,b39⟩
 have nM:Dn l.prog w K mg base 2 "_law_next" ["_law_draw","_law_size"] eS:=⟨Zs,_,Om (n:=0) F40 T U J Hi,PySem.W.mg_of X G a40,YE,b40⟩
 have Tu:Dn l.prog w K mg base 1 "_law_kept" [] zp:=⟨Zr,_,Oq (n:=0) F41 T U J ,PySem.W.mg_of X G a41,YD,Qs⟩
 have Px:Dn l.prog w K mg base 3 "_law_names" ["_law_draw","_law_many"] wQ:=⟨Zq,_,K5 (n:=0) F42 T U J nM Tu,PySem.W.mg_of X G a42,YC,Qq⟩
 have FI:Dn l.prog w K mg base 3 "_law_sum" ["_law_draw","_law_things"] iJ:=⟨Zp,_,Oo (n:=0) F43 T U J nM,PySem.W.mg_of X G a43,YB,ZN⟩
 have xZ:=Ir (P:=l.prog) (w:=w) (base:=base) (Y:=Y) T U J F44 (PySem.W.mg_of X G a44) YA ZM nM FI
 have qu:Dn l.prog w K mg base 3 "_law_pairs_placed" ["_law_conditions","_law_draw"] A2:=⟨Zo,_,Ru (n:=0) F45 T U J nM,PySem.W.mg_of X G a45,Yz,ZL⟩
 have IG:=Fw (P:=l.prog) (w:=w) (base:=base) (Y:=Y) T U J F47 (PySem.W.mg_of X G a47) RZ b47 F46 (PySem.W.mg_of X G ZS) Vh b46 nM qu
 have yF:Dn l.prog w K mg base 12 "_law_all_placed" ["_law_steps_here","_law_draw"] (FZ 3):=⟨Zn,_,KZ (n:=3) F46 T U J (IG 3),PySem.W.mg_of X G ZS,Vh,b46⟩
 have wc:Dn l.prog w K mg base 13 "_law_helper_placed" ["_law_helper_here","_law_draw"] vo:=⟨Zm,_,Rv (n:=0) F48 T U J nM qu yF,PySem.W.mg_of X G a48,Yy,b48⟩
 have xV:Dn l.prog w K mg base 4 "_law_sum_made" ["_law_one"] (qv Y.z):=⟨Zl,_,KU (n:=0) F49 T U J NH,PySem.W.mg_of X G a49,Yx,b49⟩
 have xY:=Iq (P:=l.prog) (w:=w) (base:=base) (Y:=Y) T U J F50 (PySem.W.mg_of X G a50) Yw b50 xV PC Pq Pz Pw
 have ue:Dn l.prog w K mg base 9 "_law_pairs_made" ["_law_pairs"] (sM Y.z):=⟨Zk,_,Rt (n:=0) F51 T U J (xY 3),PySem.W.mg_of X G a51,Yv,b51⟩
 have AM:=yx (P:=l.prog) (w:=w) (base:=base) (Y:=Y) T U J F53 (PySem.W.mg_of X G a53) Yu b53 F52 (PySem.W.mg_of X G ZR) Vg b52 xV (xY 3) ue XM XQ XO XH XJ QC XR QD QB
 have qM:Dn l.prog w K mg base 16 "_law_steps_made" ["_law_steps_here"] (nE Y 3):=⟨Zj,_,Gq (n:=3) F52 T U J (AM 3),PySem.W.mg_of X G ZR,Vg,b52⟩
 have yE:Dn l.prog w K mg base 17 "_law_helper_made" ["_law_told"] (vq Y):=⟨Zi,_,RB (n:=0) F54 T U J qM ue XN,PySem.W.mg_of X G a54,Yt,b54⟩
 have Pu:Dn l.prog w K mg base 1 "_law_plain" ["_law_helpers"] ig:=⟨Zh,_,K0 (n:=0) F55 T U J ,PySem.W.mg_of X G a55,Ys,b55⟩
 have Tw:Dn l.prog w K mg base 4 "_law_call" ["_law_draw","_law_own","_law_helper_here"] ir:=⟨Zf,_,Lk (n:=0) F57 T U J nM FI,PySem.W.mg_of X G a57,Yr,b57⟩
 have NN:=Iu (P:=l.prog) (w:=w) (base:=base) (Y:=Y) T U J F58 (PySem.W.mg_of X G a58) Yq b58 F56 (PySem.W.mg_of X G ZQ) Vf b56 nM FI (xZ 2) Pu Tw
 have NK:Dn l.prog w K mg base 13 "_law_steps" ["_law_draw","_law_own","_law_many","_law_deep","_law_helpers"] (fL 3):=⟨Zg,_,yR (n:=3) F56 T U J (NN 3),PySem.W.mg_of X G ZQ,Vf,b56⟩
 have NJ:Dn l.prog w K mg base 14 "_law_helper" ["_law_draw","_law_name","_law_names_here","_law_many","_law_helpers"] uw:=⟨Ze,_,Hx (n:=0) F59 T U J nM (xZ 2) NK,PySem.W.mg_of X G a59,Yp,b59⟩
 have IC:Dn l.prog w K mg base 15 "_law_program" ["_law_draw","_law_many"] mW:=⟨Zd,_,EY (n:=0) F60 T U J Px nM NJ,PySem.W.mg_of X G a60,Yo,b60⟩
 have II:=Fx (P:=l.prog) (w:=w) (base:=base) (Y:=Y) T U J F61 (PySem.W.mg_of X G a61) Yn b61 F62 (PySem.W.mg_of X G a62) Ym b62 F63 (PySem.W.mg_of X G ZP) Ve b63 um W_ (ug 3)
 have yG:Dn l.prog w K mg base 17 "_law_all_fields" ["_law_steps_here","_law_told"] (zq Y 3):=⟨Zc,_,Gr (n:=3) F63 T U J (um 3) (II 3),PySem.W.mg_of X G ZP,Ve,b63⟩
 have xW:Dn l.prog w K mg base 18 "_law_helper_right" ["_law_helper_here","_law_told"] (kR Y):=⟨f64,_,Hy (n:=0) F64 T U J Hj (ug 3) yG,PySem.W.mg_of X G a64,Yl,b64⟩
 exact Rz F65 T U J N_ ID IC wc yE XI qM (xZ 2) (xY 3) QD QB QC NI (um 4) (ug 3) xW Py
theorem walk {l:PySem.W.OpenLaw} {q:Program} {loose:List Str} {XP:(Str→Option Value)→Heap→Prop} {YP:World→Heap→Prop} {d:DefRec} {K:Params→PySem.W.Frag} (hn:l.most=some 63) (hdf:d.params.defaults=[])
  (hY:∀ (w:World) (h:Heap),YP w h→(K w.params).In h)
  (F:∀ (w:World) (mg:Str→Option Value) (fa:Addr) (h:Heap),(K w.params).In h→h.Ns mainGlobals mg→mg d.name=some (.ref fa) →
   ∃ fd:FuncData,(∀ (s:Shared) (u:Value),BindsTo s fd ⟨[u],[]⟩ [("_law_script",u)])∧∀ base:Heap,(K w.params).In base→base.Ns mainGlobals mg→bT l.prog w (K w.params) mg base dX 20 fa fd ["_law_script"] (Ga (K w.params))) :
  PySem.W.WalkO q loose XP YP l.row.toRowW d [] (fun f vs=>PySem.call f vs) :=
 L2.N2 (n:=63) (k:=20) (x:="_law_script") (CX:=fun _=>dX) (sp:=fun w=>Ga (K w.params)) hn (by decide) hdf ⟨rfl,by decide,by decide⟩ hY F (fun _ _ a ns hl _ hS=>⟨a,ns,rfl,hS,hl,fun _=>rfl⟩) fun _ _ _ _ _ z=>z
end Hw
open PySem PySem.W PyProof.Rows
def PySem.W.Fast.tw7231374600123502611:Nat:=0
def PySem.W.Fast.tw9684419435098165391:Nat:=0
def PySem.W.Fast.tw12671720419495064655:Nat:=0
def PySem.W.Fast.tw11903855453015902217:Nat:=0
def PySem.W.Fast.tw12644754540347790218:Nat:=0
def PySem.W.Fast.tw12371020964406607756:Nat:=0
def PySem.W.Fast.tw1967951695928030514:Nat:=0
def PySem.W.Fast.tw8378059689782881359:Nat:=0
def PySem.W.Fast.tw9631086873373084896:Nat:=0
def PySem.W.Fast.tw3884815670206301124:Nat:=0
def PySem.W.Fast.tw5973943226868488641:Nat:=0
def PySem.W.Fast.tw14541958311226681391:Nat:=0
def PySem.W.Fast.tw13159964969673099187:Nat:=0
def PySem.W.Fast.tw544493253274393295:Nat:=0
def PySem.W.Fast.tw14676757770015481051:Nat:=0
def PySem.W.Fast.tw5656922960083688271:Nat:=0
def PySem.W.Fast.tw122955048794153844:Nat:=0
def PySem.W.Fast.tw4306169489468652016:Nat:=0
def PySem.W.Fast.tw4149638909333879707:Nat:=0
def PySem.W.Fast.tw16623928492932864406:Nat:=0
def PySem.W.Fast.tw11570386171366246089:Nat:=0
def PySem.W.Fast.tw16407557076165021260:Nat:=0
def PySem.W.Fast.tw15362135959080404502:Nat:=0
def PySem.W.Fast.tw7065488475402606761:Nat:=0
def PySem.W.Fast.tw15518333837579309834:Nat:=0
def PySem.W.Fast.tw16290604657341393070:Nat:=0
def PySem.W.Fast.tw17933792281133683516:Nat:=0
def PySem.W.Fast.tw15713453469726680266:Nat:=0
def PySem.W.Fast.tw4471399425355440553:Nat:=0
def PySem.W.Fast.tw8821979691208286608:Nat:=0
def PySem.W.Fast.tw8886209424713321234:Nat:=0
def PySem.W.Fast.tw5274685979718747935:Nat:=0
def PySem.W.Fast.tw835496251568363230:Nat:=0
def PySem.W.Fast.tw2479975063164503433:Nat:=0
set_option maxRecDepth 100000 in
set_option maxHeartbeats 0 in
theorem PySem.Challenge.cw_holdwright_k10_steps_tell_holds : PySem.Challenge.rw_holdwright_k10_steps_tell.Holds := by
 w_on;o_law;k_head;(case hw=>w_witness2)
 k_fill
 refine Hw.walk (l:=PySem.Challenge.rw_holdwright_k10_steps_tell) rfl rfl (fun w h Y=>PySem.W.kIn_of Y) ?F
 case F =>
  intro w mg fa h KX G hmg
  refine' Hw.all_mk KX G hmg ?Ss ?KD ?MK ?Kc ?JO ?LG ?Ml ?Sw ?KI ?MN ?Kf ?JR ?LJ ?Mp ?So ?KC ?MJ ?Ka ?JN ?LF ?Mj ?Sv ?KH ?MM ?Ke ?JQ ?LI ?Mn ?Su ?KG ?ML ?Kd ?JP ?LH ?Mm ?Sm ?Kz ?MH ?J8 ?JL ?LC ?Mh ?Sl ?Ky ?MG ?J7 ?JK ?LB ?Mg ?Sk ?Kw ?MF ?J6 ?JJ ?LA ?Mf ?Sj ?Kv ?ME ?J5 ?JI ?Lz ?Me ?Si ?Ku ?MD ?J4 ?JH ?Ly ?Mc ?Sh ?Ks ?MC ?J3 ?JG ?Lx ?Mb ?Sg ?Kr ?MB ?J2 ?JF ?Lw ?Ma ?Se ?Kq ?MA ?J1 ?JE ?Lv ?LZ ?Sd ?Ko ?Mz ?J0 ?JD ?Lu ?LY ?Sn ?KA ?MI ?J9 ?JM ?LD ?Mi ?R9 ?Kn ?My ?JZ ?JC ?Lr ?LX ?R7 ?QL ?QK ?QJ ?a1 ?i1 ?l1 ?c1 ?k1 ?a2 ?i2 ?l2 ?c2 ?k2 ?a3 ?i3 ?l3 ?c3 ?k3 ?a4 ?i4 ?l4 ?c4 ?k4 ?a5 ?i5 ?l5 ?c5 ?k5 ?a6 ?i6 ?l6 ?c6 ?k6 ?a7 ?i7 ?l7 ?c7 ?k7 ?a8 ?i8 ?l8 ?c8 ?k8 ?a9 ?i9 ?l9 ?c9 ?k9 ?a10 ?i10 ?NR ?c10 ?YX ?a11 ?i11 ?RU ?Xl ?rZ ?a12 ?i12 ?TU ?c12 ?rY ?a13 ?i13 ?Vc ?c13 ?tO ?a14 ?i14 ?Qd ?c14 ?Ad ?a15 ?i15 ?Vb ?Xk ?k15 ?a16 ?i16 ?Va ?c16 ?k16 ?a17 ?i17 ?U9 ?c17 ?k17 ?a18 ?i18 ?l18 ?c18 ?k18 ?a19 ?i19 ?l19 ?c19 ?k19 ?a20 ?i20 ?l20 ?c20 ?YW ?a21 ?i21 ?l21 ?c21 ?YV ?a22 ?i22 ?l22 ?c22 ?YU ?a23 ?i23 ?l23 ?c23 ?YT ?a24 ?i24 ?l24 ?c24 ?YS ?a25 ?i25 ?l25 ?c25 ?YR ?a26 ?i26 ?l26 ?c26 ?YQ ?a27 ?i27 ?l27 ?c27 ?YO ?a28 ?i28 ?l28 ?c28 ?YN ?a29 ?i29 ?l29 ?c29 ?k29 ?a30 ?i30 ?l30 ?c30 ?k30 ?a31 ?i31 ?l31 ?c31 ?YM ?a32 ?i32 ?l32 ?c32 ?YL ?a33 ?i33 ?l33 ?c33 ?YK ?a34 ?l34 ?c34 ?YJ ?a35 ?l35 ?c35 ?YI ?Ub ?l36 ?c36 ?R0 ?a37 ?l37 ?c37 ?YH ?a38 ?l38 ?c38 ?YG ?a39 ?l39 ?c39 ?YF ?a40 ?l40 ?c40 ?YE ?a41 ?l41 ?c41 ?YD ?a42 ?l42 ?c42 ?YC ?a43 ?l43 ?c43 ?YB ?a44 ?TR ?c44 ?YA ?a45 ?l45 ?Xj ?Yz ?ZS ?l46 ?c46 ?Vh ?a47 ?l47 ?c47 ?RZ ?a48 ?l48 ?c48 ?Yy ?a49 ?l49 ?c49 ?Yx ?a50 ?l50 ?c50 ?Yw ?a51 ?l51 ?c51 ?Yv ?ZR ?l52 ?c52 ?Vg ?a53 ?l53 ?c53 ?Yu ?a54 ?l54 ?c54 ?Yt ?a55 ?l55 ?c55 ?Ys ?ZQ ?l56 ?c56 ?Vf ?a57 ?l57 ?c57 ?Yr ?a58 ?l58 ?c58 ?Yq ?a59 ?l59 ?c59 ?Yp ?a60 ?l60 ?c60 ?Yo ?a61 ?l61 ?c61 ?Yn ?a62 ?l62 ?c62 ?Ym ?ZP ?l63 ?c63 ?Ve ?a64 ?l64 ?c64 ?Yl ?a65 ?l65 ?c65 ?k65 ?l66 ?c66 ?Yk ?rR ?pX ?xF ?uS ?rS ?mD ?lE ?lD ?zW ?uQ ?rN ?zV ?uP ?uO ?rM ?zU ?zT ?uM ?xE ?rK ?zS ?xD ?rJ ?rH ?zR ?xC ?uK ?zQ ?mC ?zP ?rF ?pV ?rG ?zO ?mz ?uJ ?rE ?zN ?mw ?rC ?rD ?uI ?zX ?uR ?pW ?oJ ?rP ?rQ ?rO ?oH ?I9 ?I0 ?wG ?Cq ?zj ?n9 ?zk ?Jd ?I8 ?Ja ?Cr ?Jc ?Jb ?QN ?QM ?Ez ?En ?Ey ?Em ?Ex ?El ?Ew ?Ek ?Eu ?Ej ?Et ?Ei ?Es ?Eh ?Er ?Eg ?Ep ?Ef ?Eo ?Ed ?Jp ?Jq ?Jo ?Ec ?Eb ?Ea ?D8 ?D7 ?D6 ?DZ ?DY ?DX ?Jm ?DW ?DV ?DU ?DT ?DS ?DR ?DQ ?DP ?DO ?Jl ?DN ?DM ?DL ?DK ?DJ ?DI ?DH ?DG ?DF ?Jk ?DE ?DC ?DB ?DA ?Dz ?Dw ?Dv ?Du ?Dt ?Jj ?Ds ?Dp ?Dl ?Dk ?Dj ?Di ?Dh ?Dg ?De ?Ji ?Dd ?C9 ?C8 ?C7 ?C6 ?C5 ?C4 ?C3 ?C2 ?Jh ?C0 ?CZ ?CY ?CW ?CV ?CU ?CT ?CS ?CQ ?Jg ?CP ?CO ?CN ?CM ?CL ?CK ?CJ ?CI ?CH ?Jf ?CG ?CF ?CD ?CC ?CB ?CA ?Cw ?Cv ?Cu ?Je
  (case Ss=>k_is)
  (case Sw=>k_is)
  (case So=>k_is)
  (case Sv=>k_is)
  (case Su=>k_is)
  (case Sm=>k_is)
  (case Sl=>k_is)
  (case Sk=>k_is)
  (case Sj=>k_is)
  (case Si=>k_is)
  (case Sh=>k_is)
  (case Sg=>k_is)
  (case Se=>k_is)
  (case Sd=>k_is)
  (case Sn=>k_is)
  (case R9=>k_is)
  (case R7=>k_is)
  (case QL=>k_is)
  (case KD=>k_is)
  (case MK=>k_is)
  (case Kc=>k_is)
  (case JO=>k_is)
  (case LG=>k_is)
  (case Ml=>k_is)
  (case KI=>k_is)
  (case MN=>k_is)
  (case Kf=>k_is)
  (case JR=>k_is)
  (case LJ=>k_is)
  (case Mp=>k_is)
  (case KC=>k_is)
  (case MJ=>k_is)
  (case Ka=>k_is)
  (case JN=>k_is)
  (case LF=>k_is)
  (case Mj=>k_is)
  (case KH=>k_is)
  (case MM=>k_is)
  (case Ke=>k_is)
  (case JQ=>k_is)
  (case LI=>k_is)
  (case Mn=>k_is)
  (case KG=>k_is)
  (case ML=>k_is)
  (case Kd=>k_is)
  (case JP=>k_is)
  (case LH=>k_is)
  (case Mm=>k_is)
  (case Kz=>k_is)
  (case MH=>k_is)
  (case J8=>k_is)
  (case JL=>k_is)
  (case LC=>k_is)
  (case Mh=>k_is)
  (case Ky=>k_is)
  (case MG=>k_is)
  (case J7=>k_is)
  (case JK=>k_is)
  (case LB=>k_is)
  (case Mg=>k_is)
  (case Kw=>k_is)
  (case MF=>k_is)
  (case J6=>k_is)
  (case JJ=>k_is)
  (case LA=>k_is)
  (case Mf=>k_is)
  (case Kv=>k_is)
  (case ME=>k_is)
  (case J5=>k_is)
  (case JI=>k_is)
  (case Lz=>k_is)
  (case Me=>k_is)
  (case Ku=>k_is)
  (case MD=>k_is)
  (case J4=>k_is)
  (case JH=>k_is)
  (case Ly=>k_is)
  (case Mc=>k_is)
  (case Ks=>k_is)
  (case MC=>k_is)
  (case J3=>k_is)
  (case JG=>k_is)
  (case Lx=>k_is)
  (case Mb=>k_is)
  (case Kr=>k_is)
  (case MB=>k_is)
  (case J2=>k_is)
  (case JF=>k_is)
  (case Lw=>k_is)
  (case Ma=>k_is)
  (case Kq=>k_is)
  (case MA=>k_is)
  (case J1=>k_is)
  (case JE=>k_is)
  (case Lv=>k_is)
  (case LZ=>k_is)
  (case Ko=>k_is)
  (case Mz=>k_is)
  (case J0=>k_is)
  (case JD=>k_is)
  (case Lu=>k_is)
  (case LY=>k_is)
  (case KA=>k_is)
  (case MI=>k_is)
  (case J9=>k_is)
  (case JM=>k_is)
  (case LD=>k_is)
  (case Mi=>k_is)
  (case Kn=>k_is)
  (case My=>k_is)
  (case JZ=>k_is)
  (case JC=>k_is)
  (case Lr=>k_is)
  (case LX=>k_is)
  (case QK=>k_is)
  (case QJ=>k_is)
  (case a1=>k_is)
  (case i1=>k_is)
  (case l1=>k_is)
  (case c1=>k_is)
  (case k1=>k_is)
  (case a2=>k_is)
  (case i2=>k_is)
  (case l2=>k_is)
  (case c2=>k_is)
  (case k2=>k_is)
  (case a3=>k_is)
  (case i3=>k_is)
  (case l3=>k_is)
  (case c3=>k_is)
  (case k3=>k_is)
  (case a4=>k_is)
  (case i4=>k_is)
  (case l4=>k_is)
  (case c4=>k_is)
  (case k4=>k_is)
  (case a5=>k_is)
  (case i5=>k_is)
  (case l5=>k_is)
  (case c5=>k_is)
  (case k5=>k_is)
  (case a6=>k_is)
  (case i6=>k_is)
  (case l6=>k_is)
  (case c6=>k_is)
  (case k6=>k_is)
  (case a7=>k_is)
  (case i7=>k_is)
  (case l7=>k_is)
  (case c7=>k_is)
  (case k7=>k_is)
  (case a8=>k_is)
  (case i8=>k_is)
  (case l8=>k_is)
  (case c8=>k_is)
  (case k8=>k_is)
  (case a9=>k_is)
  (case i9=>k_is)
  (case l9=>k_is)
  (case c9=>k_is)
  (case k9=>k_is)
  (case a10=>k_is)
  (case i10=>k_is)
  (case NR=>k_is)
  (case c10=>k_is)
  (case YX=>k_is)
  (case a11=>k_is)
  (case i11=>k_is)
  (case RU=>k_is)
  (case Xl=>k_is)
  (case rZ=>k_is)
  (case a12=>k_is)
  (case i12=>k_is)
  (case TU=>k_is)
  (case c12=>k_is)
  (case rY=>k_is)
  (case a13=>k_is)
  (case i13=>k_is)
  (case Vc=>k_is)
  (case c13=>k_is)
  (case tO=>k_is)
  (case a14=>k_is)
  (case i14=>k_is)
  (case Qd=>k_is)
  (case c14=>k_is)
  (case Ad=>k_is)
  (case a15=>k_is)
  (case i15=>k_is)
  (case Vb=>k_is)
  (case Xk=>k_is)
  (case k15=>k_is)
  (case a16=>k_is)
  (case i16=>k_is)
  (case Va=>k_is)
  (case c16=>k_is)
  (case k16=>k_is)
  (case a17=>k_is)
  (case i17=>k_is)
  (case U9=>k_is)
  (case c17=>k_is)
  (case k17=>k_is)
  (case a18=>k_is)
  (case i18=>k_is)
  (case l18=>k_is)
  (case c18=>k_is)
  (case k18=>k_is)
  (case a19=>k_is)
  (case i19=>k_is)
  (case l19=>k_is)
  (case c19=>k_is)
  (case k19=>k_is)
  (case a20=>k_is)
  (case i20=>k_is)
  (case l20=>k_is)
  (case c20=>k_is)
  (case YW=>k_is)
  (case a21=>k_is)
  (case i21=>k_is)
  (case l21=>k_is)
  (case c21=>k_is)
  (case YV=>k_is)
  (case a22=>k_is)
  (case i22=>k_is)
  (case l22=>k_is)
  (case c22=>k_is)
  (case YU=>k_is)
  (case a23=>k_is)
  (case i23=>k_is)
  (case l23=>k_is)
  (case c23=>k_is)
  (case YT=>k_is)
  (case a24=>k_is)
  (case i24=>k_is)
  (case l24=>k_is)
  (case c24=>k_is)
  (case YS=>k_is)
  (case a25=>k_is)
  (case i25=>k_is)
  (case l25=>k_is)
  (case c25=>k_is)
  (case YR=>k_is)
  (case a26=>k_is)
  (case i26=>k_is)
  (case l26=>k_is)
  (case c26=>k_is)
  (case YQ=>k_is)
  (case a27=>k_is)
  (case i27=>k_is)
  (case l27=>k_is)
  (case c27=>k_is)
  (case YO=>k_is)
  (case a28=>k_is)
  (case i28=>k_is)
  (case l28=>k_is)
  (case c28=>k_is)
  (case YN=>k_is)
  (case a29=>k_is)
  (case i29=>k_is)
  (case l29=>k_is)
  (case c29=>k_is)
  (case k29=>k_is)
  (case a30=>k_is)
  (case i30=>k_is)
  (case l30=>k_is)
  (case c30=>k_is)
  (case k30=>k_is)
  (case a31=>k_is)
  (case i31=>k_is)
  (case l31=>k_is)
  (case c31=>k_is)
  (case YM=>k_is)
  (case a32=>k_is)
  (case i32=>k_is)
  (case l32=>k_is)
  (case c32=>k_is)
  (case YL=>k_is)
  (case a33=>k_is)
  (case i33=>k_is)
  (case l33=>k_is)
  (case c33=>k_is)
  (case YK=>k_is)
  (case a34=>k_is)
  (case l34=>k_is)
  (case c34=>k_is)
  (case YJ=>k_is)
  (case a35=>k_is)
  (case l35=>k_is)
  (case c35=>k_is)
  (case YI=>k_is)
  (case Ub=>k_is)
  (case l36=>k_is)
  (case c36=>k_is)
  (case R0=>k_is)
  (case a37=>k_is)
  (case l37=>k_is)
  (case c37=>k_is)
  (case YH=>k_is)
  (case a38=>k_is)
  (case l38=>k_is)
  (case c38=>k_is)
  (case YG=>k_is)
  (case a39=>k_is)
  (case l39=>k_is)
  (case c39=>k_is)
  (case YF=>k_is)
  (case a40=>k_is)
  (case l40=>k_is)
  (case c40=>k_is)
  (case YE=>k_is)
  (case a41=>k_is)
  (case l41=>k_is)
  (case c41=>k_is)
  (case YD=>k_is)
  (case a42=>k_is)
  (case l42=>k_is)
  (case c42=>k_is)
  (case YC=>k_is)
  (case a43=>k_is)
  (case l43=>k_is)
  (case c43=>k_is)
  (case YB=>k_is)
  (case a44=>k_is)
  (case TR=>k_is)
  (case c44=>k_is)
  (case YA=>k_is)
  (case a45=>k_is)
  (case l45=>k_is)
  (case Xj=>k_is)
  (case Yz=>k_is)
  (case ZS=>k_is)
  (case l46=>k_is)
  (case c46=>k_is)
  (case Vh=>k_is)
  (case a47=>k_is)
  (case l47=>k_is)
  (case c47=>k_is)
  (case RZ=>k_is)
  (case a48=>k_is)
  (case l48=>k_is)
  (case c48=>k_is)
  (case Yy=>k_is)
  (case a49=>k_is)
  (case l49=>k_is)
  (case c49=>k_is)
  (case Yx=>k_is)
  (case a50=>k_is)
  (case l50=>k_is)
  (case c50=>k_is)
  (case Yw=>k_is)
  (case a51=>k_is)
  (case l51=>k_is)
  (case c51=>k_is)
  (case Yv=>k_is)
  (case ZR=>k_is)
  (case l52=>k_is)
  (case c52=>k_is)
  (case Vg=>k_is)
  (case a53=>k_is)
  (case l53=>k_is)
  (case c53=>k_is)
  (case Yu=>k_is)
  (case a54=>k_is)
  (case l54=>k_is)
  (case c54=>k_is)
  (case Yt=>k_is)
  (case a55=>k_is)
  (case l55=>k_is)
  (case c55=>k_is)
  (case Ys=>k_is)
  (case ZQ=>k_is)
  (case l56=>k_is)
  (case c56=>k_is)
  (case Vf=>k_is)
  (case a57=>k_is)
  (case l57=>k_is)
  (case c57=>k_is)
  (case Yr=>k_is)
  (case a58=>k_is)
  (case l58=>k_is)
  (case c58=>k_is)
  (case Yq=>k_is)
  (case a59=>k_is)
  (case l59=>k_is)
  (case c59=>k_is)
  (case Yp=>k_is)
  (case a60=>k_is)
  (case l60=>k_is)
  (case c60=>k_is)
  (case Yo=>k_is)
  (case a61=>k_is)
  (case l61=>k_is)
  (case c61=>k_is)
  (case Yn=>k_is)
  (case a62=>k_is)
  (case l62=>k_is)
  (case c62=>k_is)
  (case Ym=>k_is)
  (case ZP=>k_is)
  (case l63=>k_is)
  (case c63=>k_is)
  (case Ve=>k_is)
  (case a64=>k_is)
  (case l64=>k_is)
  (case c64=>k_is)
  (case Yl=>k_is)
  (case a65=>k_is)
  (case l65=>k_is)
  (case c65=>k_is)
  (case k65=>k_is)
  (case l66=>k_is)
  (case c66=>k_is)
  (case Yk=>k_is)
  (case rR=>k_is)
  (case pX=>k_is)
  (case xF=>k_is)
  (case uS=>k_is)
  (case rS=>k_is)
  (case mD=>k_is)
  (case lE=>k_is)
  (case lD=>k_is)
  (case zW=>k_is)
  (case uQ=>k_is)
  (case rN=>k_is)
  (case zV=>k_is)
  (case uP=>k_is)
  (case uO=>k_is)
  (case rM=>k_is)
  (case zU=>k_is)
  (case zT=>k_is)
  (case uM=>k_is)
  (case xE=>k_is)
  (case rK=>k_is)
  (case zS=>k_is)
  (case xD=>k_is)
  (case rJ=>k_is)
  (case rH=>k_is)
  (case zR=>k_is)
  (case xC=>k_is)
  (case uK=>k_is)
  (case zQ=>k_is)
  (case mC=>k_is)
  (case zP=>k_is)
  (case rF=>k_is)
  (case pV=>k_is)
  (case rG=>k_is)
  (case zO=>k_is)
  (case mz=>k_is)
  (case uJ=>k_is)
  (case rE=>k_is)
  (case zN=>k_is)
  (case mw=>k_is)
  (case rC=>k_is)
  (case rD=>k_is)
  (case uI=>k_is)
  (case zX=>k_is)
  (case uR=>k_is)
  (case pW=>k_is)
  (case oJ=>k_is)
  (case rP=>k_is)
  (case rQ=>k_is)
  (case rO=>k_is)
  (case oH=>k_is)
  (case I9=>k_is)
  (case I0=>k_is)
  (case wG=>k_is)
  (case Cq=>k_is)
  (case zj=>k_is)
  (case n9=>k_is)
  (case zk=>k_is)
  (case Jd=>k_is)
  (case I8=>k_is)
  (case Ja=>k_is)
  (case Cr=>k_is)
  (case Jc=>k_is)
  (case Jb=>k_is)
  (case QN=>k_is)
  (case QM=>k_is)
  (case Ez=>k_is)
  (case En=>k_is)
  (case Ey=>k_is)
  (case Em=>k_is)
  (case Ex=>k_is)
  (case El=>k_is)
  (case Ew=>k_is)
  (case Ek=>k_is)
  (case Eu=>k_is)
  (case Ej=>k_is)
  (case Et=>k_is)
  (case Ei=>k_is)
  (case Es=>k_is)
  (case Eh=>k_is)
  (case Er=>k_is)
  (case Eg=>k_is)
  (case Ep=>k_is)
  (case Ef=>k_is)
  (case Eo=>k_is)
  (case Ed=>k_is)
  (case Jp=>k_is)
  (case Jq=>k_is)
  (case Jo=>k_is)
  (case Ec=>kit_is)
  (case Eb=>kit_is)
  (case Ea=>kit_is)
  (case D8=>kit_is)
  (case D7=>kit_is)
  (case D6=>kit_is)
  (case DZ=>kit_is)
  (case DY=>kit_is)
  (case DX=>kit_is)
  (case Jm=>kit_is)
  (case DW=>kit_is)
  (case DV=>kit_is)
  (case DU=>kit_is)
  (case DT=>kit_is)
  (case DS=>kit_is)
  (case DR=>kit_is)
  (case DQ=>kit_is)
  (case DP=>kit_is)
  (case DO=>kit_is)
  (case Jl=>kit_is)
  (case DN=>kit_is)
  (case DM=>kit_is)
  (case DL=>kit_is)
  (case DK=>kit_is)
  (case DJ=>kit_is)
  (case DI=>kit_is)
  (case DH=>kit_is)
  (case DG=>kit_is)
  (case DF=>kit_is)
  (case Jk=>kit_is)
  (case DE=>kit_is)
  (case DC=>kit_is)
  (case DB=>kit_is)
  (case DA=>kit_is)
  (case Dz=>kit_is)
  (case Dw=>kit_is)
  (case Dv=>kit_is)
  (case Du=>kit_is)
  (case Dt=>kit_is)
  (case Jj=>kit_is)
  (case Ds=>kit_is)
  (case Dp=>kit_is)
  (case Dl=>kit_is)
  (case Dk=>kit_is)
  (case Dj=>kit_is)
  (case Di=>kit_is)
  (case Dh=>kit_is)
  (case Dg=>kit_is)
  (case De=>kit_is)
  (case Ji=>kit_is)
  (case Dd=>kit_is)
  (case C9=>kit_is)
  (case C8=>kit_is)
  (case C7=>kit_is)
  (case C6=>kit_is)
  (case C5=>kit_is)
  (case C4=>kit_is)
  (case C3=>kit_is)
  (case C2=>kit_is)
  (case Jh=>kit_is)
  (case C0=>kit_is)
  (case CZ=>kit_is)
  (case CY=>kit_is)
  (case CW=>kit_is)
  (case CV=>kit_is)
  (case CU=>kit_is)
  (case CT=>kit_is)
  (case CS=>kit_is)
  (case CQ=>kit_is)
  (case Jg=>kit_is)
  (case CP=>kit_is)
  (case CO=>kit_is)
  (case CN=>kit_is)
  (case CM=>kit_is)
  (case CL=>kit_is)
  (case CK=>kit_is)
  (case CJ=>kit_is)
  (case CI=>kit_is)
  (case CH=>kit_is)
  (case Jf=>kit_is)
  (case CG=>kit_is)
  (case CF=>kit_is)
  (case CD=>kit_is)
  (case CC=>kit_is)
  (case CB=>kit_is)
  (case CA=>kit_is)
  (case Cw=>kit_is)
  (case Cv=>kit_is)
  (case Cu=>kit_is)
  (case Je=>kit_is)
#print axioms PySem.Challenge.cw_holdwright_k10_steps_tell_holds
