import PyProof.Rows.All
import Wide.All
import OpenK.AllK
import Wide.FinOn
import Lean
import PyProof.EqAt
import PyProof.EqKinds
import PyProof.TupleCall
import PySem.Spec
import PyProof.NeKinds
import KE.KDictList
import KE.KPairComp
import PyProof.DictWalks
import PyProof.FString5
import PyProof.StrLawsIn
import PyProof.Rows.SetFrom
import KE.KEqDict
import PyProof.Rows.DictMethods
import PyProof.FitsBits
import PySem.Challenge.RW_holdwright_k38_papers_looked_at
set_option Elab.async false
set_option linter.all false
set_option maxRecDepth 100000
namespace L2
open PySem PySem.Spec PyProof.Rows
abbrev Key:=Sum Int Str
def uq:Key→Value→Bool
 | .inl k,v=>Value.isInt k v
 | .inr x,v=>Value.isStrOf x v
def Ys (w:World):Key→Int
 | .inl k=>hashInt k
 | .inr x=>hashStr w x
theorem dR:∀ {k:Key} {v:Value},uq k v=true→(∃ i t,k=Sum.inl i∧v=Value.int i t)∨(∃ x t,k=Sum.inr x∧v=Value.str x t)
 | .inl i,v,h=>by
  obtain ⟨t,e⟩:=Value.isInt_shape (k:=i) (v:=v) h
  exact .inl ⟨i,t,rfl,e⟩
 | .inr x,v,h=>by
  obtain ⟨t,e⟩:=Value.isStrOf_shape (x:=x) (v:=v) h
  exact .inr ⟨x,t,rfl,e⟩
theorem DP (i:Int) (t:Tok):uq (.inl i) (.int i t)=true:=by simp [uq,Value.isInt]
theorem DO (x:Str) (t:Tok):uq (.inr x) (.str x t)=true:=by simp [uq,Value.isStrOf]
theorem Mj (a b:Int):decide ((Sum.inl a:Key)=Sum.inl b)=(a == b):=by
 by_cases e:a=b
 ·subst e;simp
 ·have h:¬ (Sum.inl a:Key)=Sum.inl b:=fun q=>e (Sum.inl.inj q)
  rw [decide_eq_false h]
  exact (beq_eq_false_iff_ne.mpr e).symm
theorem Mg (a b:Str):decide ((Sum.inr a:Key)=Sum.inr b)=decide (a=b):=by
 by_cases e:a=b
 ·subst e;simp
 ·have h:¬ (Sum.inr a:Key)=Sum.inr b:=fun q=>e (Sum.inr.inj q)
  rw [decide_eq_false h,decide_eq_false e]
theorem Mi (a:Int) (b:Str):decide ((Sum.inl a:Key)=Sum.inr b)=false:=decide_eq_false (fun q=>nomatch q)
theorem Mh (a:Str) (b:Int):decide ((Sum.inr a:Key)=Sum.inl b)=false:=decide_eq_false (fun q=>nomatch q)
def bY (prog:Program) (w:World):PySem.KeyKind prog w Key where
 is:=uq
 hash:=Ys w
 inj:=fun v a b ha hb=>by
  rcases dR ha with ⟨i,t,rfl,rfl⟩ | ⟨x,t,rfl,rfl⟩
  ·rcases dR hb with ⟨j,u,rfl,e⟩ | ⟨y,u,rfl,e⟩
   ·injection e with e1 _;rw [e1]
   ·exact nomatch e
  ·rcases dR hb with ⟨j,u,rfl,e⟩ | ⟨y,u,rfl,e⟩
   ·exact nomatch e
   ·injection e with e1 _;rw [e1]
 byValue:=fun k v h=>by
  rcases dR h with ⟨i,t,rfl,rfl⟩ | ⟨x,t,rfl,rfl⟩ <;> rfl
 pyHash:=fun hv h=>by
  rcases dR hv with ⟨i,t,rfl,rfl⟩ | ⟨x,t,rfl,rfl⟩
  ·exact wpAny_pyHash_int h
  ·exact wpAny_pyHash_str h
 eqBool:=fun hu hv h=>by
  rcases dR hu with ⟨i,t,rfl,rfl⟩ | ⟨x,t,rfl,rfl⟩
  ·rcases dR hv with ⟨j,u,rfl,rfl⟩ | ⟨y,u,rfl,rfl⟩
   ·rw [Mj] at h;exact wpAny_eqBool_int h
   ·rw [Mi] at h;exact SeqAt.EqAt.int_str i t y u _ _ _ _ h
  ·rcases dR hv with ⟨j,u,rfl,rfl⟩ | ⟨y,u,rfl,rfl⟩
   ·rw [Mh] at h;exact SeqAt.EqAt.str_int x t j u _ _ _ _ h
   ·rw [Mg] at h;exact wpAny_eqBool_str h
 «strs»:=fun k x t v h=>by
  rcases dR h with ⟨i,u,rfl,e⟩ | ⟨y,u,rfl,e⟩
  ·exact nomatch e
  ·injection e with e1 _
   subst e1
   cases v <;> rfl
theorem zz (prog:Program) (w:World) (i:Int) (t:Tok):(bY prog w).is (.inl i) (.int i t)=true:=DP i t
theorem iI (prog:Program) (w:World) (x:Str) (t:Tok):(bY prog w).is (.inr x) (.str x t)=true:=DO x t
end L2
namespace L2
open PySem PySem.Spec PyProof.Rows
inductive V where
 | gc | bl (b:Bool) | int (i:Int) | str (x:Str) | E9 (b:Array UInt8) | Le (b:UInt64) | ref (a:Addr) | ty (n:String)
 deriving DecidableEq
def RelV:V→Value→Prop
 | .gc,u=>u=Value.none
 | .bl b,u=>u=Value.bool b
 | .int i,u=>∃ t,u=Value.int i t
 | .str x,u=>∃ t,u=Value.str x t
 | .E9 b,u=>∃ t,u=Value.bytes b t
 | .Le b,u=>∃ t,u=Value.float b t
 | .ref a,u=>u=Value.ref a
 | .ty n,u=>u=Value.type n
abbrev Vals:List V→List Value→Prop:=Paired RelV
theorem Vals.length {xs:List V} {us:List Value} (r:Vals xs us):xs.length=us.length:=Paired.length r
theorem Vals.get:∀ {xs:List V} {us:List Value} {i:Nat} {x:V},Vals xs us→xs[i]?=some x→∃ u,us[i]?=some u∧RelV x u
 | _,_,_,_,.nil,e=>by simp at e
 | _,_,0,_,.cons r _,e=>by simp at e;subst e;exact ⟨_,rfl,r⟩
 | _,_,i+1,x,.cons _ t,e=>by
  obtain ⟨u,h1,h2⟩:=Vals.get (i:=i) (x:=x) t (by simpa using e)
  exact ⟨u,by simpa using h1,h2⟩
theorem Vals.set {x:V} {u:Value} (r:RelV x u):∀ {xs:List V} {us:List Value} (i:Nat),Vals xs us→Vals (xs.set i x) (us.set i u)
 | _,_,_,.nil=>.nil
 | _,_,0,.cons _ t=>.cons r t
 | _,_,i+1,.cons q t=>.cons q (Vals.set r i t)
theorem Vals.append:∀ {xs ys:List V} {us ws:List Value},Vals xs us→Vals ys ws→Vals (xs++ys) (us++ws)
 | _,_,_,_,.nil,s=>s
 | _,_,_,_,.cons r t,s=>.cons r (Vals.append t s)
theorem Vals.take:∀ {xs:List V} {us:List Value} (n:Nat),Vals xs us→Vals (xs.take n) (us.take n)
 | _,_,0,_=>.nil
 | _,_,_+1,.nil=>.nil
 | _,_,n+1,.cons r t=>.cons r (Vals.take n t)
theorem Vals.drop:∀ {xs:List V} {us:List Value} (n:Nat),Vals xs us→Vals (xs.drop n) (us.drop n)
 | _,_,0,r=>r
 | _,_,_+1,.nil=>.nil
 | _,_,n+1,.cons _ t=>Vals.drop n t
def kX:Option V→Option Value→Prop
 | some v,some u=>RelV v u
 | none,none=>True
 | _,_=>False
def KV {κ:Type}:List (κ×V)→List (κ×Value)→Prop:=Paired fun (p:κ×V) (q:κ×Value)=>p.1=q.1∧RelV p.2 q.2
def kV:Key→V
 | .inl i=>.int i
 | .inr x=>.str x
inductive HO where
 | lst (xs:List V)
 | tup (xs:List V)
 | dK (kvs:List (Key×V)) | dT (kvs:List (List Key×V))
 | set (S:Int→Bool) (n:Nat)
 | ins (C dx:Addr) (fs:List (Str×V))
 | own (x:Addr)
 | xd (fs:List (Str×V))
 | met (f x:Addr)
 | Sg (lo hi:Int)
 | zQ (o:Obj) (u:HO)
 | KW (ps:Array Value)
 | ext (φ:Heap→Prop)
abbrev Hp:=Addr→Option HO
def upd (H:Hp) (a:Addr) (o:HO):Hp:=fun b=>if b=a then some o else H b
theorem ah {H:Hp} {a:Addr} {o:HO}:upd H a o a=some o:=by unfold upd;rw [if_pos rfl]
theorem aL {H:Hp} {a b:Addr} {o:HO} (h:b≠a):upd H a o b=H b:=by unfold upd;rw [if_neg h]
theorem Cj {H:Hp} {a:Addr} {o u:HO}:upd (upd H a o) a u=upd H a u:=by
 funext b;unfold upd;split <;> rfl
theorem vW {H:Hp} {a b:Addr} {o u:HO} (h:H a=some o) (h':H b=some u) (d:o≠u):a≠b:=by
 intro e;subst e;rw [h] at h';exact d (Option.some.inj h')
theorem aF {H:Hp} {a b:Addr} {o:HO} (h:H a=some o) (h':H b=none):a≠b:=by
 intro e;subst e;rw [h] at h';cases h'
section
variable (P:Program) (w:World)
def dh (H:Hp) (h:Heap) (a:Addr):HO→Prop
 | .lst xs=>xs.length≤sizeLine∧∃ (its:List Value) (n:Nat),Vals xs its∧h.get? a=some { cls:=.type "list",data:=.seq its.toArray n }
 | .tup xs=>xs.length≤sizeLine∧∃ its:List Value,Vals xs its∧IsTup h a its.toArray
 | .dK kvs=>kvs.length≤sizeLine∧(a == sysModules)=false∧∃ vs,KV kvs vs∧h.DictOf (bY P w) a vs
 | .dT kvs=>kvs.length≤sizeLine∧(a == sysModules)=false∧∃ xs:List (List Key×Addr×Value),
   Paired (fun (p:List Key×V) (q:List Key×Addr×Value)=>p.1=q.1∧H q.2.1=some (.tup (p.1.map kV))∧RelV p.2 q.2.2) kvs xs ∧
   ∃ o es ep,h.get? a=some o∧o.ExactDict∧o.data=.dict es ep∧es.toList=xs.map (entryOfKey (tupleKind (bY P w)))∧(xs.map (·.1)).Nodup
 | .set S n=>h.SetOf (intKind P w) a S n
 | .ins C dx fs=>H dx=some (.own a)∧fs.length≤1000∧dx≠a∧h.get? a=some (PySem.W.instObj C dx) ∧
   ∃ mA,h.Ns1 dx mA∧(∀ f,kX (fs.lookup f) (mA f))∧PySem.Within mA (fs.map (·.1))
 | .own _=>∃ o,h.get? a=some o
 | .xd fs=>∃ mA,h.Ns1 a mA∧∀ f,kX (fs.lookup f) (mA f)
 | .Sg lo hi=>∃ t u v,h.get? a=some { cls:=.type "range",data:=.fields #[.int lo t,.int hi u,.int 1 v] }
 | .zQ o u=>h.get? a=some o∧dh H h a u
 | .KW ps=>h.get? a=some { cls:=.none,data:=.fields ps }
 | .met f x=>h.get? a=some (PySem.W.methodObj (.ref f) (.ref x))
 | .ext φ=>φ h∧(∃ o,h.get? a=some o)∧∀ h1 h2:Heap,φ h1→(∀ o,h1.get? a=some o→h2.get? a=some o)→φ h2
def nQ (H:Hp) (h:Heap):Prop:=∀ a o,H a=some o→dh P w H h a o
end
section
variable {P:Program} {w:World} {H H':Hp} {h h':Heap} {a:Addr} {o:HO}
theorem dh.lt (x:dh P w H h a o):a < h.objs.size:=by
 cases o with
 | lst xs=>obtain ⟨_,_,_,_,e⟩:=x;exact Heap.lt_size e
 | tup xs=>obtain ⟨_,_,_,p⟩:=x;exact p.lt
 | dK kvs=>obtain ⟨_,_,_,_,o,_,_,e,_⟩:=x;exact Heap.lt_size e
 | dT kvs=>obtain ⟨_,_,_,_,o,_,_,e,_⟩:=x;exact Heap.lt_size e
 | set S n=>obtain ⟨o,_,_,_,e,_⟩:=x;exact Heap.lt_size e
 | ins C dx fs=>obtain ⟨_,_,_,e,_⟩:=x;exact Heap.lt_size e
 | own y=>obtain ⟨_,e⟩:=x;exact Heap.lt_size e
 | xd fs=>obtain ⟨_,⟨_,_,_,e,_⟩,_⟩:=x;exact Heap.lt_size e
 | Sg lo hi=>obtain ⟨_,_,_,e⟩:=x;exact Heap.lt_size e
 | zQ ob u=>obtain ⟨e,_⟩:=x;exact Heap.lt_size e
 | KW ps=>exact Heap.lt_size (show h.get? a=some _ from x)
 | met f y=>exact Heap.lt_size (show h.get? a=some _ from x)
 | ext φ=>obtain ⟨_,⟨_,e⟩,_⟩:=x;exact Heap.lt_size e
theorem Paired.dX {α β:Type} {F G:α→β→Prop}:∀ {l₁:List α} {l₂:List β},Paired F l₁ l₂→(∀ a b,F a b→G a b)→Paired G l₁ l₂
 | _,_,.nil,_=>.nil
 | _,_,.cons r t,f=>.cons (f _ _ r) (Paired.dX t f)
theorem dh.stay (x:dh P w H h a o) (k:∀ b u,(b=a∨H b=some (.own a))→h.get? b=some u→h'.get? b=some u)
  (ho:∀ b,H b=some (.own a)→H' b=some (.own a)) (ht:∀ b xs,H b=some (.tup xs)→H' b=some (.tup xs)):dh P w H' h' a o:=by
 induction o with
 | lst xs=>obtain ⟨z,its,n,r,e⟩:=x;exact ⟨z,its,n,r,k _ _ (.inl rfl) e⟩
 | tup xs=>obtain ⟨z,its,r,ob,e,c⟩:=x;exact ⟨z,its,r,ob,k _ _ (.inl rfl) e,c⟩
 | dK kvs=>obtain ⟨z,y,vs,r,ob,es,ep,e,c⟩:=x;exact ⟨z,y,vs,r,ob,es,ep,k _ _ (.inl rfl) e,c⟩
 | dT kvs =>
  obtain ⟨z,y,xs,r,ob,es,ep,e,c⟩:=x
  exact ⟨z,y,xs,Paired.dX r fun p q z=>⟨z.1,ht _ _ z.2.1,z.2.2⟩,ob,es,ep,k _ _ (.inl rfl) e,c⟩
 | set S n=>obtain ⟨ob,es,ep,t,e,c⟩:=x;exact ⟨ob,es,ep,t,k _ _ (.inl rfl) e,c⟩
 | ins C dx fs =>
  obtain ⟨d,z,ne,e,mA,⟨od,es,ep,e2,c⟩,r⟩:=x
  exact ⟨ho _ d,z,ne,k _ _ (.inl rfl) e,mA,⟨od,es,ep,k _ _ (.inr d) e2,c⟩,r⟩
 | own y=>obtain ⟨ob,e⟩:=x;exact ⟨ob,k _ _ (.inl rfl) e⟩
 | xd fs=>obtain ⟨mA,⟨od,es,ep,e,c⟩,r⟩:=x;exact ⟨mA,⟨od,es,ep,k _ _ (.inl rfl) e,c⟩,r⟩
 | Sg lo hi=>obtain ⟨t,u,v,e⟩:=x;exact ⟨t,u,v,k _ _ (.inl rfl) e⟩
 | zQ ob u ih=>obtain ⟨e,q⟩:=x;exact ⟨k _ _ (.inl rfl) e,ih q⟩
 | KW ps =>
  have e:h.get? a=some { cls:=.none,data:=.fields ps }:=x
  show h'.get? a=some { cls:=.none,data:=.fields ps }
  exact k a _ (.inl rfl) e
 | met f y =>
  have e:h.get? a=some (PySem.W.methodObj (.ref f) (.ref y)):=x
  show h'.get? a=some (PySem.W.methodObj (.ref f) (.ref y))
  exact k a _ (.inl rfl) e
 | ext φ=>obtain ⟨p,⟨o,e⟩,st⟩:=x;exact ⟨st _ _ p fun o q=>k _ _ (.inl rfl) q,⟨o,k _ _ (.inl rfl) e⟩,st⟩
theorem nQ.lt (x:nQ P w H h) (e:H a=some o):a < h.objs.size:=(x a o e).lt
theorem nQ.fresh (x:nQ P w H h) (e:h.objs.size≤a):H a=none:=by
 cases q:H a with
 | none=>rfl
 | some u=>exact absurd (Nat.lt_of_lt_of_le (x.lt q) e) (Nat.lt_irrefl _)
theorem nQ.kept (x:nQ P w H h) (k:∀ b u,h.get? b=some u→h'.get? b=some u):nQ P w H h':=fun a o e =>
 (x a o e).stay (fun b u _ q=>k b u q) (fun _ q=>q) fun _ _ q=>q
theorem nQ.laid (x:nQ P w H h) (k:∀ b u,h.get? b=some u→h'.get? b=some u) (hp:h.objs.size≤a) (new:dh P w (upd H a o) h' a o):nQ P w (upd H a o) h':=fun b u e=>by
 have hn:=x.fresh hp
 by_cases hb:b=a
 ·subst hb;rw [ah] at e;cases e;exact new
 ·rw [aL hb] at e
  exact (x b u e).stay (fun c v _ q=>k c v q) (fun c q=>by rw [aL (aF q hn)];exact q) fun c xs q=>by rw [aL (aF q hn)];exact q
end
def Rd (H:Hp) (a:Addr) (u:HO):Prop:=H a=some u∨∃ o,H a=some (.zQ o u)
theorem Rd.ok {P:Program} {w:World} {H:Hp} {h:Heap} {a:Addr} {u:HO} (r:Rd H a u) (x:nQ P w H h):dh P w H h a u:=by
 rcases r with r | ⟨o,r⟩
 ·exact x a u r
 ·obtain ⟨_,q⟩:=x a _ r
  exact q
def RN:Option HO→Prop
 | some (.lst _)=>True
 | some (.dK _)=>True
 | some (.dT _)=>True
 | some (.set _ _)=>True
 | some (.ins _ _ _)=>True
 | some (.ext _)=>True
 | _=>False
section
variable {P:Program} {w:World} {H:Hp} {h h':Heap} {x e:Addr} {o':HO}
theorem nQ.write (ok:nQ P w H h) (mu:RN (H x)) (he:e=x∨H e=some (.own x)) (k:∀ b u,b≠e→h.get? b=some u→h'.get? b=some u) (NQ:∃ u,h'.get? e=some u)
  (new:dh P w (upd H x o') h' x o'):nQ P w (upd H x o') h':=fun b u q=>by
 have Pa:∀ c y,H c=some (.own y)→c≠x:=fun c y r z=>by subst z;rw [r] at mu;exact mu
 have Xw:∀ c xs,H c=some (.tup xs)→c≠x:=fun c xs r z=>by subst z;rw [r] at mu;exact mu
 by_cases hb:b=x
 ·subst hb;rw [ah] at q;cases q;exact new
 ·rw [aL hb] at q
  by_cases MA:b=e
  ·have q':H b=some (.own x):=by
    rcases he with z | z
    ·exact absurd (MA.trans z) hb
    ·rw [MA];exact z
   rw [q] at q';cases q'
   obtain ⟨v,hv⟩:=NQ
   exact ⟨v,by rw [MA];exact hv⟩
  ·refine (ok b u q).stay (fun c v hc r=>k c v ?_ r) (fun c r=>by rw [aL (Pa c b r)];exact r) fun c xs r=>by rw [aL (Xw c xs r)];exact r
   rcases hc with rfl | hc
   ·exact MA
   ·rintro rfl
    rcases he with z | z
    ·exact Pa c b hc z
    ·rw [hc] at z;cases z;exact hb rfl
end
structure Un (fs ex:List Addr) (H H':Hp) (h h':Heap):Prop where
 keep:∀ b o,h.get? b=some o→H b=none→b ∉ fs→b ∉ ex→h'.get? b=some o
 slot:∀ b o,h.get? b=some o→H b=none→b∈fs→b ∉ ex→∃ sl,h'.get? b=some { o with slots:=sl }
 free:∀ b o,h.get? b=some o→H b=none→b ∉ ex→H' b=none
 there:∀ b o,h.get? b=some o→b ∉ ex→∃ o',h'.get? b=some o'
 tups:∀ b xs,H b=some (.tup xs)→H' b=some (.tup xs)
 vj:∀ b o u,H b=some (.zQ o u)→H' b=some (.zQ o u)
 w4:∀ b ps,H b=some (.KW ps)→∃ more,H' b=some (.KW (ps++more))
section
variable {fs fs' ex ex':List Addr} {H H1 H2:Hp} {h h1 h2 h':Heap} {a x e:Addr} {o:HO}
theorem Un.any (u:Un fs ex H H1 h h1) {b:Addr} {ob:Obj} (q:h.get? b=some ob) (n:H b=none) (hx:b ∉ ex):∃ sl,h1.get? b=some { ob with slots:=sl }:=by
 by_cases hb:b∈fs
 ·exact u.slot b ob q n hb hx
 ·exact ⟨ob.slots,u.keep b ob q n hb hx⟩
theorem Un.kept (k:∀ b u,h.get? b=some u→h'.get? b=some u):Un fs ex H H h h' :=
 ⟨fun b ob q _ _ _=>k b ob q,fun b ob q _ _ _=>⟨ob.slots,k b ob q⟩,fun _ _ _ n _=>n,fun b ob q _=>⟨ob,k b ob q⟩,fun _ _ q=>q,fun _ _ _ q=>q,fun _ ps q=>⟨#[],by rw [q];simp⟩⟩
theorem Un.refl:Un fs ex H H h h:=Un.kept fun _ _ q=>q
theorem Un.laid (k:∀ b u,h.get? b=some u→h'.get? b=some u) (hp:h.objs.size≤a) (hn:H a=none):Un fs ex H (upd H a o) h h' where
 keep:=fun b u q _ _ _=>k b u q
 slot:=fun b u q _ _ _=>⟨u.slots,k b u q⟩
 free:=fun b u q n _=>by rw [aL (Nat.ne_of_lt (Nat.lt_of_lt_of_le (Heap.lt_size q) hp))];exact n
 there:=fun b u q _=>⟨u,k b u q⟩
 tups:=fun b xs q=>by rw [aL (aF q hn)];exact q
 vj:=fun b u xs q=>by rw [aL (aF q hn)];exact q
 w4:=fun b ps q=>⟨#[],by rw [aL (aF q hn),q];simp⟩
theorem Un.write (mu:RN (H x)) (he:e=x∨H e=some (.own x)) (k:∀ b u,b≠e→h.get? b=some u→h'.get? b=some u) (NQ:∃ u,h'.get? e=some u):Un fs ex H (upd H x o) h h':=by
 have hx:∀ b,H b=none→b≠x:=fun b n z=>by subst z;rw [n] at mu;exact mu
 have hb:∀ b,H b=none→b≠e:=fun b n z=>by
  subst z
  rcases he with r | r
  ·exact hx b n r
  ·rw [n] at r;cases r
 have hm:∀ b u,H b=some u→¬ RN (some u)→b≠x:=fun b u q nm z=>by subst z;rw [q] at mu;exact nm mu
 refine ⟨fun b u q n _ _=>k b u (hb b n) q,fun b u q n _ _=>⟨u.slots,k b u (hb b n) q⟩,fun b u q n _=>by rw [aL (hx b n)];exact n,fun b u q _=>?_,
  fun b xs q=>by rw [aL (hm b _ q fun z=>z)];exact q,fun b u xs q=>by rw [aL (hm b _ q fun z=>z)];exact q,fun b ps q=>⟨#[],by rw [aL (hm b _ q fun z=>z),q];simp⟩⟩
 by_cases MA:b=e
 ·subst MA;exact NQ
 ·exact ⟨u,k b u MA q⟩
end
def RZ (h:Heap) (H:Hp):List Addr:=(List.range h.objs.size).filter fun a=>(H a).isSome
def x9 (h:Heap) (H:Hp):Heap:=PySem.W.hideAll h (RZ h H)
theorem DU (h:Heap) (H:Hp):(x9 h H).objs.size=h.objs.size:=PySem.W.hideAll_size _ _
theorem G7 {h:Heap} {H:Hp} {b:Addr} {o:Obj} (e:h.get? b=some o) (n:H b=none):(x9 h H).get? b=some o :=
 PySem.W.hideAll_get _ e fun hm=>by
  have q:(H b).isSome=true:=(List.mem_filter.mp hm).2
  rw [n] at q;simp at q
theorem JR {h:Heap} {H:Hp} {b:Addr} {o:Obj} (e:(x9 h H).get? b=some o):h.get? b=some o∧H b=none:=by
 have e':h.get? b=some o:=PySem.W.of_hideAll (RZ h H) e
 refine ⟨e',?_⟩
 cases q:H b with
 | none=>rfl
 | some x =>
  have hm:b∈RZ h H:=List.mem_filter.mpr ⟨List.mem_range.mpr (Heap.lt_size e'),by simp [q]⟩
  have z:(x9 h H).get? b=none:=PySem.W.hideAll_none (RZ h H) hm
  rw [z] at e;cases e
def KL (g h:Heap) (L:Addr):List (Addr×Obj):=(List.range h.objs.size).filterMap fun a=>if a=L∨(g.get? a).isSome=true then none else (h.get? a).map fun o=>(a,o)
def rest (g h:Heap) (L d:Addr):List (Addr×Obj):=(KL g h L).filter fun p=>decide (p.1≠d)
end L2
namespace L2
open PySem PySem.Spec PyProof.Rows
structure Mod (K:PySem.W.Frag) (mg:Str→Option Value) (base:Heap):Prop where
 Pw:K.In base
 glob:base.Ns mainGlobals mg
 blt:∃ mb,base.Ns builtinsNs mb∧∀ x:Str,x≠"__name__"→mb x=bootBuiltins x
 nolimit:base.NoLimit
structure Cx where
 prog:Program
 w:World
 K:PySem.W.Frag
 mg:Str→Option Value
 base:Heap
 A:Around
 N:List Str
 s₀:Shared
 H₀:Hp
 env:Env
 outer:List Env
 stack:List Env
 ex:List Addr
 fn:Str→Bool
 calm:Bool
 pn:List (Addr×Obj)
 xe:Value→Shared→Prop
def frs (l:List Env):List Addr:=l.filterMap (·.frame)
abbrev Cx.fs (X:Cx):List Addr:=frs X.outer
def Vis (sc:Scope) (x:Str):Prop:=sc.names.lookup x=some .local∨sc.names.lookup x=some .cell∨sc.names.lookup x=some .free
def Loc (sc:Scope) (x:Str):Prop:=sc.names.lookup x=some .local∨sc.names.lookup x=some .cell
def Look (env:Env) (h:Heap) (m:Str→Option Value) (x:Str) (u:Value):Prop :=
 (env.kindOf x=some .local∧m x=some u)∨((env.kindOf x=some .cell∨env.kindOf x=some .free)∧∃ c,env.cells.lookup x=some c∧h.IsCell c (some u))
structure Cx.Ok (X:Cx):Prop where
 mod:Mod X.K X.mg X.base
 kind:X.env.scope.kind=.function
 glob:X.env.globals=mainGlobals
 blt:X.env.builtins=builtinsNs
 above:X.s₀.heap.objs.size≤X.env.locals
 inj:∀ x y c,X.env.cells.lookup x=some c→X.env.cells.lookup y=some c→x=y
 has:∀ x,(X.env.kindOf x=some .cell∨X.env.kindOf x=some .free)→∃ c,X.env.cells.lookup x=some c
 RB:∀ x c,X.fn x=true→X.env.cells.lookup x=some c→X.s₀.heap.objs.size≤c
 hd:X.calm=true→X.A.handled=none
 frames:X.A.frames=some X.stack
 stk:X.stack=X.outer∨(X.stack=X.env::X.outer∧X.env.frame=some X.env.locals)
 Ul:∀ b∈X.ex,b≠X.env.locals∧∀ x c,X.env.cells.lookup x=some c→c≠b
 bs:∀ b o,X.base.get? b=some o→X.s₀.heap.get? b=some o∧X.H₀ b=none
 KD:X.base.objs.size≤X.s₀.heap.objs.size
 GD:∀ b o,X.base.get? b=some o→b ∉ X.ex
 HU:∀ b∈X.ex,b ∉ X.fs
 qV:X.s₀.heap.FunFrames X.base X.outer
 MF:∀ b∈X.fs,X.H₀ b=none
structure Inv (X:Cx) (pins:List (Addr×Obj)) (σ:List (Option V)) (H:Hp) (s:Shared):Prop where
 ok:X.Ok
 os:s.os=X.s₀.os
 bare:AllBare s.gens
 base:Un X.fs X.ex X.H₀ H X.s₀.heap s.heap
 loc:∃ m,s.heap.Ns X.env.locals m∧∀ (i:Nat) (x:Str) (v:V),X.N[i]?=some x→σ[i]?=some (some v)→Vis X.env.scope x→∃ u,RelV v u∧Look X.env s.heap m x u
 cell:∀ x c,X.env.cells.lookup x=some c→∃ v,s.heap.IsCell c v
 free:H X.env.locals=none
 kQ:∀ x c,X.env.cells.lookup x=some c→H c=none
 pin:∀ p∈X.pn++pins,s.heap.get? p.1=some p.2∧H p.1=none∧p.1≠X.env.locals∧p.1 ∉ X.fs∧∀ v,p.2.data≠.cell v
 hok:nQ X.prog X.w H s.heap
 len:σ.length=X.N.length
section
variable {X:Cx} {pins:List (Addr×Obj)} {σ:List (Option V)} {H H':Hp} {s:Shared} {h':Heap}
theorem Cx.Ok.XA (ok:X.Ok) {b:Addr} {o:Obj} (e:X.base.get? b=some o):b ∉ X.fs:=fun hb=>by
 have:=(ok.qV.mem hb).1
 rw [e] at this;cases this
theorem Inv.bs (I:Inv X pins σ H s):∀ b o,X.base.get? b=some o→s.heap.get? b=some o∧H b=none:=fun b o e =>
 ⟨I.base.keep b o (I.ok.bs b o e).1 (I.ok.bs b o e).2 (I.ok.XA e) (I.ok.GD b o e),I.base.free b o (I.ok.bs b o e).1 (I.ok.bs b o e).2 (I.ok.GD b o e)⟩
theorem Inv.bk (I:Inv X pins σ H s):∀ b o,X.base.get? b=some o→s.heap.get? b=some o:=fun b o e=>(I.bs b o e).1
theorem Inv.mod (I:Inv X pins σ H s):Mod X.K X.mg X.base:=I.ok.mod
theorem Inv.lU (I:Inv X pins σ H s):X.K.In s.heap:=I.ok.mod.Pw.keeps I.bk
theorem Inv.lt (I:Inv X pins σ H s):X.env.locals < s.heap.objs.size:=let ⟨_,hn,_⟩:=I.loc;hn.lt
theorem Inv.sz (I:Inv X pins σ H s):X.s₀.heap.objs.size≤s.heap.objs.size:=Nat.le_trans I.ok.above (Nat.le_of_lt I.lt)
theorem Inv.Pc (I:Inv X pins σ H s) {a:Addr} (h:s.heap.objs.size≤a):a ∉ X.fs:=fun hb=>by
 obtain ⟨_,o,ho,_⟩:=I.ok.qV.mem hb
 exact absurd (Nat.lt_of_lt_of_le (Heap.lt_size ho) (Nat.le_trans I.sz h)) (Nat.lt_irrefl _)
theorem Inv.Nj (I:Inv X pins σ H s):∀ x c,X.env.cells.lookup x=some c→c≠X.env.locals:=fun x c e z=>by
 obtain ⟨v,o,ho,hd⟩:=I.cell x c e
 obtain ⟨m,⟨o',es,ep,ho',hd',_⟩,_⟩:=I.loc
 rw [z,ho'] at ho;cases ho;rw [hd'] at hd;cases hd
theorem Inv.qV (I:Inv X pins σ H s):s.heap.FunFrames X.base X.outer:=by
 have all:∀ (l:List Env),(∀ b∈frs l,b∈X.fs)→X.s₀.heap.FunFrames X.base l→s.heap.FunFrames X.base l:=by
  intro l
  induction l with
  | nil=>intro _ _;trivial
  | cons env r ih =>
   intro hs hl
   obtain ⟨hk,⟨L,o,hf,hn,ho,hd⟩,hr⟩:=hl
   have hL:L∈X.fs:=hs L (by unfold frs;rw [List.filterMap_cons,hf];exact List.mem_cons_self)
   obtain ⟨sl,e⟩:=I.base.slot L o ho (I.ok.MF L hL) hL fun z=>I.ok.HU L z hL
   exact ⟨hk,⟨L,_,hf,hn,e,hd⟩,ih (fun b hb=>hs b (by unfold frs;rw [List.filterMap_cons,hf];exact List.mem_cons_of_mem _ hb)) hr⟩
 exact all X.outer (fun _ hb=>hb) I.ok.qV
theorem Inv.stack (I:Inv X pins σ H s):s.heap.FunFrames X.base X.stack:=by
 rcases I.ok.stk with e | ⟨e,hf⟩
 ·rw [e];exact I.qV
 ·rw [e]
  obtain ⟨m,hn,_⟩:=I.loc
  refine .cons (by rw [I.ok.kind];decide) hf hn ?_ I.qV
  exact Heap.get?_none_of_le (Nat.le_trans I.ok.KD I.ok.above)
theorem Inv.w9 (I:Inv X pins σ H s):∀ b∈frs X.stack,b∈X.env.locals::X.fs:=fun b hb=>by
 rcases I.ok.stk with e | ⟨e,hf⟩
 ·rw [e] at hb;exact List.mem_cons_of_mem _ hb
 ·rw [e] at hb
  unfold frs at hb
  rw [List.filterMap_cons,hf] at hb
  exact hb
theorem Inv.Co (I:Inv X pins σ H s):∀ b∈frs X.stack,H b=none:=fun b hb=>by
 rcases List.mem_cons.mp (I.w9 b hb) with e | hb
 ·rw [e];exact I.free
 ·obtain ⟨_,o,ho,_⟩:=I.ok.qV.mem hb
  exact I.base.free b o ho (I.ok.MF b hb) fun z=>I.ok.HU b z hb
theorem Inv.step {g':Array GenState} {t':Nat} {d':Drawn} {ch:List Addr} (I:Inv X pins σ H s)
  (hch:∀ b∈ch,(b∈X.ex∨X.s₀.heap.objs.size≤b)∧b≠X.env.locals∧(∀ x c,X.env.cells.lookup x=some c→c≠b)∧∀ p∈X.pn++pins,p.1≠b)
  (keep:∀ b o,b≠X.env.locals→b ∉ X.fs→b ∉ ch→s.heap.get? b=some o→H b=none→h'.get? b=some o)
  (slot:∀ b o,b≠X.env.locals→b∈X.fs→b ∉ ch→s.heap.get? b=some o→H b=none→∃ sl,h'.get? b=some { o with slots:=sl }) (free:∀ b o,b ∉ ch→s.heap.get? b=some o→H b=none→H' b=none)
  (there:∀ b o,b ∉ ch→s.heap.get? b=some o→∃ o',h'.get? b=some o')
  (tups:∀ b xs,H b=some (.tup xs)→H' b=some (.tup xs)) (vj:∀ b o u,H b=some (.zQ o u)→H' b=some (.zQ o u)) (w4:∀ b ps,H b=some (.KW ps)→∃ more,H' b=some (.KW (ps++more)))
  (ns:∀ m,s.heap.Ns X.env.locals m→h'.Ns X.env.locals m) (hok:nQ X.prog X.w H' h') (hg:AllBare g') :
  Inv X pins σ H' { s with heap:=h',gens:=g',drawn:=d',toks:=t' }:=by
 have neL:∀ b o,X.s₀.heap.get? b=some o→b≠X.env.locals:=fun b o e=>Nat.ne_of_lt (Nat.lt_of_lt_of_le (Heap.lt_size e) I.ok.above)
 have Sl:∀ b o,X.s₀.heap.get? b=some o→b ∉ X.ex→b ∉ ch:=fun b o e hx hb=>by
  rcases (hch b hb).1 with z | z
  ·exact hx z
  ·exact absurd (Nat.lt_of_lt_of_le (Heap.lt_size e) z) (Nat.lt_irrefl _)
 have cellK:∀ x c,X.env.cells.lookup x=some c→∀ v,s.heap.IsCell c v→h'.IsCell c v:=fun x c e v ⟨o,ho,hd⟩=>by
  have Pf:c ∉ ch:=fun z=>(hch c z).2.2.1 x c e rfl
  by_cases hc:c∈X.fs
  ·obtain ⟨sl,q⟩:=slot c o (I.Nj x c e) hc Pf ho (I.kQ x c e)
   exact ⟨_,q,hd⟩
  ·exact ⟨o,keep c o (I.Nj x c e) hc Pf ho (I.kQ x c e),hd⟩
 refine ⟨I.ok,I.os,hg,⟨fun b o e n hb hx=>?_,fun b o e n hb hx=>?_,fun b o e n hx=>?_,fun b o e hx=>?_,fun b xs e=>tups b xs (I.base.tups b xs e),fun b o xs e=>vj b o xs (I.base.vj b o xs e),fun b ps e=>?_⟩,?_,fun x c e=>?_,?_,fun x c e=>?_,fun p hp=>?_,hok,I.len⟩
 ·exact keep b o (neL b o e) hb (Sl b o e hx) (I.base.keep b o e n hb hx) (I.base.free b o e n hx)
 ·obtain ⟨sl,e1⟩:=I.base.slot b o e n hb hx
  obtain ⟨sl',e2⟩:=slot b _ (neL b o e) hb (Sl b o e hx) e1 (I.base.free b o e n hx)
  exact ⟨sl',e2⟩
 ·obtain ⟨o',e1⟩:=I.base.there b o e hx
  exact free b o' (Sl b o e hx) e1 (I.base.free b o e n hx)
 ·obtain ⟨o',e1⟩:=I.base.there b o e hx
  exact there b o' (Sl b o e hx) e1
 ·obtain ⟨m1,e1⟩:=I.base.w4 b ps e
  obtain ⟨m2,e2⟩:=w4 b _ e1
  exact ⟨m1++m2,by rw [e2,Array.append_assoc]⟩
 ·obtain ⟨m,hn,hl⟩:=I.loc
  refine ⟨m,ns m hn,fun i x v e1 e2 e3=>?_⟩
  obtain ⟨u,r,l⟩:=hl i x v e1 e2 e3
  refine ⟨u,r,?_⟩
  rcases l with l | ⟨k,c,e,z⟩
  ·exact .inl l
  ·exact .inr ⟨k,c,e,cellK x c e _ z⟩
 ·obtain ⟨v,z⟩:=I.cell x c e
  exact ⟨v,cellK x c e v z⟩
 ·obtain ⟨m,⟨o,_,_,ho,_⟩,_⟩:=I.loc
  exact free _ o (fun z=>(hch _ z).2.1 rfl) ho I.free
 ·obtain ⟨v,o,ho,hd⟩:=I.cell x c e
  exact free c o (fun z=>(hch c z).2.2.1 x c e rfl) ho (I.kQ x c e)
 ·obtain ⟨e,n,ne,nf,d⟩:=I.pin p hp
  have Pf:p.1 ∉ ch:=fun z=>(hch p.1 z).2.2.2 p hp rfl
  exact ⟨keep p.1 p.2 ne nf Pf e n,free p.1 p.2 Pf e n,ne,nf,d⟩
theorem Inv.un {t':Nat} (I:Inv X pins σ H s) (u:Un X.fs [] H H' s.heap h') (hok:nQ X.prog X.w H' h'):Inv X pins σ H' { s with heap:=h',toks:=t' }:=by
 obtain ⟨m,⟨o,es,ep,ho,r⟩,_⟩:=id I.loc
 obtain ⟨sl,hL⟩:=u.any ho I.free (by simp)
 exact I.step (g':=s.gens) (d':=s.drawn) (ch:=[]) (fun _ z=>nomatch z) (fun b o _ hb _ e n=>u.keep b o e n hb (by simp)) (fun b o _ hb _ e n=>u.slot b o e n hb (by simp)) (fun b o _ e n=>u.free b o e n (by simp)) (fun b o _ e=>u.there b o e (by simp)) u.tups u.vj u.w4 (fun m' hm=>by
  obtain ⟨o',es',ZW,ho',r'⟩:=hm
  rw [ho] at ho';cases ho'
  exact ⟨_,es',ZW,hL,r'⟩) hok I.bare
theorem Inv.call {g':Array GenState} {t':Nat} {d':Drawn} {ch:List Addr} (I:Inv X pins σ H s) (u:Un (frs X.stack) ch H H' s.heap h') (hok:nQ X.prog X.w H' h') (hg:AllBare g')
  (hch:∀ b∈ch,(b∈X.ex∨X.s₀.heap.objs.size≤b)∧b≠X.env.locals∧(∀ x c,X.env.cells.lookup x=some c→c≠b)∧∀ p∈X.pn++pins,p.1≠b) :
  Inv X pins σ H' { s with heap:=h',gens:=g',drawn:=d',toks:=t' }:=by
 obtain ⟨m,⟨o,es,ep,ho,r⟩,_⟩:=id I.loc
 obtain ⟨sl,hL⟩:=u.any ho I.free fun z=>(hch _ z).2.1 rfl
 exact I.step (ch:=ch) hch (fun b o hL hb hc e n=>u.keep b o e n (fun z=>(List.mem_cons.mp (I.w9 b z)).elim hL hb) hc) (fun b o _ _ hc e n=>u.any e n hc) (fun b o hc e n=>u.free b o e n hc) (fun b o hc e=>u.there b o e hc) u.tups u.vj u.w4 (fun m' hm=>by
  obtain ⟨o',es',ZW,ho',r'⟩:=hm
  rw [ho] at ho';cases ho'
  exact ⟨_,es',ZW,hL,r'⟩) hok hg
theorem Inv.turned {t':Nat} {it:Addr} (I:Inv X pins σ H s) (k:∀ b o,b≠it→s.heap.get? b=some o→h'.get? b=some o) (hn:H it=none) (hL:it≠X.env.locals)
  (h1:it∈X.ex∨X.s₀.heap.objs.size≤it) (h2:∀ x c,X.env.cells.lookup x=some c→c≠it) (h3:∀ p∈X.pn++pins,p.1≠it):Inv X pins σ H { s with heap:=h',toks:=t' }:=by
 have nit:∀ b u,H b=some u→b≠it:=fun b u e z=>by rw [z,hn] at e;cases e
 refine I.step (g':=s.gens) (d':=s.drawn) (ch:=[it]) (fun b hb=>?_) (fun b o _ _ hc e _=>k b o (fun z=>hc (by simp [z])) e) (fun b o _ _ hc e _=>⟨o.slots,k b o (fun z=>hc (by simp [z])) e⟩) (fun _ _ _ _ n=>n)
  (fun b o hc e=>⟨o,k b o (fun z=>hc (by simp [z])) e⟩) (fun _ _ e=>e) (fun _ _ _ e=>e) (fun b ps e=>⟨#[],by rw [e];simp⟩) (fun m hm=>?_) (fun b u e=>?_) I.bare
 ·have e:b=it:=by simpa using hb
  subst e
  exact ⟨h1,hL,h2,h3⟩
 ·obtain ⟨o,es,ep,ho,r⟩:=hm
  exact ⟨o,es,ep,k _ o (Ne.symm hL) ho,r⟩
 ·refine (I.hok b u e).stay (fun c v hc q=>k c v ?_ q) (fun _ q=>q) fun _ _ q=>q
  rcases hc with z | z
  ·rw [z];exact nit b u e
  ·exact nit c _ z
theorem Inv.tok (I:Inv X pins σ H s) (t:Nat):Inv X pins σ H { s with toks:=t }:=I.un (h':=s.heap) (t':=t) Un.refl I.hok
theorem Inv.kept {t':Nat} (I:Inv X pins σ H s) (k:∀ b u,s.heap.get? b=some u→h'.get? b=some u):Inv X pins σ H { s with heap:=h',toks:=t' }:=I.un (Un.kept k) (I.hok.kept k)
theorem Inv.laid {a:Addr} {o:HO} {t':Nat} (I:Inv X pins σ H s) (k:∀ b u,s.heap.get? b=some u→h'.get? b=some u) (hp:s.heap.objs.size≤a) (new:dh X.prog X.w (upd H a o) h' a o) :
  Inv X pins σ (upd H a o) { s with heap:=h',toks:=t' }:=I.un (Un.laid k hp (I.hok.fresh hp)) (I.hok.laid k hp new)
theorem Inv.write {x e:Addr} {o:HO} {t':Nat} (I:Inv X pins σ H s) (mu:RN (H x)) (he:e=x∨H e=some (.own x)) (k:∀ b u,b≠e→s.heap.get? b=some u→h'.get? b=some u) (NQ:∃ u,h'.get? e=some u)
  (new:dh X.prog X.w (upd H x o) h' x o):Inv X pins σ (upd H x o) { s with heap:=h',toks:=t' }:=I.un (Un.write mu he k NQ) (I.hok.write mu he k NQ new)
theorem Inv.weak {σ':List (Option V)} (I:Inv X pins σ H s) (hl:σ'.length=σ.length) (w:∀ (i:Nat) v,σ'[i]?=some (some v)→σ[i]?=some (some v)):Inv X pins σ' H s :=
 ⟨I.ok,I.os,I.bare,I.base,let ⟨m,hn,hl'⟩:=I.loc;⟨m,hn,fun i x v e1 e2 e3=>hl' i x v e1 (w i v e2) e3⟩,I.cell,I.free,I.kQ,I.pin,I.hok,hl.trans I.len⟩
theorem Inv.rJ {vS:List (Addr×Obj)} (I:Inv X pins σ H s) (h:∀ p∈vS,s.heap.get? p.1=some p.2∧H p.1=none∧p.1≠X.env.locals∧p.1 ∉ X.fs∧∀ v,p.2.data≠.cell v):Inv X vS σ H s :=
 ⟨I.ok,I.os,I.bare,I.base,I.loc,I.cell,I.free,I.kQ,fun p hp=>(List.mem_append.mp hp).elim (fun z=>I.pin p (List.mem_append_left _ z)) (h p),I.hok,I.len⟩
theorem zw {N:List Str} (hN:N.Nodup) {i j:Nat} {x:Str} (a:N[i]?=some x) (b:N[j]?=some x):i=j:=by
 obtain ⟨h1,e1⟩:=List.getElem?_eq_some_iff.mp a
 obtain ⟨h2,e2⟩:=List.getElem?_eq_some_iff.mp b
 exact (List.getElem_inj hN).mp (e1.trans e2.symm)
theorem vM {M:Model} {A:Around} {E:Value→Shared→Prop} {i:Nat} {x:Str} {v:V} {u:Value} {Q:Unit→Shared→Prop} (I:Inv X pins σ H s) (hN:X.N.Nodup) (hi:X.N[i]?=some x) (hx:Loc X.env.scope x) (r:RelV v u)
  (h:∀ s',Inv X pins (σ.set i (some v)) H s'→(∃ a,Heap.SameBut a s.heap s'.heap∧(a=X.env.locals∨X.env.cells.lookup x=some a))→Q () s') (hf:X.fn x=true∨X.env.scope.names.lookup x=some .local:=by first | exact .inl rfl | exact .inr rfl | assumption):wpAny M A (storeName X.env x u) Q E s:=by
 obtain ⟨m,hn,hl⟩:=id I.loc
 have hcls:(X.env.scope.kind == .class || (X.env.scope.kind == .module && X.env.locals != X.env.globals))=false:=by rw [I.ok.kind];rfl
 have hiσ:i < σ.length:=by rw [I.len];exact (List.getElem?_eq_some_iff.mp hi).1
 have Nj:=I.Nj
 have tracked:∀ {a:Addr} {h':Heap},(∃ o,s.heap.get? a=some o∧H a=none)→Heap.SameBut a s.heap h'→nQ X.prog X.w H h':=fun {a h'} ha hs b ob e=>by
  obtain ⟨_,_,hfree⟩:=ha
  refine (I.hok b ob e).stay (fun c w' hc q=>(hs.2 c ?_).trans q) (fun _ q=>q) fun _ _ q=>q
  rintro rfl
  rcases hc with rfl | hc
  ·rw [hfree] at e;cases e
  ·rw [hfree] at hc;cases hc
 rcases hx with hk | hk
 ·refine wpAny_storeName_local hk hn (fun h' hn' hs=>?_) hcls
  obtain ⟨oL,_,_,hoL,_⟩:=id hn
  refine h _ ⟨I.ok,I.os,I.bare,⟨fun b o e n hb hx=>?_,fun b o e n hb hx=>?_,I.base.free,fun b o e hx=>?_,I.base.tups,I.base.vj,I.base.w4⟩,⟨_,hn',fun j y v' e1 e2 e3=>?_⟩,fun y c e=>?_,I.free,I.kQ,fun p hp=>?_,tracked ⟨oL,hoL,I.free⟩ hs,by simpa using I.len⟩ ⟨_,hs,.inl rfl⟩
  ·exact (hs.2 b (Nat.ne_of_lt (Nat.lt_of_lt_of_le (Heap.lt_size e) I.ok.above))).trans (I.base.keep b o e n hb hx)
  ·obtain ⟨sl,e1⟩:=I.base.slot b o e n hb hx
   exact ⟨sl,(hs.2 b (Nat.ne_of_lt (Nat.lt_of_lt_of_le (Heap.lt_size e) I.ok.above))).trans e1⟩
  ·obtain ⟨o',e1⟩:=I.base.there b o e hx
   exact ⟨o',(hs.2 b (Nat.ne_of_lt (Nat.lt_of_lt_of_le (Heap.lt_size e) I.ok.above))).trans e1⟩
  ·by_cases hj:j=i
   ·subst hj
    rw [hi] at e1;cases e1
    rw [List.getElem?_set_self hiσ] at e2
    cases e2
    exact ⟨u,r,.inl ⟨hk,by simp⟩⟩
   ·rw [List.getElem?_set_ne (Ne.symm hj)] at e2
    obtain ⟨u',r',q⟩:=hl j y v' e1 e2 e3
    refine ⟨u',r',?_⟩
    rcases q with ⟨k,e⟩ | ⟨k,c,e,z⟩
    ·refine .inl ⟨k,?_⟩
     have:y≠x:=fun e=>hj (zw hN e1 (e ▸ hi))
     simp [this,e]
    ·exact .inr ⟨k,c,e,z.sameBut hs (Nj y c e)⟩
  ·obtain ⟨w',z⟩:=I.cell y c e
   exact ⟨w',z.sameBut hs (Nj y c e)⟩
  ·obtain ⟨e,n,ne,nf,d⟩:=I.pin p hp
   exact ⟨(hs.2 p.1 ne).trans e,n,ne,nf,d⟩
 ·have hfn:X.fn x=true:=by
   rcases hf with z | z
   ·exact z
   ·rw [z] at hk;cases hk
  obtain ⟨c,hc⟩:=I.ok.has x (.inl hk)
  obtain ⟨w',z⟩:=I.cell x c hc
  refine wpAny_storeName_cell I.ok.kind hk hc z (fun h' hc' hs=>?_)
  obtain ⟨oc,hoc,Zi⟩:=id z
  refine h { s with heap:=h' } ⟨I.ok,I.os,I.bare,⟨fun b o e n hb hx=>?_,fun b o e n hb hx=>?_,I.base.free,fun b o e hx=>?_,I.base.tups,I.base.vj,I.base.w4⟩,⟨m,hn.sameBut hs (Ne.symm (Nj x c hc)),fun j y v' e1 e2 e3=>?_⟩,fun y c' e=>?_,I.free,I.kQ,fun p hp=>?_,tracked ⟨oc,hoc,I.kQ x c hc⟩ hs,by simpa using I.len⟩ ⟨c,hs,.inr hc⟩
  ·exact (hs.2 b (Nat.ne_of_lt (Nat.lt_of_lt_of_le (Heap.lt_size e) (I.ok.RB x c hfn hc)))).trans (I.base.keep b o e n hb hx)
  ·obtain ⟨sl,e1⟩:=I.base.slot b o e n hb hx
   exact ⟨sl,(hs.2 b (Nat.ne_of_lt (Nat.lt_of_lt_of_le (Heap.lt_size e) (I.ok.RB x c hfn hc)))).trans e1⟩
  ·obtain ⟨o',e1⟩:=I.base.there b o e hx
   exact ⟨o',(hs.2 b (Nat.ne_of_lt (Nat.lt_of_lt_of_le (Heap.lt_size e) (I.ok.RB x c hfn hc)))).trans e1⟩
  ·by_cases hj:j=i
   ·subst hj
    rw [hi] at e1;cases e1
    rw [List.getElem?_set_self hiσ] at e2
    cases e2
    exact ⟨u,r,.inr ⟨.inl hk,c,hc,hc'⟩⟩
   ·rw [List.getElem?_set_ne (Ne.symm hj)] at e2
    obtain ⟨u',r',q⟩:=hl j y v' e1 e2 e3
    refine ⟨u',r',?_⟩
    rcases q with q | ⟨k,c',e,z'⟩
    ·exact .inl q
    ·refine .inr ⟨k,c',e,z'.sameBut hs ?_⟩
     rintro rfl
     exact hj (zw hN e1 (I.ok.inj _ _ _ e hc ▸ hi))
  ·by_cases hcc:c'=c
   ·subst hcc;exact ⟨_,hc'⟩
   ·obtain ⟨w2,z2⟩:=I.cell y c' e
    exact ⟨w2,z2.sameBut hs hcc⟩
  ·obtain ⟨e,n,ne,nf,d⟩:=I.pin p hp
   refine ⟨(hs.2 p.1 ?_).trans e,n,ne,nf,d⟩
   intro q
   rw [q,hoc] at e
   have q':oc=p.2:=Option.some.inj e
   exact d w' (by rw [← q'];exact Zi)
theorem yT {M:Model} {A:Around} {E:Value→Shared→Prop} {i:Nat} {x:Str} {v:V} {u:Value} {Q:Unit→Shared→Prop} (I:Inv X pins σ H s) (hN:X.N.Nodup) (hi:X.N[i]?=some x) (hx:Loc X.env.scope x) (r:RelV v u)
  (h:∀ s',Inv X pins (σ.set i (some v)) H s'→Q () s') (hf:X.fn x=true∨X.env.scope.names.lookup x=some .local:=by first | exact .inl rfl | exact .inr rfl | assumption):wpAny M A (storeName X.env x u) Q E s :=
 vM I hN hi hx r (fun s' I' _=>h s' I') hf
theorem Inv.RA {s':Shared} {ch:List Addr} (I:Inv X pins σ H s) (ho:s'.os=s.os) (u:Un (frs X.stack) ch H H' s.heap s'.heap) (hok:nQ X.prog X.w H' s'.heap) (hg:AllBare s'.gens)
  (hch:∀ b∈ch,(b∈X.ex∨X.s₀.heap.objs.size≤b)∧b≠X.env.locals∧(∀ x c,X.env.cells.lookup x=some c→c≠b)∧∀ p∈X.pn++pins,p.1≠b):Inv X pins σ H' s':=by
 obtain ⟨h',g',d',t',o'⟩:=s'
 have e:o'=s.os:=ho
 subst e
 exact I.call (g':=g') (t':=t') (d':=d') u hok hg hch
end
abbrev XK:=Value→Option Addr→Hp→Prop
abbrev St:=List (Option V)
abbrev VK:=V→Hp→Prop
abbrev TE:=St→Hp→VK→Prop
abbrev TT:=St→Hp→(Bool→Hp→Prop)→Prop
abbrev TA:=St→Hp→(List V→Hp→Prop)→Prop
structure Ends where
 nx:St→Hp→Prop
 rt:VK
 bk:St→Hp→Prop:=fun _ _=>False
 ct:St→Hp→Prop:=fun _ _=>False
abbrev TS:=Ends→St→Hp→Prop
def EP (X:Cx) (pins:List (Addr×Obj)) (σ:St) (Q:VK) (u:Value) (s':Shared):Prop:=∃ v H',Inv X pins σ H' s'∧RelV v u∧Q v H'
def TP (X:Cx) (pins:List (Addr×Obj)) (σ:St) (Q:Bool→Hp→Prop) (b:Bool) (s':Shared):Prop:=∃ H',Inv X pins σ H' s'∧Q b H'
def AP (X:Cx) (pins:List (Addr×Obj)) (σ:St) (Q:List V→Hp→Prop) (us:List Value) (s':Shared):Prop:=∃ vs H',Inv X pins σ H' s'∧Vals vs us∧Q vs H'
def SP (X:Cx) (pins:List (Addr×Obj)) (D:Ends) (f:Flow) (s':Shared):Prop :=
 match f with
 | .next=>∃ σ' H',Inv X pins σ' H' s'∧D.nx σ' H'
 | .brk=>∃ σ' H',Inv X pins σ' H' s'∧D.bk σ' H'
 | .cont=>∃ σ' H',Inv X pins σ' H' s'∧D.ct σ' H'
 | .ret u=>∃ v σ' H',Inv X pins σ' H' s'∧RelV v u∧D.rt v H'
def PE (X:Cx) (e:Expr) (t:TE):Prop :=
 ∀ (pins:List (Addr×Obj)) (s:Shared) (σ:St) (H:Hp) (Q:VK),Inv X pins σ H s→t σ H Q→wpAny (model X.prog X.w) X.A (eval e X.env) (EP X pins σ Q) X.xe s
def PT (X:Cx) (e:Expr) (t:TT):Prop :=
 ∀ (pins:List (Addr×Obj)) (s:Shared) (σ:St) (H:Hp) (Q:Bool→Hp→Prop),Inv X pins σ H s→t σ H Q→wpAny (model X.prog X.w) X.A (isTrue e X.env (eval e X.env)) (TP X pins σ Q) X.xe s
def PW (X:Cx) (e:Expr) (t:TT):Prop :=
 ∀ (whole:Sem Value) (pins:List (Addr×Obj)) (s:Shared) (σ:St) (H:Hp) (Q:Bool→Hp→Prop),Inv X pins σ H s→t σ H Q→wpAny (model X.prog X.w) X.A (isTrue e X.env whole) (TP X pins σ Q) X.xe s
theorem PW.pt {X:Cx} {e:Expr} {t:TT} (h:PW X e t):PT X e t:=h _
def PA (X:Cx) (es:List Expr) (t:TA):Prop :=
 ∀ (pos:Pos) (pins:List (Addr×Obj)) (s:Shared) (σ:St) (H:Hp) (Q:List V→Hp→Prop),Inv X pins σ H s→t σ H Q→wpAny (model X.prog X.w) X.A (spliced (backTo pos (starEach es X.env))) (AP X pins σ Q) X.xe s
def PS (X:Cx) (st:Stmt) (t:TS):Prop :=
 ∀ (pins:List (Addr×Obj)) (s:Shared) (σ:St) (H:Hp) (D:Ends),Inv X pins σ H s→t D σ H→wpAny (model X.prog X.w) X.A (exec st X.env) (SP X pins D) X.xe s
def rR (X:Cx) (st:List Stmt) (t:TS):Prop :=
 ∀ (pins:List (Addr×Obj)) (s:Shared) (σ:St) (H:Hp) (D:Ends),Inv X pins σ H s→t D σ H→wpAny (model X.prog X.w) X.A (execs st X.env) (SP X pins D) X.xe s
theorem eY {α:Type} {t:Sem α} {Q Q':α→Shared→Prop} {M:Model} {A:Around} {E:Value→Shared→Prop} {s:Shared} (h:wpAny M A t Q E s) (hQ:∀ a s,Q a s→Q' a s):wpAny M A t Q' E s:=wpAny_mono h hQ fun _ _ x=>x
end L2
namespace L2
open PySem PySem.Spec PyProof.Rows
section
variable {X:Cx}
def Om (i:Nat):TE:=fun σ H Q=>∃ v,σ[i]?=some (some v)∧Q v H
def tC (v:V):TE:=fun _ H Q=>Q v H
theorem LW {i:Nat} {x:Str} {pos:Pos} (hN:X.N[i]?=some x) (hv:Vis X.env.scope x) (hd:(x == ("__debug__":Str))=false:=by decide) (hcd:(x == ("__classdict__":Str))=false:=by decide):PE X (.Name x pos) (Om i):=by
 intro pins s σ H Q I h
 obtain ⟨v,e,h⟩:=h
 obtain ⟨m,hn,hl⟩:=I.loc
 obtain ⟨u,r,l⟩:=hl i x v hN e hv
 have fin:EP X pins σ Q u s:=⟨v,H,I,r,h⟩
 rcases l with ⟨hk,hm⟩ | ⟨hk,c,hc,hcell⟩
 ·exact wpAny_Name (wpAny_loadName_local I.ok.kind hk hn hm fin) hd
 ·rcases hk with hk | hk
  ·exact wpAny_Name (wpAny_loadName_cell I.ok.kind hk hc hcell fin) hd
  ·exact wpAny_Name (wpAny_loadName_free I.ok.kind hk hc hcell fin hcd) hd
theorem aj {i j pos}:PE X (.Constant (.int i) j pos) (tC (.int i)):=fun _ _ _ H _ I h=>wpAny_Constant_int ⟨.int i,H,I.tok _,⟨_,rfl⟩,h⟩
theorem fG {b j pos}:PE X (.Constant (.bool b) j pos) (tC (.bl b)):=fun _ _ _ H _ I h=>Constant_bool ⟨.bl b,H,I,rfl,h⟩
theorem kr {j pos}:PE X (.Constant .none j pos) (tC .gc):=fun _ _ _ H _ I h=>Constant_none ⟨.gc,H,I,rfl,h⟩
theorem cB {x j pos}:PE X (.Constant (.str x) j pos) (tC (.str x)):=fun _ _ _ H _ I h=>Calls.Constant_str ⟨.str x,H,I.tok _,⟨_,rfl⟩,h⟩
def Gl (X:Cx) (x:Str):Prop:=X.env.kindOf x=some .globalImplicit
theorem xW {E:Value→Shared→Prop} {pins:List (Addr×Obj)} {s:Shared} {σ:St} {H:Hp} {x:Str} {u:Value} {pos:Pos} {Q:Value→Shared→Prop} (I:Inv X pins σ H s) (hg:Gl X x) (hm:X.mg x=some u) (h:Q u s)
  (hd:(x == ("__debug__":Str))=false:=by decide):wpAny (model X.prog X.w) X.A (eval (.Name x pos) X.env) Q E s :=
 Calls.Name_function_global I.ok.kind hg (Calls.loadGlobal_global (by rw [I.ok.glob];exact I.mod.glob.keeps I.bk) hm h) hd
theorem uf {E:Value→Shared→Prop} {pins:List (Addr×Obj)} {s:Shared} {σ:St} {H:Hp} {x:Str} {u:Value} {pos:Pos} {Q:Value→Shared→Prop} (I:Inv X pins σ H s) (hg:Gl X x) (hm:X.mg x=none) (hv:bootBuiltins x=some u) (h:Q u s)
  (hn:x≠"__name__":=by decide) (hd:(x == ("__debug__":Str))=false:=by decide):wpAny (model X.prog X.w) X.A (eval (.Name x pos) X.env) Q E s:=by
 obtain ⟨mb,h1,h2⟩:=I.mod.blt
 exact Calls.Name_function_global I.ok.kind hg (Calls.loadGlobal_builtin (by rw [I.ok.glob];exact I.mod.glob.keeps I.bk) hm (by rw [I.ok.blt];exact h1.keeps I.bk) ((h2 x hn).trans hv) h) hd
theorem xM {x:Str} {v:V} {u:Value} {pos:Pos} (hg:Gl X x) (hm:X.mg x=some u) (r:RelV v u) (hd:(x == ("__debug__":Str))=false:=by decide):PE X (.Name x pos) (tC v) :=
 fun _ _ _ H _ I h=>xW I hg hm ⟨v,H,I,r,h⟩ hd
theorem fF {x:Str} {v:V} {u:Value} {pos:Pos} (hg:Gl X x) (hm:X.mg x=none) (hv:bootBuiltins x=some u) (r:RelV v u) (hn:x≠"__name__":=by decide) (hd:(x == ("__debug__":Str))=false:=by decide):PE X (.Name x pos) (tC v) :=
 fun _ _ _ H _ I h=>uf I hg hm hv ⟨v,H,I,r,h⟩ hn hd
variable {a b:Expr} {ta tb:TE} {pos:Pos}
def tB (t:TE):TT:=fun σ H Q=>t σ H fun x H1=>∃ c,x=.bl c∧Q c H1
theorem cZ {e:Expr} {t:TE} (h:PE X e t) (he:∀ whole,isTrue e X.env whole=(do let v ← whole;standAt e.pos;holding [v] (truthy v)):=by intro _;rfl):PT X e (tB t):=by
 intro pins s σ H Q I hw
 refine isTrue_plain (eY (h pins s σ H _ I hw) fun v s1 ⟨x,H1,I1,r1,q1⟩=>?_) (he _)
 obtain ⟨d,rfl,q⟩:=q1
 cases r1
 exact wpAny_truthy_bool ⟨H1,I1,q⟩
variable {tA R3:TT} {rest:List Expr}
def UM (t u:TT):TT:=fun σ H Q=>t σ H fun c H1=>if c=true then u σ H1 Q else Q false H1
def tOr (t u:TT):TT:=fun σ H Q=>t σ H fun c H1=>if c=true then Q true H1 else u σ H1 Q
def UG (t:TT):TT:=fun σ H Q=>t σ H fun c H1=>Q (!c) H1
theorem oq (ha:PT X a tA):PW X (.BoolOp .And [a] pos) tA:=by
 intro wh pins s σ H Q I h
 refine isTrue_and (eY (ha pins s σ H Q I h) fun c s1 e=>?_)
 cases c with
 | true=>exact isTrue_and_nil e
 | false=>exact e
theorem jf (ha:PT X a tA):PW X (.BoolOp .Or [a] pos) tA:=by
 intro wh pins s σ H Q I h
 refine isTrue_or (eY (ha pins s σ H Q I h) fun c s1 e=>?_)
 cases c with
 | false=>exact isTrue_or_nil e
 | true=>exact e
theorem nk (ha:PT X a tA) (hb:PW X (.BoolOp .And (b::rest) pos) R3):PW X (.BoolOp .And (a::b::rest) pos) (UM tA R3):=by
 intro wh pins s σ H Q I h
 refine isTrue_and (eY (ha pins s σ H _ I h) fun c s1 ⟨H1,I1,q1⟩=>?_)
 cases c with
 | true=>exact hb wh pins s1 σ H1 Q I1 q1
 | false=>exact ⟨H1,I1,q1⟩
theorem jg (ha:PT X a tA) (hb:PW X (.BoolOp .Or (b::rest) pos) R3):PW X (.BoolOp .Or (a::b::rest) pos) (tOr tA R3):=by
 intro wh pins s σ H Q I h
 refine isTrue_or (eY (ha pins s σ H _ I h) fun c s1 ⟨H1,I1,q1⟩=>?_)
 cases c with
 | true=>exact ⟨H1,I1,q1⟩
 | false=>exact hb wh pins s1 σ H1 Q I1 q1
theorem eT (ha:PT X a tA):PT X (.UnaryOp .Not a pos) (UG tA):=by
 intro pins s σ H Q I h
 exact isTrue_not (ha pins s σ H (fun c H1=>Q (!c) H1) I h)
def OF (ta tb:TE):TE:=fun σ H Q=>ta σ H fun x H1=>∃ c,x=.bl c∧if c=true then tb σ H1 Q else Q (.bl false) H1
def Ou (ta:TE):TE:=fun σ H Q=>ta σ H fun x H1=>∃ c,x=.bl c∧Q (.bl (!c)) H1
theorem gu {op} {t:TE} (h:PE X a t):PE X (.BoolOp op [a] pos) t:=fun pins s σ H Q I hw=>BoolOp_one (h pins s σ H Q I hw)
theorem dc (ha:PE X a ta) (hb:PE X (.BoolOp .And (b::rest) pos) tb):PE X (.BoolOp .And (a::b::rest) pos) (OF ta tb):=by
 intro pins s σ H Q I h
 refine BoolOp_and (eY (ha pins s σ H _ I h) fun v s1 ⟨x,H1,I1,r1,q1⟩=>?_)
 obtain ⟨c,rfl,q1⟩:=q1
 cases r1
 refine wpAny_truthy_bool ?_
 cases c with
 | true=>exact hb pins s1 σ H1 Q I1 q1
 | false=>exact ⟨.bl false,H1,I1,rfl,q1⟩
theorem Gk (ha:PE X a ta):PE X (.UnaryOp .Not a pos) (Ou ta):=by
 intro pins s σ H Q I h
 refine UnaryOp_ (eY (ha pins s σ H _ I h) fun v s1 ⟨x,H1,I1,r1,q1⟩=>?_)
 obtain ⟨c,rfl,q1⟩:=q1
 cases r1
 exact not_of (wpAny_truthy_bool ⟨.bl (!c),H1,I1,rfl,q1⟩)
end
end L2
namespace L2
open PySem PySem.Spec PyProof.Rows
def bz (K:PySem.W.Frag) (H:Hp) (a:Addr) (xs:List V):Prop :=
 Rd H a (.lst xs) ∨
  ∃ (o:Obj) (its:Array Value) (n:Nat),K.lookup a=some o∧o.cls=.type "list"∧o.dict=none∧o.data=.seq its n∧its.size≤sizeLine∧Vals xs its.toList
def cR (K:PySem.W.Frag) (H:Hp) (a:Addr) (xs:List V):Prop :=
 Rd H a (.tup xs) ∨
  ∃ (o:Obj) (its:Array Value) (n:Nat),K.lookup a=some o∧o.cls=.type "tuple"∧o.data=.seq its n∧its.size≤sizeLine∧Vals xs its.toList
def a2p:Value→Option V
 | .none=>some .gc
 | .bool b=>some (.bl b)
 | .int i _=>some (.int i)
 | .str x _=>some (.str x)
 | .bytes b _=>some (.E9 b)
 | .float b _=>some (.Le b)
 | .ref a=>some (.ref a)
 | .type n=>some (.ty n)
 | _=>none
theorem RelV.abs {x:V} {u:Value} (r:RelV x u):a2p u=some x:=by
 cases x with
 | gc=>cases r;rfl
 | bl _=>cases r;rfl
 | int _=>obtain ⟨t,rfl⟩:=r;rfl
 | str _=>obtain ⟨t,rfl⟩:=r;rfl
 | E9 _=>obtain ⟨t,rfl⟩:=r;rfl
 | Le _=>obtain ⟨t,rfl⟩:=r;rfl
 | ref _=>cases r;rfl
 | ty _=>cases r;rfl
theorem RelV.inj {x y:V} {u:Value} (r:RelV x u) (q:RelV y u):x=y:=Option.some.inj (r.abs.symm.trans q.abs)
theorem Vals.inj:∀ {xs ys:List V} {us:List Value},Vals xs us→Vals ys us→xs=ys
 | _,_,_,.nil,.nil=>rfl
 | _,_,_,.cons r t,.cons r' t'=>by rw [r.inj r',Vals.inj t t']
section
variable {X:Cx} {pins:List (Addr×Obj)} {σ:St} {H:Hp} {s:Shared} {a:Addr} {xs ys:List V}
theorem bz.of {K:PySem.W.Frag} (h:H a=some (.lst xs)):bz K H a xs:=.inl (.inl h)
theorem cR.of {K:PySem.W.Frag} (h:H a=some (.tup xs)):cR K H a xs:=.inl (.inl h)
theorem Inv.list (I:Inv X pins σ H s) (h:bz X.K H a xs):∃ its:List Value,Vals xs its∧PlainL s.heap a its.toArray∧xs.length≤sizeLine:=by
 rcases h with h | ⟨o,its,n,hk,hc,hd,hs,hz,r⟩
 ·obtain ⟨z,its,n,r,e⟩:=h.ok I.hok
  exact ⟨its,r,⟨_,n,e,rfl,rfl,rfl⟩,z⟩
 ·refine ⟨its.toList,r,⟨o,n,I.lU a o hk,hc,hd,by simpa using hs⟩,?_⟩
  have e:=r.length
  simp only [Array.length_toList] at e
  omega
theorem Inv.tuple (I:Inv X pins σ H s) (h:cR X.K H a xs):∃ its:List Value,Vals xs its∧IsTup s.heap a its.toArray∧xs.length≤sizeLine:=by
 rcases h with h | ⟨o,its,n,hk,hc,hs,hz,r⟩
 ·obtain ⟨z,its,r,p⟩:=h.ok I.hok
  exact ⟨its,r,p,z⟩
 ·refine ⟨its.toList,r,⟨o,I.lU a o hk,hc,n,by simpa using hs⟩,?_⟩
  have e:=r.length
  simp only [Array.length_toList] at e
  omega
theorem Inv.zE (I:Inv X pins σ H s) (h:bz X.K H a xs) (h':bz X.K H a ys):xs=ys:=by
 obtain ⟨its,r,⟨o,n,e,_,_,d⟩,_⟩:=I.list h
 obtain ⟨its',r',⟨o',n',e',_,_,d'⟩,_⟩:=I.list h'
 rw [e] at e';cases e'
 rw [d] at d'
 injection d' with d1 _
 have:its=its':=by simpa using congrArg Array.toList d1
 subst this
 exact r.inj r'
theorem Inv.vL (I:Inv X pins σ H s) (h:cR X.K H a xs) (h':cR X.K H a ys):xs=ys:=by
 obtain ⟨its,r,⟨o,e,_,n,d⟩,_⟩:=I.tuple h
 obtain ⟨its',r',⟨o',e',_,n',d'⟩,_⟩:=I.tuple h'
 rw [e] at e';cases e'
 rw [d] at d'
 injection d' with d1 _
 have:its=its':=by simpa using congrArg Array.toList d1
 subst this
 exact r.inj r'
end
abbrev Cx.uW (X:Cx) (E:Value→Shared→Prop):Cx:={ X with xe:=E }
abbrev Cx.Sk (X:Cx):Cx:=X.uW fun _ _=>False
theorem Cx.Ok.uW {X:Cx} (ok:X.Ok) (E:Value→Shared→Prop):(X.uW E).Ok :=
 ⟨ok.mod,ok.kind,ok.glob,ok.blt,ok.above,ok.inj,ok.has,ok.RB,ok.hd,ok.frames,ok.stk,ok.Ul,ok.bs,ok.KD,ok.GD,ok.HU,ok.qV,ok.MF⟩
theorem Cx.Ok.lD {X:Cx} {E:Value→Shared→Prop} (ok:(X.uW E).Ok):X.Ok :=
 ⟨ok.mod,ok.kind,ok.glob,ok.blt,ok.above,ok.inj,ok.has,ok.RB,ok.hd,ok.frames,ok.stk,ok.Ul,ok.bs,ok.KD,ok.GD,ok.HU,ok.qV,ok.MF⟩
section
variable {X:Cx} {pins:List (Addr×Obj)} {σ:St} {H:Hp} {s:Shared} {E:Value→Shared→Prop}
theorem Inv.uW (I:Inv X pins σ H s) (E:Value→Shared→Prop):Inv (X.uW E) pins σ H s:=⟨I.ok.uW E,I.os,I.bare,I.base,I.loc,I.cell,I.free,I.kQ,I.pin,I.hok,I.len⟩
theorem Inv.lD (I:Inv (X.uW E) pins σ H s):Inv X pins σ H s:=⟨I.ok.lD,I.os,I.bare,I.base,I.loc,I.cell,I.free,I.kQ,I.pin,I.hok,I.len⟩
theorem SP.lD {D:Ends} {f:Flow} {s':Shared} (h:SP (X.uW E) pins D f s'):SP X pins D f s':=by
 cases f with
 | next=>obtain ⟨σ',H',I,q⟩:=h;exact ⟨σ',H',I.lD,q⟩
 | brk=>obtain ⟨σ',H',I,q⟩:=h;exact ⟨σ',H',I.lD,q⟩
 | cont=>obtain ⟨σ',H',I,q⟩:=h;exact ⟨σ',H',I.lD,q⟩
 | ret u=>obtain ⟨v,σ',H',I,r,q⟩:=h;exact ⟨v,σ',H',I.lD,r,q⟩
theorem rR.Sk {st:List Stmt} {t:TS} (h:rR X.Sk st t):rR X st t:=fun pins s σ H D I hw =>
 wpAny_mono (h pins s σ H D (I.uW _) hw) (fun _ _ q=>q.lD) fun _ _ z=>False.elim z
end
section
variable {X:Cx} {st:Stmt} {rest:List Stmt} {t u:TS} {e:Expr} {te:TE} {pos:Pos}
def Ow:TS:=fun D σ H=>D.nx σ H
def UD (t u:TS):TS:=fun D σ H=>t { D with nx:=u D } σ H
theorem bN:rR X [] Ow:=fun _ _ σ H _ I h=>wpAny_execs_nil ⟨σ,H,I,h⟩
theorem ak (h1:PS X st t) (h2:rR X rest u):rR X (st::rest) (UD t u):=by
 intro pins s σ H D I h
 refine wpAny_execs_cons (eY (h1 pins s σ H { D with nx:=u D } I h) fun f s1 q=>?_)
 cases f with
 | next =>
  obtain ⟨σ',H',I',q⟩:=q
  exact h2 pins s1 σ' H' D I' q
 | ret v=>exact q
 | brk=>exact q
 | cont=>exact q
theorem ay (h1:PS X st t):rR X [st] t:=by
 intro pins s σ H D I h
 refine wpAny_execs_cons (eY (h1 pins s σ H D I h) fun f s1 q=>?_)
 cases f with
 | next=>exact wpAny_execs_nil q
 | ret v=>exact q
 | brk=>exact q
 | cont=>exact q
theorem Inv.quiet {pins:List (Addr×Obj)} {σ:St} {H:Hp} {s:Shared} (I:Inv X pins σ H s):interactive X.env=false:=by simp [interactive,I.ok.kind]
def OA (te:TE):TS:=fun D σ H=>te σ H fun _ H1=>D.nx σ H1
theorem iC (he:PE X e te) (hs:swapsWith e none pos.line X.env=pure false:=by rfl):PS X (.Expr e pos) (OA te):=by
 intro pins s σ H D I h
 exact wpAny_Expr_any (eY (he pins s σ H _ I h) fun v s1 ⟨x,H1,I1,r1,q1⟩=>⟨σ,H1,I1,q1⟩) I.quiet hs
def UE (te:TE):TS:=fun D σ H=>te σ H D.rt
theorem aH (he:PE X e te):PS X (.Return (some e) pos) (UE te):=by
 intro pins s σ H D I h
 exact wpAny_Return_some (eY (he pins s σ H _ I h) fun v s1 ⟨x,H1,I1,r1,q1⟩=>⟨x,σ,H1,I1,r1,q1⟩)
def UJ (c:TT) (t u:TS):TS:=fun D σ H=>c σ H fun b H1=>if b=true then t D σ H1 else u D σ H1
theorem cE {c:Expr} {a b:List Stmt} {tc:TT} (hc:PT X c tc) (ha:rR X a t) (hb:rR X b u):PS X (.If c a b pos) (UJ tc t u):=by
 intro pins s σ H D I h
 refine wpAny_If (eY (hc pins s σ H _ I h) fun d s1 ⟨H1,I1,q1⟩=>?_)
 cases d with
 | true=>exact ha pins s1 σ H1 D I1 q1
 | false=>exact hb pins s1 σ H1 D I1 q1
end
abbrev TG:=V→St→Hp→(St→Hp→Prop)→Prop
abbrev Jb:=List V→St→Hp→(St→Hp→Prop)→Prop
def PG (X:Cx) (target:Expr) (t:TG):Prop :=
 ∀ (pins:List (Addr×Obj)) (s:Shared) (σ:St) (H:Hp) (v:V) (u:Value) (Q:St→Hp→Prop),Inv X pins σ H s→RelV v u→t v σ H Q →
  wpAny (model X.prog X.w) X.A (assign target X.env u) (fun _ s'=>∃ σ' H',Inv X pins σ' H' s'∧Q σ' H') X.xe s
def Ob (X:Cx) (ts:List Expr) (t:Jb):Prop :=
 ∀ (pins:List (Addr×Obj)) (s:Shared) (σ:St) (H:Hp) (vs:List V) (us:List Value) (Q:St→Hp→Prop),Inv X pins σ H s→Vals vs us→t vs σ H Q →
  wpAny (model X.prog X.w) X.A (assignInOrder ((assignEach ts X.env).map (·.2)) us) (fun _ s'=>∃ σ' H',Inv X pins σ' H' s'∧Q σ' H') X.xe s
abbrev ID:=V→V→V→Hp→(Hp→Prop)→Prop
def Nr (X:Cx) (t:ID):Prop :=
 ∀ (pins:List (Addr×Obj)) (s:Shared) (σ:St) (H:Hp) (o i v:V) (ov iv u:Value) (Q:Hp→Prop),Inv X pins σ H s→RelV o ov→RelV i iv→RelV v u→t o i v H Q →
  wpAny (model X.prog X.w) X.A (setItem ov iv u) (fun _ s'=>∃ H',Inv X pins σ H' s'∧Q H') X.xe s
abbrev Uv:=V→V→Hp→VK→Prop
def PIp (X:Cx) (op:Operator) (t:Uv):Prop :=
 ∀ (pins:List (Addr×Obj)) (s:Shared) (σ:St) (H:Hp) (x y:V) (v u:Value) (Q:VK),Inv X pins σ H s→RelV x v→RelV y u→t x y H Q →
  wpAny (model X.prog X.w) X.A (inplaceOp op v u) (EP X pins σ Q) X.xe s
section
variable {X:Cx} {pos:Pos}
def Hs (i:Nat):TG:=fun v σ H Q=>Q (σ.set i (some v)) H
theorem aS {i:Nat} {x:Str} (hN:X.N.Nodup) (hi:X.N[i]?=some x) (hx:Loc X.env.scope x) (hf:X.fn x=true∨X.env.scope.names.lookup x=some .local:=by first | exact .inl rfl | exact .inr rfl | assumption):PG X (.Name x pos) (Hs i):=by
 intro pins s σ H v u Q I r h
 exact wpAny_assign_Name (yT I hN hi hx r (fun s' I'=>⟨_,H,I',h⟩) hf)
def ZF:Jb:=fun vs σ H Q=>vs=[]∧Q σ H
def Qd (t:TG) (u:Jb):Jb:=fun vs σ H Q=>∃ v r,vs=v::r∧t v σ H fun σ' H'=>u r σ' H' Q
theorem fW:Ob X [] ZF:=by
 intro pins s σ H vs us Q I r h
 obtain ⟨e,h⟩:=h
 subst e
 cases r
 exact assignInOrder_nil ⟨σ,H,I,h⟩
theorem bT {e:Expr} {es:List Expr} {t:TG} {u:Jb} (h1:PG X e t) (h2:Ob X es u)
  (hs:(assignEach (e::es) X.env).map (·.2)=assign e X.env::(assignEach es X.env).map (·.2):=by rfl):Ob X (e::es) (Qd t u):=by
 intro pins s σ H vs us Q I r h
 obtain ⟨v,vr,e1,h⟩:=h
 subst e1
 cases r with
 | cons r rr =>
  rw [hs]
  refine assignInOrder_cons (eY (h1 pins s σ H _ _ _ I r h) fun _ s1 ⟨σ1,H1,I1,q1⟩=>?_)
  exact h2 pins s1 σ1 H1 _ _ Q I1 rr q1
def Qc (K:PySem.W.Frag) (n:Nat) (t:Jb):TG:=fun v σ H Q=>∃ a xs,v=.ref a∧cR K H a xs∧xs.length=n∧t xs σ H Q
theorem xH {es:List Expr} {k:Nat} {t:Jb} {n:Nat} (hc:X.calm=true) (h:Ob X es t)
  (hn:(assignEach es X.env).length=n:=by rfl) (hst:(assignEach es X.env).findIdx? (·.1)=none:=by rfl):PG X (.Tuple es k pos) (Qc X.K n t):=by
 intro pins s σ H v u Q I r hw
 obtain ⟨a,xs,e1,hq,hl,hw⟩:=hw
 subst e1
 cases r
 obtain ⟨its,rv,ht,hz⟩:=I.tuple hq
 refine assign_Tuple_tuple (I.ok.hd hc) ht (by simp [hn,← hl,rv.length]) hst fun h' hx=>?_
 have I1:Inv X pins σ H { s with heap:=h' }:=I.kept (t':=s.toks) fun b o e=>hx b o (Nat.ne_of_lt (Heap.lt_size e)) e
 exact h pins _ σ H xs _ Q I1 (by simpa using rv) hw
def ZE (to ti:TE) (t:ID):TG:=fun v σ H Q=>to σ H fun o H1=>ti σ H1 fun i H2=>t o i v H2 fun H3=>Q σ H3
theorem xJ {o i:Expr} {to ti:TE} {t:ID} (ho:PE X o to) (hi:PE X i ti) (hs:Nr X t)
  (ha:∀ v,assign (.Subscript o i pos) X.env v=(do
   let ov ← holding [v] (eval o X.env)
   let iv ← holding [v,ov] (eval i X.env)
   standAt pos
   holding [v,ov,iv] (setItem ov iv v)
   release [v,ov,iv] []):=by intro _;rfl):PG X (.Subscript o i pos) (ZE to ti t):=by
 intro pins s σ H v u Q I r h
 rw [ha]
 refine wpAny_bind (wpAny_holding (eY (ho pins s σ H _ I h) fun ov s1 ⟨x,H1,I1,r1,q1⟩=>?_))
 refine wpAny_bind (wpAny_holding (eY (hi pins s1 σ H1 _ I1 q1) fun iv s2 ⟨y,H2,I2,r2,q2⟩=>?_))
 refine wpAny_bind (wpAny_standAt (wpAny_bind (wpAny_holding (eY (hs pins s2 σ H2 x y v ov iv u _ I2 r1 r2 r q2) fun _ s3 ⟨H3,I3,q3⟩=>?_))))
 exact wpAny_release ⟨σ,H3,I3,q3⟩
def LB (te:TE) (g:TG):TS:=fun D σ H=>te σ H fun x H1=>g x σ H1 D.nx
theorem tO {tg e:Expr} {te:TE} {g:TG} (he:PE X e te) (hg:PG X tg g) (hs:swapsWithSole [tg] e pos.line X.env=pure false:=by rfl) (hw:swappedStores [tg] e X.env=pure none:=by rfl)
  (h1:(assignEach [tg] X.env).map (·.2)=[assign tg X.env]:=by rfl):PS X (.Assign [tg] e pos) (LB te g):=by
 intro pins s σ H D I h
 refine wpAny_Assign_stores (eY (he pins s σ H _ I h) fun v s1 ⟨x,H1,I1,r1,q1⟩=>?_) hs hw
 rw [h1]
 exact eY (hg pins s1 σ H1 x v _ I1 r1 q1) fun _ s2 q=>q
theorem bq {i:Nat} {x:Str} {e:Expr} {te:TE} {pos':Pos} (hN:X.N.Nodup) (hi:X.N[i]?=some x) (hx:Loc X.env.scope x) (he:PE X e te) (hs:swapsWith e (some (.Name x pos')) pos.line X.env=pure false:=by rfl) (hf:X.fn x=true∨X.env.scope.names.lookup x=some .local:=by first | exact .inl rfl | exact .inr rfl | assumption) :
  PS X (.Assign [.Name x pos'] e pos) (LB te (Hs i)):=by
 intro pins s σ H D I h
 refine wpAny_Assign_Name (eY (he pins s σ H _ I h) fun v s1 ⟨y,H1,I1,r1,q1⟩=>?_) hs
 exact yT I1 hN hi hx r1 (fun s2 I2=>⟨_,H1,I2,q1⟩) hf
def OE (to ti te:TE) (Jo:V→V→Hp→VK→Prop) (R0:Uv) (Jm:ID):TS:=fun D σ H=>to σ H fun o H1=>ti σ H1 fun i H2=>Jo o i H2 fun x H3=>te σ H3 fun y H4=>R0 x y H4 fun z H5=>Jm o i z H5 fun H6=>D.nx σ H6
def RL (X:Cx) (t:V→V→Hp→VK→Prop):Prop :=
 ∀ (pins:List (Addr×Obj)) (s:Shared) (σ:St) (H:Hp) (o i:V) (ov iv:Value) (Q:VK),Inv X pins σ H s→RelV o ov→RelV i iv→t o i H Q →
  wpAny (model X.prog X.w) X.A (getItem ov iv) (EP X pins σ Q) X.xe s
theorem JC {o i e:Expr} {to ti te:TE} {Jo:V→V→Hp→VK→Prop} {R0:Uv} {Jm:ID} {op:Operator} {tpos:Pos} (ho:PE X o to) (hi:PE X i ti) (hg:RL X Jo) (he:PE X e te) (hp:PIp X op R0) (hs:Nr X Jm)
  (ha:∀ ov iv new,augStore i ov iv new=(do holding [new,ov,iv] (setItem ov iv new);release [new,ov,iv] [];pure .next):=by intros;rfl):PS X (.AugAssign (.Subscript o i tpos) op e pos) (OE to ti te Jo R0 Jm):=by
 intro pins s σ H D I h
 refine wpAny_AugAssign_SubscriptAny (eY (ho pins s σ H _ I h) fun ov s1 ⟨x1,H1,I1,r1,q1⟩=>?_) ha
 refine eY (hi pins s1 σ H1 _ I1 q1) fun iv s2 ⟨x2,H2,I2,r2,q2⟩=>?_
 refine eY (hg pins s2 σ H2 x1 x2 ov iv _ I2 r1 r2 q2) fun old s3 ⟨x3,H3,I3,r3,q3⟩=>?_
 refine eY (he pins s3 σ H3 _ I3 q3) fun v s4 ⟨x4,H4,I4,r4,q4⟩=>?_
 refine eY (hp pins s4 σ H4 x3 x4 old v _ I4 r3 r4 q4) fun new s5 ⟨x5,H5,I5,r5,q5⟩=>?_
 exact eY (hs pins s5 σ H5 x1 x2 x5 ov iv new _ I5 r1 r2 r5 q5) fun _ s6 ⟨H6,I6,q6⟩=>⟨σ,H6,I6,q6⟩
def ipI (f:Int→Int→Int):Uv:=fun x y H Q=>∃ i j,x=.int i∧y=.int j∧Q (.int (f i j)) H
theorem Mu:PIp X .Add (ipI fun i j=>i+j):=by
 intro pins s σ H x y v u Q I r1 r2 h
 obtain ⟨i,j,e1,e2,q⟩:=h
 subst e1;subst e2
 obtain ⟨t,rfl⟩:=r1
 obtain ⟨t',rfl⟩:=r2
 exact iadd_int ⟨.int _,H,I.tok _,⟨_,rfl⟩,q⟩
end
section
variable {X:Cx} {pos:Pos}
end
structure It where
 go:Nat→Hp→Prop
 KS:Nat→Hp→V→Hp→Prop
 stop:Nat→Hp→Prop
def kY (X:Cx) (pins:List (Addr×Obj)) (H:Hp) (b:Addr):Prop :=
 H b=none∧b≠X.env.locals∧b ∉ X.fs∧(b∈X.ex∨X.s₀.heap.objs.size≤b)∧(∀ x c,X.env.cells.lookup x=some c→c≠b)∧∀ p∈X.pn++pins,p.1≠b
theorem Inv.DW {X:Cx} {pins:List (Addr×Obj)} {σ:St} {H H':Hp} {s:Shared} {b:Addr} (I:Inv X pins σ H s) (hb:s.heap.objs.size≤b) (hn:H' b=none):kY X pins H' b:=by
 refine ⟨hn,Nat.ne_of_gt (Nat.lt_of_lt_of_le I.lt hb),I.Pc hb,.inr (Nat.le_trans I.sz hb),fun x c e z=>?_,fun p hp z=>?_⟩
 ·obtain ⟨v,q⟩:=I.cell x c e
  exact absurd (Nat.lt_of_lt_of_le q.lt (by rw [z];exact hb)) (Nat.lt_irrefl _)
 ·exact absurd (Nat.lt_of_lt_of_le (Heap.lt_size (I.pin p hp).1) (by rw [z];exact hb)) (Nat.lt_irrefl _)
structure Turn (P:Program) (w:World) (K:PySem.W.Frag) (tg:Expr) (J:It) (fp:List Addr) (it:Addr) (tn:Nat→Heap→Prop):Prop where
 mem:it∈fp
 obj:∀ i h,tn i h→∀ b∈fp,∃ o,h.get? b=some o∧∀ v,o.data≠.cell v
 keep:∀ i h h',tn i h→(∀ b∈fp,∀ o,h.get? b=some o→h'.get? b=some o)→tn i h'
 item:∀ (X:Cx),X.prog=P→X.w=w→X.K=K→X.calm=true→∀ (i:Nat) (pins:List (Addr×Obj)) (s:Shared) (σ:St) (H:Hp) (E:Value→Shared→Prop),Inv X pins σ H s→(∀ b∈fp,kY X pins H b)→tn i s.heap→J.go i H →
  wpAny (model P w) X.A (pyNext (.ref it)) (fun r s1=>∃ u,r=some u ∧
   wpAny (model P w) X.A (letOwnedTupleGo tg (.ref it) u) (fun _ s2=>∃ x H',Inv X pins σ H' s2∧RelV x u∧J.KS i H x H'∧tn (i+1) s2.heap∧∀ b∈fp,H' b=none) E s1) E s
 done:∀ (X:Cx),X.prog=P→X.w=w→X.K=K→X.calm=true→∀ (i:Nat) (pins:List (Addr×Obj)) (s:Shared) (σ:St) (H:Hp) (E:Value→Shared→Prop),Inv X pins σ H s→(∀ b∈fp,kY X pins H b)→tn i s.heap→J.stop i H →
  wpAny (model P w) X.A (pyNext (.ref it)) (fun r s1=>r=none∧Inv X pins σ H s1) E s
 self:∀ (A:Around) (i:Nat) (s:Shared) (Q:Value→Shared→Prop) (E:Value→Shared→Prop),tn i s.heap→Q (.ref it) s→wpAny (model P w) A (pyIter (.ref it)) Q E s
abbrev TI:=St→Hp→(It→Hp→Prop)→Prop
def PIE (X:Cx) (pins:List (Addr×Obj)) (σ:St) (tg:Expr) (R:It→Hp→Prop) (itv:Value) (s2:Shared):Prop :=
 ∃ (it:Addr) (fp:List Addr) (tn:Nat→Heap→Prop) (J:It) (H':Hp),itv=.ref it∧Inv X pins σ H' s2∧Turn X.prog X.w X.K tg J fp it tn∧tn 0 s2.heap∧(∀ b∈fp,kY X pins H' b)∧R J H'
def PI (X:Cx) (tg iter:Expr) (wi:TI):Prop :=
 ∀ (pins:List (Addr×Obj)) (s:Shared) (σ:St) (H:Hp) (R:It→Hp→Prop),Inv X pins σ H s→wi σ H R →
  wpAny (model X.prog X.w) X.A (eval iter X.env) (fun v s1=>wpAny (model X.prog X.w) X.A (pyIter v) (PIE X pins σ tg R) X.xe s1) X.xe s
theorem Hl {M:Model} {A:Around} {E:Value→Shared→Prop} {s:Shared} {tg:Expr} {it:Addr} {u:Value} {o:Obj} {n:String} {vs:Array Value} {Q:Unit→Shared→Prop} (ho:s.heap.get? it=some o) (hc:o.cls=.type n) (hd:o.data=.fields vs)
  (hn:["enumerate","zip","dict_itemiterator","dict_reverseitemiterator","odict_iterator","itertools.zip_longest","itertools.pairwise"].contains n=false) (hQ:Q () s):wpAny M A (letOwnedTupleGo tg (.ref it) u) Q E s:=by
 unfold letOwnedTupleGo
 cases tg <;> first
  | exact wpAny_pure hQ
  | (cases u <;> first
    | exact wpAny_pure hQ
    | (
      refine wpAny_bind (wpAny_load ho ?_)
      rw [hc,hd]
      show wpAny M A (if (["enumerate","zip","dict_itemiterator","dict_reverseitemiterator","odict_iterator","itertools.zip_longest","itertools.pairwise"].contains n && vs[0]? == some (rawInt _))=true then _ else _) Q E s
      rw [if_neg (by intro h;rw [hn,Bool.false_and] at h;cases h)]
      exact wpAny_pure hQ))
def IF (K:PySem.W.Frag) (a:Addr):It :=
 ⟨fun i H=>∃ xs x,bz K H a xs∧xs[i]?=some x,fun i H x H'=>H'=H∧∀ xs,bz K H a xs→xs[i]?=some x,fun i H=>∃ xs,bz K H a xs∧xs.length≤i⟩
def Fc (K:PySem.W.Frag) (a:Addr):It :=
 ⟨fun i H=>∃ xs x,cR K H a xs∧xs[i]?=some x,fun i H x H'=>H'=H∧∀ xs,cR K H a xs→xs[i]?=some x,fun i H=>∃ xs,cR K H a xs∧xs.length≤i⟩
def Nu (lo:Int) (n:Nat):It:=⟨fun i _=>i < n,fun i H x H'=>H'=H∧x=.int (lo+i),fun i _=>n≤i⟩
theorem vJ {P:Program} {w:World} {K:PySem.W.Frag} {tg:Expr} (a it:Addr):Turn P w K tg (IF K a) [it] it (fun i h=>h.IsListIter it a i) where
 mem:=by simp
 obj:=fun i h st b hb=>by
  have e:b=it:=by simpa using hb
  subst e
  obtain ⟨o,e,c,d⟩:=st
  exact ⟨o,e,fun v z=>by rw [d] at z;cases z⟩
 keep:=fun i h h' st k=>st.at fun o e=>k it (by simp) o e
 item:=by
  intro X hP hw hK hc i pins s σ H E I hf st hg
  subst hP hw hK
  obtain ⟨xs,x,hq,hx⟩:=hg
  obtain ⟨its,rv,p,hz⟩:=I.list hq
  obtain ⟨u,hu,ru⟩:=rv.get hx
  obtain ⟨f0,f1,f2,f3,f4,f5⟩:=hf it (by simp)
  refine wpAny_pyNext_list_item st p.isList (x:=u) (by simpa using hu) fun h' st' sb=>?_
  have I1:Inv X pins σ H { s with heap:=h' }:=I.turned (t':=s.toks) (fun b o hb e=>(sb.2 b hb).trans e) f0 f1 f3 f4 f5
  obtain ⟨o,e,c,d⟩:=id st'
  exact ⟨u,rfl,Hl (s:={ s with heap:=h' }) e c d (by decide) ⟨x,H,I1,ru,⟨rfl,fun ys hy=>by rw [I.zE hy hq];exact hx⟩,st',fun b hb=>(hf b hb).1⟩⟩
 done:=by
  intro X hP hw hK hc i pins s σ H E I hf st hg
  subst hP hw hK
  obtain ⟨xs,hq,hx⟩:=hg
  obtain ⟨its,rv,p,hz⟩:=I.list hq
  obtain ⟨f0,f1,f2,f3,f4,f5⟩:=hf it (by simp)
  have hl:=rv.length
  exact wpAny_pyNext_list_end (I.ok.hd hc) st p.isList (by simp;omega) fun h' eb=>⟨rfl,I.turned (t':=s.toks) (fun b o hb e=>eb b o hb e) f0 f1 f3 f4 f5⟩
 self:=fun _ _ _ _ _ st h=>wpAny_pyIter_listiter st h
theorem sO {P:Program} {w:World} {K:PySem.W.Frag} {tg:Expr} (a it:Addr):Turn P w K tg (Fc K a) [it] it (fun i h=>h.IsTupleIter it a i) where
 mem:=by simp
 obj:=fun i h st b hb=>by
  have e:b=it:=by simpa using hb
  subst e
  obtain ⟨o,e,c,d⟩:=st
  exact ⟨o,e,fun v z=>by rw [d] at z;cases z⟩
 keep:=fun i h h' st k=>st.at fun o e=>k it (by simp) o e
 item:=by
  intro X hP hw hK hc i pins s σ H E I hf st hg
  subst hP hw hK
  obtain ⟨xs,x,hq,hx⟩:=hg
  obtain ⟨its,rv,p,hz⟩:=I.tuple hq
  obtain ⟨u,hu,ru⟩:=rv.get hx
  obtain ⟨f0,f1,f2,f3,f4,f5⟩:=hf it (by simp)
  refine wpAny_pyNext_tuple_item st (show s.heap.IsTuple a its.toArray from p) (x:=u) (by simpa using hu) fun h' st' sb=>?_
  have I1:Inv X pins σ H { s with heap:=h' }:=I.turned (t':=s.toks) (fun b o hb e=>(sb.2 b hb).trans e) f0 f1 f3 f4 f5
  obtain ⟨o,e,c,d⟩:=id st'
  exact ⟨u,rfl,Hl (s:={ s with heap:=h' }) e c d (by decide) ⟨x,H,I1,ru,⟨rfl,fun ys hy=>by rw [I.vL hy hq];exact hx⟩,st',fun b hb=>(hf b hb).1⟩⟩
 done:=by
  intro X hP hw hK hc i pins s σ H E I hf st hg
  subst hP hw hK
  obtain ⟨xs,hq,hx⟩:=hg
  obtain ⟨its,rv,p,hz⟩:=I.tuple hq
  obtain ⟨f0,f1,f2,f3,f4,f5⟩:=hf it (by simp)
  have hl:=rv.length
  exact wpAny_pyNext_tuple_end (I.ok.hd hc) st (show s.heap.IsTuple a its.toArray from p) (by simp;omega) fun h' eb=>⟨rfl,I.turned (t':=s.toks) (fun b o hb e=>eb b o hb e) f0 f1 f3 f4 f5⟩
 self:=fun _ _ _ _ _ st h=>wpAny_pyIter_tupleiter st h
theorem Ay {P:Program} {w:World} {K:PySem.W.Frag} {tg:Expr} (it:Addr) (lo:Int) (n:Nat):Turn P w K tg (Nu lo n) [it] it (fun i h=>IsRangeIter h it (lo+(i:Nat)*1) ((n:Int) - (i:Nat)) 1) where
 mem:=by simp
 obj:=fun i h st b hb=>by
  have e:b=it:=by simpa using hb
  subst e
  exact ⟨_,st,fun v z=>by
   have z':Data.fields _=Data.cell v:=z
   cases z'⟩
 keep:=fun i h h' st k=>k it (by simp) _ st
 item:=by
  intro X hP hw hK hc i pins s σ H E I hf st hg
  subst hP hw hK
  obtain ⟨f0,f1,f2,f3,f4,f5⟩:=hf it (by simp)
  have W:=Walks.range (prog:=X.prog) (w:=X.w) (I.ok.hd hc) it lo 1 n
  refine W.item i s _ _ hg st fun v h' tk hv st' kk=>?_
  obtain ⟨t,rfl⟩:=hv
  have I1:Inv X pins σ H { s with heap:=h',toks:=tk }:=I.turned (fun b o hb e=>kk b o (by simpa using hb) e) f0 f1 f3 f4 f5
  refine ⟨_,rfl,Hl (s:={ s with heap:=h',toks:=tk }) (n:="range_iterator") st' rfl rfl (by decide) ⟨.int (lo+i),H,I1,⟨t,?_⟩,⟨rfl,rfl⟩,st',fun b hb=>(hf b hb).1⟩⟩
  rw [Int.mul_one]
 done:=by
  intro X hP hw hK hc i pins s σ H E I hf st hg
  subst hP hw hK
  obtain ⟨f0,f1,f2,f3,f4,f5⟩:=hf it (by simp)
  exact wpAny_pyNext_range_end (I.ok.hd hc) st (by have:n≤i:=hg;omega) fun h' eb=>⟨rfl,I.turned (t':=s.toks) (fun b o hb e=>eb b o hb e) f0 f1 f3 f4 f5⟩
 self:=fun _ _ _ _ _ st h=>wpAny_pyIter_rangeiter st h
end L2
namespace L2
open PySem PySem.Spec PyProof.Rows
section
variable {X:Cx} {tg:Expr}
def PD (K:PySem.W.Frag) (tl:TE):TI:=fun σ H R=>tl σ H fun x H1=>∃ a,x=.ref a∧(∃ xs,bz K H1 a xs)∧R (IF K a) H1
def Y6 (K:PySem.W.Frag) (tl:TE):TI:=fun σ H R=>tl σ H fun x H1=>∃ a,x=.ref a∧(∃ xs,cR K H1 a xs)∧R (Fc K a) H1
theorem ow {l:Expr} {tl:TE} (hl:PE X l tl):PI X tg l (PD X.K tl):=by
 intro pins s σ H R I h
 refine eY (hl pins s σ H _ I h) fun v s1 ⟨x,H1,I1,r1,q1⟩=>?_
 obtain ⟨a,e,⟨xs,hq⟩,q⟩:=q1
 subst e
 cases r1
 obtain ⟨its,rv,p,hz⟩:=I1.list hq
 refine wpAny_pyIter_list p.isList ?_
 refine ⟨s1.heap.objs.size,[s1.heap.objs.size],_,_,H1,rfl,I1.kept (t':=s1.toks) fun b o e=>Heap.get?_push_of_some _ e,vJ a _,⟨_,Heap.get?_push_size _ rfl,rfl,rfl⟩,fun b hb=>?_,q⟩
 have e:b=s1.heap.objs.size:=by simpa using hb
 subst e
 exact I1.DW (Nat.le_refl _) (I1.hok.fresh (Nat.le_refl _))
theorem jJ {l:Expr} {tl:TE} (hl:PE X l tl):PI X tg l (Y6 X.K tl):=by
 intro pins s σ H R I h
 refine eY (hl pins s σ H _ I h) fun v s1 ⟨x,H1,I1,r1,q1⟩=>?_
 obtain ⟨a,e,⟨xs,hq⟩,q⟩:=q1
 subst e
 cases r1
 obtain ⟨its,rv,p,hz⟩:=I1.tuple hq
 refine wpAny_pyIter_tuple (show s1.heap.IsTuple a its.toArray from p) ?_
 refine ⟨s1.heap.objs.size,[s1.heap.objs.size],_,_,H1,rfl,I1.kept (t':=s1.toks) fun b o e=>Heap.get?_push_of_some _ e,sO a _,⟨_,Heap.get?_push_size _ rfl,rfl,rfl⟩,fun b hb=>?_,q⟩
 have e:b=s1.heap.objs.size:=by simpa using hb
 subst e
 exact I1.DW (Nat.le_refl _) (I1.hok.fresh (Nat.le_refl _))
theorem Gb {pins:List (Addr×Obj)} {σ:St} {H:Hp} {s:Shared} {R:It→Hp→Prop} {E:Value→Shared→Prop} {lo hi:Int} {t u v:Tok} {tk:Nat} (I:Inv X pins σ H s) (h1:-(2 ^ 62)≤lo) (h2:lo < 2 ^ 62) (h3:-(2 ^ 62)≤hi) (h4:hi < 2 ^ 62)
  (q:R (Nu lo (hi - lo).toNat) H):wpAny (model X.prog X.w) X.A (pyIter (.ref s.heap.objs.size)) (PIE X pins σ tg R) E { s with heap:=s.heap.push { cls:=.type "range",data:=.fields #[.int lo t,.int hi u,.int 1 v] },toks:=tk }:=by
 refine wpAny_pyIter_range (IsRange.new ..) (small_one h1 h2 h3 h4) ?_
 have I1:Inv X pins σ H { s with heap:=s.heap.push { cls:=.type "range",data:=.fields #[.int lo t,.int hi u,.int 1 v] },toks:=tk }:=I.kept fun b o e=>Heap.get?_push_of_some _ e
 refine ⟨(s.heap.push { cls:=.type "range",data:=.fields #[.int lo t,.int hi u,.int 1 v] }).objs.size,[(s.heap.push { cls:=.type "range",data:=.fields #[.int lo t,.int hi u,.int 1 v] }).objs.size],_,_,H,rfl,
  I1.kept (t':=tk) fun b o e=>Heap.get?_push_of_some _ e,Ay _ lo (hi - lo).toNat,?_,fun b hb=>?_,q⟩
 ·have e1:lo+((0:Nat):Int)*1=lo:=by simp
  have e2:(((hi - lo).toNat:Nat):Int) - ((0:Nat):Int)=Builtin.Range.rangeSize lo hi 1:=by rw [rangeSize_one];split <;> omega
  show IsRangeIter _ _ (lo+((0:Nat):Int)*1) ((((hi - lo).toNat:Nat):Int) - ((0:Nat):Int)) 1
  rw [e1,e2]
  exact Heap.get?_push_size _ rfl
 ·have e:b=(s.heap.push { cls:=.type "range",data:=.fields #[.int lo t,.int hi u,.int 1 v] }).objs.size:=by simpa using hb
  subst e
  exact I1.DW (Nat.le_refl _) (I1.hok.fresh (Nat.le_refl _))
def PC (ta:TA):TI:=fun σ H R=>ta σ H fun vs H1=>∃ j:Int,vs=[.int j]∧-(2 ^ 62)≤j∧j < 2 ^ 62∧R (Nu 0 j.toNat) H1
theorem fu {a:Expr} {ta:TA} {p pos:Pos} (hg:Gl X "range") (hm:X.mg "range"=none) (ha:PA X [a] ta) (hs:starEach [a] X.env=[(false,eval a X.env)]:=by rfl):PI X tg (.Call (.Name "range" p) [a] [] pos) (PC ta):=by
 intro pins s σ H R I h
 refine Call_ (uf I hg hm boot_range (PyProof.Rows.callWith_type1 (eY (ha pos pins s σ H _ I h) fun us s1 ⟨vs,H1,I1,r1,q1⟩=>?_) hs rfl))
 obtain ⟨j,e,q1,q2,q⟩:=q1
 subst e
 cases r1 with
 | cons r rr =>
  cases rr
  obtain ⟨t,rfl⟩:=r
  exact call_range_1 (Gb I1 (by omega) (by omega) q1 q2 (by simpa using q))
def UK (wi:TI) (g:TG) (tb:TS):TS:=fun D σ H=>wi σ H fun J H1=>∃ W:Nat→Nat→St→Hp→Prop,(∃ m,W 0 m σ H1)∧∀ i m σ H,W i m σ H →
 (J.stop i H∧D.nx σ H)∨(J.go i H∧∃ N:St→Hp→Prop,(∀ σ' H',N σ' H'→∃ m',m' < m∧W (i+1) m' σ' H')∧∀ x H',J.KS i H x H'→g x σ H' fun σ2 H2=>tb { D with nx:=N,ct:=N,bk:=D.nx } σ2 H2)
def tP (fp:List Addr) (h:Heap):List (Addr×Obj):=fp.filterMap fun b=>(h.get? b).map fun o=>(b,o)
theorem kD {fp:List Addr} {h:Heap} {b:Addr} {o:Obj} (hb:b∈fp) (e:h.get? b=some o):(b,o)∈tP fp h:=List.mem_filterMap.mpr ⟨b,hb,by rw [e];rfl⟩
theorem DG {fp:List Addr} {h:Heap} {p:Addr×Obj} (hp:p∈tP fp h):p.1∈fp∧h.get? p.1=some p.2:=by
 obtain ⟨b,hb,e⟩:=List.mem_filterMap.mp hp
 cases q:h.get? b with
 | none=>rw [q] at e;cases e
 | some o =>
  rw [q] at e
  have e':(b,o)=p:=Option.some.inj e
  subst e'
  exact ⟨hb,q⟩
theorem Inv.pinned {pins:List (Addr×Obj)} {σ:St} {H:Hp} {s:Shared} {fp:List Addr} (I:Inv X pins σ H s) (hf:∀ b∈fp,kY X pins H b) (ho:∀ b∈fp,∃ o,s.heap.get? b=some o∧∀ v,o.data≠.cell v):Inv X (pins++tP fp s.heap) σ H s :=
 I.rJ fun p hp=>(List.mem_append.mp hp).elim (fun z=>I.pin p (List.mem_append_right _ z)) fun z=>by
  obtain ⟨hb,e⟩:=DG z
  obtain ⟨f0,f1,f2,_⟩:=hf p.1 hb
  obtain ⟨o,e',d⟩:=ho p.1 hb
  rw [e] at e';cases e'
  exact ⟨e,f0,f1,f2,d⟩
theorem Inv.nV {pins pl:List (Addr×Obj)} {σ:St} {H:Hp} {s:Shared} (I:Inv X (pins++pl) σ H s):Inv X pins σ H s:=I.rJ fun p hp=>I.pin p (List.mem_append_right _ (List.mem_append_left _ hp))
theorem gZ {iter:Expr} {body:List Stmt} {wi:TI} {g:TG} {tb:TS} {pos:Pos} (hp:PassesOwn (model X.prog X.w) X.A X.env X.xe) (hc:X.calm=true) (hi:PI X tg iter wi) (hg:PG X tg g) (hb:rR X body tb)
  (hs:∀ x,foldedSetIterable iter X.env x=pure x:=by intro _;rfl):PS X (.For tg iter body [] pos) (UK wi g tb):=by
 intro pins s σ H D I h
 refine wpAny_For (eY (hi pins s σ H _ I h) fun v s1 h1=>eY h1 fun itv s2 h2=>?_) hs
 obtain ⟨it,fp,tn,J,H2,e,I2,T,st2,f2,W,⟨m0,w0⟩,turn⟩:=h2
 subst e
 have LF:∀ {H':Hp},(∀ b∈fp,H' b=none)→∀ b∈fp,kY X pins H' b:=fun hn b hb=>⟨hn b hb,(f2 b hb).2⟩
 refine codeAny_forLoop_any (fun n s'=>∃ i σ' H',Inv X pins σ' H' s'∧tn i s'.heap∧(∀ b∈fp,H' b=none)∧W i n σ' H') ?_ m0 ⟨0,σ,H2,I2,st2,fun b hb=>(f2 b hb).1,w0⟩
 rintro n s3 ⟨i,σ3,H3,I3,st3,fr3,w3⟩
 rcases turn i n σ3 H3 w3 with ⟨stop,qn⟩ | ⟨go,N,hN,step⟩
 ·refine wpAny_passesOwn hp (eY (T.done X rfl rfl rfl hc i pins s3 σ3 H3 X.xe I3 (LF fr3) st3 stop) fun r s4 ⟨hr,I4⟩=>?_)
  subst hr
  exact wpAny_execs_nil ⟨σ3,H3,I4,qn⟩
 ·refine wpAny_passesOwn hp (eY (T.item X rfl rfl rfl hc i pins s3 σ3 H3 X.xe I3 (LF fr3) st3 go) fun r s4 ⟨u,hr,h4⟩=>?_)
  subst hr
  refine wpAny_passesOwn hp (eY h4 fun _ s5 ⟨x,H5,I5,r5,y5,UO,fr5⟩=>?_)
  have I5':=I5.pinned (LF fr5) (T.obj _ _ UO)
  refine wpAny_passesOwn hp (eY (hg _ s5 σ3 H5 x u _ I5' r5 (step x H5 y5)) fun _ s6 ⟨σ6,H6,I6,q6⟩=>?_)
  refine wpAny_passesOwn hp (eY (hb _ s6 σ6 H6 _ I6 q6) fun f s7 q7=>?_)
  have again:∀ {σ7:St} {H7:Hp},Inv X (pins++tP fp s5.heap) σ7 H7 s7→N σ7 H7→∃ m,m < n∧∃ i σ' H',Inv X pins σ' H' s7∧tn i s7.heap∧(∀ b∈fp,H' b=none)∧W i m σ' H':=fun {σ7 H7} I7 n7=>by
   obtain ⟨m',hm,w7⟩:=hN σ7 H7 n7
   refine ⟨m',hm,i+1,σ7,H7,I7.nV,T.keep _ _ _ UO fun b hb o e=>(I7.pin (b,o) (List.mem_append_right _ (List.mem_append_right _ (kD hb e)))).1,fun b hb=>?_,w7⟩
   obtain ⟨o,e,d⟩:=T.obj _ _ UO b hb
   exact (I7.pin (b,o) (List.mem_append_right _ (List.mem_append_right _ (kD hb e)))).2.1
  cases f with
  | next=>obtain ⟨σ7,H7,I7,n7⟩:=q7;exact again I7 n7
  | cont=>obtain ⟨σ7,H7,I7,n7⟩:=q7;exact again I7 n7
  | brk=>obtain ⟨σ7,H7,I7,q7⟩:=q7;exact ⟨σ7,H7,I7.nV,q7⟩
  | ret v=>obtain ⟨x7,σ7,H7,I7,r7,q7⟩:=q7;exact ⟨x7,σ7,H7,I7.nV,r7,q7⟩
end
theorem zS {K:PySem.W.Frag} {a:Addr} {xs:List V} {g:TG} {tb:TS} {D:Ends} {σ:St} {H:Hp} (Pv:Nat→St→Hp→Prop) (h0:Pv 0 σ H) (hl:∀ i σ H,i≤xs.length→Pv i σ H→bz K H a xs)
  (hs:∀ i x σ H,xs[i]?=some x→Pv i σ H→g x σ H fun σ2 H2=>tb { D with nx:=Pv (i+1),ct:=Pv (i+1),bk:=D.nx } σ2 H2) (hd:∀ σ H,Pv xs.length σ H→D.nx σ H) :
  ∃ W:Nat→Nat→St→Hp→Prop,(∃ m,W 0 m σ H)∧∀ i m σ H,W i m σ H →
   ((IF K a).stop i H∧D.nx σ H)∨((IF K a).go i H∧∃ N:St→Hp→Prop,(∀ σ' H',N σ' H'→∃ m',m' < m∧W (i+1) m' σ' H')∧∀ x H',(IF K a).KS i H x H'→g x σ H' fun σ2 H2=>tb { D with nx:=N,ct:=N,bk:=D.nx } σ2 H2):=by
 refine ⟨fun i m σ H=>m=xs.length - i∧i≤xs.length∧Pv i σ H,⟨xs.length,by simp,Nat.zero_le _,h0⟩,?_⟩
 rintro i m σ H ⟨rfl,hi,p⟩
 have q:=hl i σ H hi p
 by_cases hlt:i < xs.length
 ·refine .inr ⟨⟨xs,xs[i],q,by simp [hlt]⟩,Pv (i+1),fun σ' H' p'=>⟨xs.length - (i+1),by omega,rfl,hlt,p'⟩,fun x H' y=>?_⟩
  obtain ⟨e,y⟩:=y
  subst e
  exact hs i x σ _ (y xs q) p
 ·have e:i=xs.length:=by omega
  subst e
  exact .inl ⟨⟨xs,q,Nat.le_refl _⟩,hd σ H p⟩
theorem CV {K:PySem.W.Frag} {a:Addr} {xs:List V} {g:TG} {tb:TS} {D:Ends} {σ:St} {H:Hp} (Pv:Nat→St→Hp→Prop) (h0:Pv 0 σ H) (hl:∀ i σ H,i≤xs.length→Pv i σ H→cR K H a xs)
  (hs:∀ i x σ H,xs[i]?=some x→Pv i σ H→g x σ H fun σ2 H2=>tb { D with nx:=Pv (i+1),ct:=Pv (i+1),bk:=D.nx } σ2 H2) (hd:∀ σ H,Pv xs.length σ H→D.nx σ H) :
  ∃ W:Nat→Nat→St→Hp→Prop,(∃ m,W 0 m σ H)∧∀ i m σ H,W i m σ H →
   ((Fc K a).stop i H∧D.nx σ H)∨((Fc K a).go i H∧∃ N:St→Hp→Prop,(∀ σ' H',N σ' H'→∃ m',m' < m∧W (i+1) m' σ' H')∧∀ x H',(Fc K a).KS i H x H'→g x σ H' fun σ2 H2=>tb { D with nx:=N,ct:=N,bk:=D.nx } σ2 H2):=by
 refine ⟨fun i m σ H=>m=xs.length - i∧i≤xs.length∧Pv i σ H,⟨xs.length,by simp,Nat.zero_le _,h0⟩,?_⟩
 rintro i m σ H ⟨rfl,hi,p⟩
 have q:=hl i σ H hi p
 by_cases hlt:i < xs.length
 ·refine .inr ⟨⟨xs,xs[i],q,by simp [hlt]⟩,Pv (i+1),fun σ' H' p'=>⟨xs.length - (i+1),by omega,rfl,hlt,p'⟩,fun x H' y=>?_⟩
  obtain ⟨e,y⟩:=y
  subst e
  exact hs i x σ _ (y xs q) p
 ·have e:i=xs.length:=by omega
  subst e
  exact .inl ⟨⟨xs,q,Nat.le_refl _⟩,hd σ H p⟩
theorem fZ {lo:Int} {n:Nat} {g:TG} {tb:TS} {D:Ends} {σ:St} {H:Hp} (Pv:Nat→St→Hp→Prop) (h0:Pv 0 σ H)
  (hs:∀ i σ H,i < n→Pv i σ H→g (.int (lo+i)) σ H fun σ2 H2=>tb { D with nx:=Pv (i+1),ct:=Pv (i+1),bk:=D.nx } σ2 H2) (hd:∀ σ H,Pv n σ H→D.nx σ H) :
  ∃ W:Nat→Nat→St→Hp→Prop,(∃ m,W 0 m σ H)∧∀ i m σ H,W i m σ H →
   ((Nu lo n).stop i H∧D.nx σ H)∨((Nu lo n).go i H∧∃ N:St→Hp→Prop,(∀ σ' H',N σ' H'→∃ m',m' < m∧W (i+1) m' σ' H')∧∀ x H',(Nu lo n).KS i H x H'→g x σ H' fun σ2 H2=>tb { D with nx:=N,ct:=N,bk:=D.nx } σ2 H2):=by
 refine ⟨fun i m σ H=>m=n - i∧i≤n∧Pv i σ H,⟨n,by simp,Nat.zero_le _,h0⟩,?_⟩
 rintro i m σ H ⟨rfl,hi,p⟩
 by_cases hlt:i < n
 ·refine .inr ⟨hlt,Pv (i+1),fun σ' H' p'=>⟨n - (i+1),by omega,rfl,hlt,p'⟩,fun x H' y=>?_⟩
  obtain ⟨e,y⟩:=y
  subst e y
  exact hs i σ _ hlt p
 ·have e:i=n:=by omega
  subst e
  exact .inl ⟨Nat.le_refl _,hd σ H p⟩
end L2
namespace L2
open PySem PySem.Spec PyProof.Rows
abbrev R2:=V→V→Hp→VK→Prop
def mJ (X:Cx) (f:Value→Value→Sem Value) (r:R2):Prop :=
 ∀ (pins:List (Addr×Obj)) (s:Shared) (σ:St) (H:Hp) (x y:V) (v u:Value) (Q:VK),Inv X pins σ H s→RelV x v→RelV y u→r x y H Q →
  wpAny (model X.prog X.w) X.A (f v u) (EP X pins σ Q) X.xe s
def UnR (X:Cx) (f:Value→Sem Value) (r:V→Hp→VK→Prop):Prop :=
 ∀ (pins:List (Addr×Obj)) (s:Shared) (σ:St) (H:Hp) (x:V) (v:Value) (Q:VK),Inv X pins σ H s→RelV x v→r x H Q →
  wpAny (model X.prog X.w) X.A (f v) (EP X pins σ Q) X.xe s
def jG (X:Cx) (f:Value) (r:List V→Hp→VK→Prop):Prop :=
 ∀ (pins:List (Addr×Obj)) (s:Shared) (σ:St) (H:Hp) (xs:List V) (us:List Value) (Q:VK),Inv X pins σ H s→Vals xs us→r xs H Q →
  wpAny (model X.prog X.w) X.A (call f us) (EP X pins σ Q) X.xe s
def R1 (r:R2) (ta tb:TE):TE:=fun σ H Q=>ta σ H fun x H1=>tb σ H1 fun y H2=>r x y H2 Q
def tUn (r:V→Hp→VK→Prop) (ta:TE):TE:=fun σ H Q=>ta σ H fun x H1=>r x H1 Q
def rI (C:Int→Int→Prop) (g:Int→Int→V):R2:=fun x y H Q=>∃ i j,x=.int i∧y=.int j∧C i j∧Q (g i j) H
def K2 (g:Int→Int→V):R2:=fun x y H Q=>∃ i j,x=.int i∧y=.int j∧Q (g i j) H
def rU (g:Int→V):V→Hp→VK→Prop:=fun x H Q=>∃ i,x=.int i∧Q (g i) H
section
variable {X:Cx} {a b c:Expr} {ta tb tc:TE} {pos:Pos}
theorem Nl (ha:PE X a ta) (hb:PE X b tb) {pins:List (Addr×Obj)} {s:Shared} {σ:St} {H:Hp} {R:V→V→Hp→Prop} (I:Inv X pins σ H s)
  (h:ta σ H fun x H1=>tb σ H1 fun y H2=>R x y H2) {Q:Value→Shared→Prop} {f:Value→Value→Sem Value}
  (hf:∀ v u s2 x y H2,Inv X pins σ H2 s2→RelV x v→RelV y u→R x y H2→wpAny (model X.prog X.w) X.A (f v u) Q X.xe s2) :
  wpAny (model X.prog X.w) X.A (eval a X.env) (fun v s₁=>wpAny (model X.prog X.w) X.A (eval b X.env) (fun u s₂=>wpAny (model X.prog X.w) X.A (f v u) Q X.xe s₂) X.xe s₁) X.xe s:=by
 refine eY (ha pins s σ H _ I h) fun v s1 ⟨x,H1,I1,r1,q1⟩=>?_
 refine eY (hb pins s1 σ H1 _ I1 q1) fun u s2 ⟨y,H2,I2,r2,q2⟩=>?_
 exact hf v u s2 x y H2 I2 r1 r2 q2
theorem aR {op:Operator} {r:R2} (ho:mJ X (binaryOp op) r) (ha:PE X a ta) (hb:PE X b tb):PE X (.BinOp a op b pos) (R1 r ta tb):=by
 intro pins s σ H Q I h
 exact wpAny_BinOp (Nl ha hb I h fun v u s2 x y H2 I2 rx ry q=>ho pins s2 σ H2 x y v u Q I2 rx ry q)
theorem fE {op:UnaryOp} {r:V→Hp→VK→Prop} (ho:UnR X (unaryOp op) r) (ha:PE X a ta):PE X (.UnaryOp op a pos) (tUn r ta):=by
 intro pins s σ H Q I h
 exact UnaryOp_ (eY (ha pins s σ H _ I h) fun v s1 ⟨x,H1,I1,r1,q1⟩=>ho pins s1 σ H1 x v Q I1 r1 q1)
theorem NJ {f:Value→Value→Sem Value} {C:Int→Int→Prop} {g:Int→Int→Int}
  (rule:∀ (i j:Int) (t u:Tok) (s:Shared) (Q:Value→Shared→Prop) (E:Value→Shared→Prop),C i j→Q (.int (g i j) s.toks) { s with toks:=s.toks+1 }→wpAny (model X.prog X.w) X.A (f (.int i t) (.int j u)) Q E s) :
  mJ X f (rI C fun i j=>.int (g i j)):=by
 intro pins s σ H x y v u Q I rx ry h
 obtain ⟨i,j,rfl,rfl,hc,q⟩:=h
 obtain ⟨t,rfl⟩:=rx
 obtain ⟨t',rfl⟩:=ry
 exact rule i j t t' s _ _ hc ⟨.int (g i j),H,I.tok _,⟨_,rfl⟩,q⟩
theorem O4 {f:Value→Value→Sem Value} {g:Int→Int→Int}
  (rule:∀ (i j:Int) (t u:Tok) (s:Shared) (Q:Value→Shared→Prop) (E:Value→Shared→Prop),Q (.int (g i j) s.toks) { s with toks:=s.toks+1 }→wpAny (model X.prog X.w) X.A (f (.int i t) (.int j u)) Q E s) :
  mJ X f (K2 fun i j=>.int (g i j)):=by
 intro pins s σ H x y v u Q I rx ry h
 obtain ⟨i,j,rfl,rfl,q⟩:=h
 obtain ⟨t,rfl⟩:=rx
 obtain ⟨t',rfl⟩:=ry
 exact rule i j t t' s _ _ ⟨.int (g i j),H,I.tok _,⟨_,rfl⟩,q⟩
theorem JM {f:Value→Value→Sem Value} {g:Int→Int→Bool}
  (rule:∀ (i j:Int) (t u:Tok) (s:Shared) (Q:Value→Shared→Prop) (E:Value→Shared→Prop),Q (.bool (g i j)) s→wpAny (model X.prog X.w) X.A (f (.int i t) (.int j u)) Q E s) :
  mJ X f (K2 fun i j=>.bl (g i j)):=by
 intro pins s σ H x y v u Q I rx ry h
 obtain ⟨i,j,rfl,rfl,q⟩:=h
 obtain ⟨t,rfl⟩:=rx
 obtain ⟨t',rfl⟩:=ry
 exact rule i j t t' s _ _ ⟨.bl (g i j),H,I,rfl,q⟩
def a3f (i j:Int):Prop:=0 < j∧j < 1073741824
def a3e (i j:Int):Prop:=0≤j∧j≤1000000∧i.natAbs < 2 ^ 64
def Nx (i j:Int):Prop:=(-(2 ^ 64) < i∧i < 2 ^ 64)∨(-(2 ^ 64) < j∧j < 2 ^ 64)
theorem Nx.ok {i j:Int} (h:Nx i j):IntMulOk i j:=by
 rcases h with ⟨h1,h2⟩ | ⟨h1,h2⟩
 ·exact .of_left (intBits_le_64 h1 h2)
 ·exact .of_right (intBits_le_64 h1 h2)
theorem cS:mJ X (binaryOp .Add) (K2 fun i j=>.int (i+j)):=O4 fun _ _ _ _ _ _ _ q=>add_int q
theorem ia:mJ X (binaryOp .Sub) (K2 fun i j=>.int (i - j)):=O4 fun _ _ _ _ _ _ _ q=>sub_int q
theorem pY:mJ X (binaryOp .Mult) (rI Nx fun i j=>.int (i*j)):=NJ fun _ _ _ _ _ _ _ hc q=>mul_int q hc.ok
theorem JK:mJ X (binaryOp .FloorDiv) (rI a3f fun i j=>.int (i / j)):=NJ fun i j _ _ _ _ _ hc q=>by
 have h1:(0:Int) < j:=hc.1
 have h2:j < 1073741824:=hc.2
 exact floordiv_int (by omega) (by rw [Int.fdiv_eq_ediv_of_nonneg i (by omega)];exact q) (.inl (PyProof.noPylong_small (by omega)))
theorem pZ:mJ X (binaryOp .Mod) (rI (fun _ j=>0 < j) fun i j=>.int (i % j)):=NJ fun i j _ _ _ _ _ hc q=>by
 have h1:(0:Int) < j:=hc
 exact mod_int' (by omega) (by rw [Int.fmod_eq_emod_of_nonneg i (by omega)];exact q)
theorem L0:mJ X (binaryOp .Pow) (rI a3e fun i j=>.int (i ^ j.toNat)):=NJ fun _ _ _ _ _ _ _ hc q=>pow_int_small hc.1 hc.2.1 hc.2.2 q
theorem unI {f:Value→Sem Value} {g:Int→Int}
  (rule:∀ (i:Int) (t:Tok) (s:Shared) (Q:Value→Shared→Prop) (E:Value→Shared→Prop),Q (.int (g i) s.toks) { s with toks:=s.toks+1 }→wpAny (model X.prog X.w) X.A (f (.int i t)) Q E s) :
  UnR X f (rU fun i=>.int (g i)):=by
 intro pins s σ H x v Q I rx h
 obtain ⟨i,rfl,q⟩:=h
 obtain ⟨t,rfl⟩:=rx
 exact rule i t s _ _ ⟨.int (g i),H,I.tok _,⟨_,rfl⟩,q⟩
theorem dw:UnR X (unaryOp .USub) (rU fun i=>.int (-i)):=unI fun _ _ _ _ _ q=>neg_int q
end
def LN:V→V→Bool
 | .gc,.gc=>true | .gc,.int _=>true | .int _,.gc=>true | .gc,.bl _=>true | .bl _,.gc=>true | .gc,.str _=>true | .str _,.gc=>true
 | .int _,.int _=>true | .bl _,.bl _=>true | .str _,.str _=>true | .E9 _,.E9 _=>true
 | .int _,.str _=>true | .str _,.int _=>true | .bl _,.str _=>true | .str _,.bl _=>true
 | _,_=>false
def rEq:R2:=fun x y H Q=>LN x y=true∧Q (.bl (decide (x=y))) H
def rNe:R2:=fun x y H Q=>LN x y=true∧Q (.bl (!decide (x=y))) H
theorem C7 {i j:Int}:decide (V.int i=V.int j)=(i == j):=by
 rw [Bool.eq_iff_iff]
 simp
theorem Im {i j:Bool}:decide (V.bl i=V.bl j)=(i == j):=by
 rw [Bool.eq_iff_iff]
 simp
theorem C6 {i j:Str}:decide (V.str i=V.str j)=(i == j):=by
 rw [Bool.eq_iff_iff]
 simp
theorem C8 {i j:Array UInt8}:decide (V.E9 i=V.E9 j)=(i.toList == j.toList):=by
 rw [Bool.eq_iff_iff]
 cases i
 cases j
 simp
section
variable {X:Cx} {a b c:Expr} {ta tb tc:TE} {pos:Pos}
theorem cC {pins:List (Addr×Obj)} {σ:St} {H:Hp} {s:Shared} {Q:VK} {k k':Bool} (I:Inv X pins σ H s) (q:Q (.bl k) H) (e:k=k'):EP X pins σ Q (.bool k') s:=by
 subst e
 exact ⟨.bl k,H,I,rfl,q⟩
theorem cU:mJ X (compareOp .Eq) rEq:=by
 intro pins s σ H x y v u Q I rx ry h
 obtain ⟨hs,q⟩:=h
 cases x with
 | gc =>
  cases rx
  cases y with
  | gc=>cases ry;exact PySem.EqNone.eq_none_none (cC I q (by simp))
  | bl j=>cases ry;exact PySem.EqNone.eq_none_bool (cC I q (by simp))
  | int j=>obtain ⟨t',rfl⟩:=ry;exact PySem.EqNone.eq_none_int (cC I q (by simp))
  | str j=>obtain ⟨t',rfl⟩:=ry;exact PySem.EqNone.eq_none_str (cC I q (by simp))
  | _=>exact absurd (show false=true from hs) Bool.false_ne_true
 | bl i =>
  cases rx
  cases y with
  | gc=>cases ry;exact PySem.EqNone.eq_bool_none (cC I q (by simp))
  | bl j=>cases ry;exact eq_bool (cC I q Im)
  | str j=>obtain ⟨t',rfl⟩:=ry;exact PySem.EqMixed.eq_bool_str (cC I q (by simp))
  | _=>exact absurd (show false=true from hs) Bool.false_ne_true
 | int i =>
  obtain ⟨t,rfl⟩:=rx
  cases y with
  | gc=>cases ry;exact PySem.EqNone.eq_int_none (cC I q (by simp))
  | int j=>obtain ⟨t',rfl⟩:=ry;exact eq_int (cC I q C7)
  | str j=>obtain ⟨t',rfl⟩:=ry;exact PySem.EqMixed.eq_int_str (cC I q (by simp))
  | _=>exact absurd (show false=true from hs) Bool.false_ne_true
 | str i =>
  obtain ⟨t,rfl⟩:=rx
  cases y with
  | gc=>cases ry;exact PySem.EqNone.eq_str_none (cC I q (by simp))
  | bl j=>cases ry;exact PySem.EqMixed.eq_str_bool (cC I q (by simp))
  | int j=>obtain ⟨t',rfl⟩:=ry;exact PySem.EqMixed.eq_str_int (cC I q (by simp))
  | str j=>obtain ⟨t',rfl⟩:=ry;exact eq_str (cC I q C6)
  | _=>exact absurd (show false=true from hs) Bool.false_ne_true
 | E9 i =>
  obtain ⟨t,rfl⟩:=rx
  cases y with
  | E9 j=>obtain ⟨t',rfl⟩:=ry;exact PySem.W.eq_bytes (cC I q C8)
  | _=>exact absurd (show false=true from hs) Bool.false_ne_true
 | _=>cases y <;> exact absurd (show false=true from hs) Bool.false_ne_true
theorem oz:mJ X (compareOp .NotEq) rNe:=by
 intro pins s σ H x y v u Q I rx ry h
 obtain ⟨hs,q⟩:=h
 cases x with
 | gc =>
  cases rx
  cases y with
  | gc=>cases ry;exact PySem.EqNone.ne_none_none (cC I q (by simp))
  | bl j=>cases ry;exact PySem.EqNone.ne_none_bool (cC I q (by simp))
  | int j=>obtain ⟨t',rfl⟩:=ry;exact PySem.EqNone.ne_none_int (cC I q (by simp))
  | str j=>obtain ⟨t',rfl⟩:=ry;exact PySem.EqNone.ne_none_str (cC I q (by simp))
  | _=>exact absurd (show false=true from hs) Bool.false_ne_true
 | bl i =>
  cases rx
  cases y with
  | gc=>cases ry;exact PySem.EqNone.ne_bool_none (cC I q (by simp))
  | bl j=>cases ry;exact ne_bool (cC I q (congrArg not Im))
  | str j=>obtain ⟨t',rfl⟩:=ry;exact PySem.EqMixed.ne_bool_str (cC I q (by simp))
  | _=>exact absurd (show false=true from hs) Bool.false_ne_true
 | int i =>
  obtain ⟨t,rfl⟩:=rx
  cases y with
  | gc=>cases ry;exact PySem.EqNone.ne_int_none (cC I q (by simp))
  | int j=>obtain ⟨t',rfl⟩:=ry;exact ne_int (cC I q (congrArg not C7))
  | str j=>obtain ⟨t',rfl⟩:=ry;exact PySem.EqMixed.ne_int_str (cC I q (by simp))
  | _=>exact absurd (show false=true from hs) Bool.false_ne_true
 | str i =>
  obtain ⟨t,rfl⟩:=rx
  cases y with
  | gc=>cases ry;exact PySem.EqNone.ne_str_none (cC I q (by simp))
  | bl j=>cases ry;exact PySem.EqMixed.ne_str_bool (cC I q (by simp))
  | int j=>obtain ⟨t',rfl⟩:=ry;exact PySem.EqMixed.ne_str_int (cC I q (by simp))
  | str j=>obtain ⟨t',rfl⟩:=ry;exact ne_str (cC I q (congrArg not C6))
  | _=>exact absurd (show false=true from hs) Bool.false_ne_true
 | E9 i =>
  obtain ⟨t,rfl⟩:=rx
  cases y with
  | E9 j=>obtain ⟨t',rfl⟩:=ry;exact PySem.W.ne_bytes (cC I q (congrArg not C8))
  | _=>exact absurd (show false=true from hs) Bool.false_ne_true
 | _=>cases y <;> exact absurd (show false=true from hs) Bool.false_ne_true
theorem mO:mJ X (compareOp .Lt) (K2 fun i j=>.bl (decide (i < j))):=JM fun _ _ _ _ _ _ _ q=>lt_int q
theorem O3:mJ X (compareOp .LtE) (K2 fun i j=>.bl (decide (i≤j))):=JM fun _ _ _ _ _ _ _ q=>le_int q
theorem CC:mJ X (compareOp .Gt) (K2 fun i j=>.bl (decide (j < i))):=JM fun _ _ _ _ _ _ _ q=>gt_int q
theorem K5:mJ X (compareOp .GtE) (K2 fun i j=>.bl (decide (j≤i))):=JM fun _ _ _ _ _ _ _ q=>ge_int q
theorem JI:mJ X (compareOp .IsNot) (fun x y H Q=>y=.gc∧Q (.bl (!decide (x=.gc))) H):=by
 intro pins s σ H x y v u Q I rx ry h
 obtain ⟨rfl,q⟩:=h
 cases ry
 refine isnot_none_gen (cC I q ?_)
 cases x <;> first
  | (cases rx;rfl)
  | (obtain ⟨t,rfl⟩:=rx;rfl)
theorem aO (b:Expr) {op:CmpOp} (h:op≠.In:=by decide) (h2:op≠.NotIn:=by decide):behindInMarks op b=false:=by
 have e1:(op == CmpOp.In)=false:=by cases op <;> first | rfl | exact absurd rfl h
 have e2:(op == CmpOp.NotIn)=false:=by cases op <;> first | rfl | exact absurd rfl h2
 cases b <;> simp [behindInMarks,e1,e2]
theorem cG {op:CmpOp} {r:R2} (ho:mJ X (compareOp op) r) (ha:PE X a ta) (hb:PE X b tb) (hm:behindInMarks op b=false):PE X (.Compare a [op] [b] pos) (R1 r ta tb):=by
 intro pins s σ H Q I h
 exact wpAny_Compare1 (Nl ha hb I h fun v u s2 x y H2 I2 rx ry q=>ho pins s2 σ H2 x y v u Q I2 rx ry q) hm
def Oo (t:TE):TT:=fun σ H Q=>t σ H fun x H'=>∃ k,x=.bl k∧Q k H'
theorem bh {op:CmpOp} {r:R2} (ho:mJ X (compareOp op) r) (ha:PE X a ta) (hb:PE X b tb) (hm:behindInMarks op b=false):PT X (.Compare a [op] [b] pos) (Oo (R1 r ta tb)):=by
 intro pins s σ H Q I h
 refine wpAny_isTrue_Compare1 (eY (ha pins s σ H _ I h) fun v s1 ⟨x,H1,I1,r1,q1⟩=>eY (hb pins s1 σ H1 _ I1 q1) fun u s2 ⟨y,H2,I2,r2,q2⟩ =>
  eY (ho pins s2 σ H2 x y v u _ I2 r1 r2 q2) fun c s3 ⟨z,H3,I3,r3,k,e,q3⟩=>?_) hm
 subst e
 cases r3
 exact wpAny_truthy_bool ⟨H3,I3,q3⟩
def LA (r r':R2) (ta tb tc:TE):TE:=fun σ H Q=>ta σ H fun x H1=>tb σ H1 fun y H2=>r x y H2 fun z H3=>∃ k,z=.bl k ∧
 (if k=true then tc σ H3 fun w' H4=>r' y w' H4 Q else Q (.bl false) H3)
theorem Gq {op op':CmpOp} {r r':R2} (ho:mJ X (compareOp op) r) (ho':mJ X (compareOp op') r') (ha:PE X a ta) (hb:PE X b tb) (hc:PE X c tc)
  (hm:lastMarks [op,op'] [b,c]=false:=by with_unfolding_all rfl):PE X (.Compare a [op,op'] [b,c] pos) (LA r r' ta tb tc):=by
 intro pins s σ H Q I h
 refine Compare_chain (eY (ha pins s σ H _ I h) fun v s1 ⟨x,H1,I1,r1,q1⟩=>chain_link (eY (hb pins s1 σ H1 _ I1 q1) fun u s2 ⟨y,H2,I2,r2,q2⟩ =>
  eY (ho pins s2 σ H2 x y v u _ I2 r1 r2 q2) fun d s3 ⟨z,H3,I3,r3,k,e,q3⟩=>?_)) hm
 subst e
 cases r3
 refine wpAny_truthy_bool ?_
 cases k with
 | false=>exact ite_ff ⟨.bl false,H3,I3,rfl,q3⟩
 | true=>exact ite_tt (chain_last (eY (hc pins s3 σ H3 _ I3 q3) fun w' s4 ⟨z',H4,I4,r4,q4⟩=>ho' pins s4 σ H4 y z' u w' Q I4 r2 r4 q4))
theorem qg:(sizeLine:Nat) < 2 ^ 63:=by rw [sizeLine_eq];decide
theorem vals1 {x:V} {us:List Value} (r:Vals [x] us):∃ u,us=[u]∧RelV x u:=by
 cases r with
 | cons r1 r2=>cases r2;exact ⟨_,rfl,r1⟩
theorem vals2 {x y:V} {us:List Value} (r:Vals [x,y] us):∃ u w',us=[u,w']∧RelV x u∧RelV y w':=by
 cases r with
 | cons r1 r2 =>
  cases r2 with
  | cons r3 r4=>cases r4;exact ⟨_,_,rfl,r1,r3⟩
theorem mz:jG X (.type "int") (fun xs H Q=>(∃ i,xs=[.int i]∧Q (.int i) H)∨∃ k,xs=[.bl k]∧Q (.int (if k then 1 else 0)) H):=by
 intro pins s σ H xs us Q I r h
 rcases h with ⟨i,rfl,q⟩ | ⟨k,rfl,q⟩
 ·obtain ⟨u,rfl,t,rfl⟩:=vals1 r
  exact call_int_int ⟨.int i,H,I,⟨_,rfl⟩,q⟩
 ·obtain ⟨u,rfl,r1⟩:=vals1 r
  cases r1
  exact call_int_bool ⟨.int (if k then 1 else 0),H,I.tok _,⟨_,rfl⟩,q⟩
end
end L2
namespace L2
open PySem PySem.Spec PyProof.Rows
structure BO (h:Heap) (x dx C:Addr) (mA:Str→Option Value):Prop where
 obj:h.get? x=some (PySem.W.instObj C dx)
 ns:h.Ns1 dx mA
 ne:dx≠x
theorem DL {h:Heap} {dx:Addr} {mA:Str→Option Value} (n:h.Ns1 dx mA):∃ od,h.get? dx=some od∧∀ name,PySem.W.lookIn name od=some (mA name):=by
 obtain ⟨o,es,ep,ho,hd,hk,_,hm⟩:=n
 refine ⟨o,ho,fun name=>?_⟩
 have e:=hm name
 unfold nsFind findBy at e
 rw [← Array.find?_toList] at e
 unfold PySem.W.lookIn
 rw [hd]
 dsimp only
 split
 ·rename_i y q
  rw [q] at e
  exact congrArg some e
 ·rename_i q
  rw [q] at e
  have a:es.toList.any (·.refKey)=false:=by
   rw [List.any_eq_false]
   intro y hy
   obtain ⟨z,t,hkey⟩:=hk y (Array.mem_toList_iff.mp hy)
   simp [DictEntry.refKey,hkey]
  have a':¬ es.toList.any (·.refKey)=true:=by rw [a];exact Bool.false_ne_true
  rw [if_neg a']
  exact congrArg some e
theorem BO.look {h:Heap} {x dx C:Addr} {mA:Str→Option Value} (I:BO h x dx C mA):∃ od,PySem.W.InstAt h x (PySem.W.instObj C dx) C (some od)∧∀ name,PySem.W.lookIn name od=some (mA name) :=
 let ⟨od,ho,hl⟩:=DL I.ns
 ⟨od,⟨I.obj,rfl,rfl,ho⟩,hl⟩
section
variable {prog:Program} {w:World} {A:Around} {E:Value→Shared→Prop} {s:Shared} {K:PySem.W.Frag} {x dx C f:Addr} {mA:Str→Option Value} {name:Str} {v:Value}
theorem get_map {expr:Bool} {Q:Value→Shared→Prop} (X:K.In s.heap) (I:BO s.heap x dx C mA) (hg:PySem.W.plainGet K C name=true) (hh:PySem.W.hasDictIn K C=true)
  (ha:PySem.W.findIn K (.ref C) name=some none) (hv:mA name=some v) (hv':PySem.W.handedIn v=true) (h:Q v { s with toks:=s.toks+1 }) :
  wpAny (model prog w) A (getAttr (.ref x) name expr) Q E s:=by
 obtain ⟨od,J,hl⟩:=I.look
 exact PySem.W.get_value X J (PySem.W.plainGet_of hg).1 (PySem.W.findObj_own hh ha rfl (by rw [hl,hv])) hv' h
theorem Ho {pl:Sem Bool} {Q:Value×List Value→Shared→Prop} (X:K.In s.heap) (I:BO s.heap x dx C mA) (hg:PySem.W.plainGet K C name=true)
  (hf:PySem.W.findIn K (.ref C) name=some (some (.ref f))) (ht:PySem.W.isFn K (.ref f)=true) (hv:mA name=none) (h:Q (.ref f,[.ref x]) s) :
  wpAny (model prog w) A (getMethod (.ref x) name pl) Q E s:=by
 obtain ⟨od,J,hl⟩:=I.look
 exact PySem.W.method_fn X J (PySem.W.plainGet_of hg).1 (PySem.W.plainGet_of hg).2 hf (beq_iff_eq.mp ht) (by show (PySem.W.lookIn name od).map (·.isSome)=some false;rw [hl,hv];rfl) h
theorem Ju {ns:List Str} {Q:Unit→Shared→Prop} (X:K.In s.heap) (I:BO s.heap x dx C mA)
  (hs:PySem.W.findIn K (.ref C) "__setattr__"=some (some (.builtin "object.__setattr__"))) (hp:PySem.W.plainOver K C=true) (ht:PySem.W.takerIn K C name=some none) (hh:PySem.W.hasDictIn K C=true)
  (hw:PySem.Within mA ns) (hsz:ns.length≤sizeLine)
  (h:∀ h',BO h' x dx C (fun y=>if y=name then some v else mA y)→Heap.SameBut dx s.heap h'→Q () { s with heap:=h',toks:=s.toks+2 }) :
  wpAny (model prog w) A (setAttr (.ref x) name v) Q E s:=by
 obtain ⟨od,J,hl⟩:=I.look
 refine PySem.W.set_plain X J hs (PySem.W.osa_open (s:={ s with toks:=s.toks+1 }) (r:=none) X J hp ht fun b=>?_)
 obtain ⟨cd,hc,hd'⟩:=PySem.W.any_some hh
 have hx:s.heap.get? x=some ⟨.ref C,some dx,.plain,#[]⟩:=I.obj
 refine wpAny_bind (wpAny_pure (wpAny_bind (wpAny_bind (wpAny_loadPart hx (wpAny_bind (PySem.W.Looks.here (s:={ s with toks:=s.toks+1 }) (PySem.W.looks_clsIn X hc) ?_))))))
 rw [hd']
 refine wpAny_pure (a:=some dx) (wpAny_bind (wpAny_pure (wpAny_bind ?_)))
 refine wpAny_nsSet1 (s:={ s with toks:=s.toks+1 }) I.ns fun h' hn2 hs2=>?_
 obtain ⟨oD,esD,epD,hoD,hdD,hcD⟩:=hn2.count (PySem.Within.cons name v hw)
 refine wpAny_bind (wpAny_lookBehind hoD (by rw [hdD];exact pastItsLine_dict (Nat.le_trans hcD (by rw [List.length_cons];omega))) ?_)
 exact wpAny_pure (h _ ⟨(hs2.2 _ (Ne.symm I.ne)).trans I.obj,hn2,I.ne⟩ hs2)
theorem GJ {R:Result→Shared→Prop} {vs:List Value} {kw:List (Str×Value)} (X:K.In s.heap) (hm:PySem.W.makesIn K C=true)
  (hi:PySem.W.findIn K (.ref C) "__init__"=some (some (.ref f))) (hf:PySem.W.typeIn K (.ref f)=some (.type "function"))
  (h:codeAny (model prog w) (A.under (.builtin "type.__call__" ⟨.ref C::vs,kw⟩)) (.call (.ref f) ⟨.ref (s.heap.objs.size+1)::vs,kw⟩) (PySem.W.InitBack (s.heap.objs.size+1) R)
   { s with heap:=(s.heap.push PySem.W.emptyDict).push (PySem.W.instObj C s.heap.objs.size) }) :
  codeAny (model prog w) A (.call (.ref C) ⟨vs,kw⟩) R s:=by
 obtain ⟨hh,g,d,t,os⟩:=s
 exact PySem.W.make_core (PySem.W.makes_of X hm) (PySem.W.looks_findIn X hi) (fun self=>PySem.W.bind_fn X self hf) (.inl rfl) h
end
def kq (f:Str) (v:V):List (Str×V)→List (Str×V)
 | []=>[(f,v)]
 | (g,x)::r=>if g=f then (g,v)::r else (g,x)::kq f v r
theorem fO (f g:Str) (v:V):∀ fs:List (Str×V),(kq f v fs).lookup g=if g=f then some v else fs.lookup g
 | []=>by
  show List.lookup g [(f,v)]=_
  by_cases h:g=f
  ·have hb:(g == f)=true:=beq_iff_eq.mpr h
   simp only [List.lookup,hb,if_pos h]
  ·have hb:(g == f)=false:=beq_eq_false_iff_ne.mpr h
   simp only [List.lookup,hb,if_neg h]
 | (k,x)::r=>by
  have ih:=fO f g v r
  rw [show kq f v ((k,x)::r)=(if k=f then (k,v)::r else (k,x)::kq f v r) from rfl]
  by_cases hk:k=f
  ·rw [if_pos hk]
   by_cases h:g=k
   ·have hb:(g == k)=true:=beq_iff_eq.mpr h
    simp only [List.lookup,hb,if_pos (h.trans hk)]
   ·have hb:(g == k)=false:=beq_eq_false_iff_ne.mpr h
    simp only [List.lookup,hb,if_neg (fun e:g=f=>h (e.trans hk.symm))]
  ·rw [if_neg hk]
   by_cases h:g=k
   ·have hb:(g == k)=true:=beq_iff_eq.mpr h
    simp only [List.lookup,hb,if_neg (fun e:g=f=>hk (h.symm.trans e))]
   ·have hb:(g == k)=false:=beq_eq_false_iff_ne.mpr h
    simp only [List.lookup,hb]
    exact ih
theorem qk (f:Str) (v:V):∀ fs:List (Str×V),f∈(kq f v fs).map (·.1)∧∀ g,g∈fs.map (·.1)→g∈(kq f v fs).map (·.1)
 | []=>⟨by simp [kq],fun g h=>by simp at h⟩
 | (k,x)::r=>by
  obtain ⟨i1,i2⟩:=qk f v r
  rw [show kq f v ((k,x)::r)=(if k=f then (k,v)::r else (k,x)::kq f v r) from rfl]
  by_cases hk:k=f
  ·rw [if_pos hk]
   subst hk
   exact ⟨by simp,fun g h=>by simpa using h⟩
  ·rw [if_neg hk]
   refine ⟨?_,fun g h=>?_⟩
   ·rw [List.map_cons]
    exact List.mem_cons_of_mem _ i1
   ·rw [List.map_cons] at h ⊢
    rcases List.mem_cons.mp h with e | e
    ·exact List.mem_cons.mpr (.inl e)
    ·exact List.mem_cons_of_mem _ (i2 g e)
theorem qJ (f:Str) (v:V):∀ fs:List (Str×V),(kq f v fs).length≤fs.length+1
 | []=>by simp [kq]
 | (k,x)::r=>by
  have ih:=qJ f v r
  rw [show kq f v ((k,x)::r)=(if k=f then (k,v)::r else (k,x)::kq f v r) from rfl]
  by_cases hk:k=f
  ·rw [if_pos hk,List.length_cons,List.length_cons];omega
  ·rw [if_neg hk,List.length_cons,List.length_cons];omega
theorem kX.some_of {v:V} {o:Option Value} (r:kX (some v) o):∃ u,o=some u∧RelV v u:=by
 cases o with
 | none=>exact (show False from r).elim
 | some u=>exact ⟨u,rfl,r⟩
theorem kX.none_of {o:Option Value} (r:kX none o):o=none:=by
 cases o with
 | none=>rfl
 | some u=>exact (show False from r).elim
theorem DV {v:V} {u:Value} (r:RelV v u):PySem.W.handedIn u=true:=by
 cases v with
 | gc=>cases (show u=Value.none from r);rfl
 | bl b=>cases (show u=Value.bool b from r);rfl
 | int i=>obtain ⟨t,e⟩:=(show ∃ t,u=Value.int i t from r);cases e;rfl
 | str x=>obtain ⟨t,e⟩:=(show ∃ t,u=Value.str x t from r);cases e;rfl
 | E9 b=>obtain ⟨t,e⟩:=(show ∃ t,u=Value.bytes b t from r);cases e;rfl
 | Le b=>obtain ⟨t,e⟩:=(show ∃ t,u=Value.float b t from r);cases e;rfl
 | ref a=>cases (show u=Value.ref a from r);rfl
 | ty n=>cases (show u=Value.type n from r);rfl
section
variable {P:Program} {w:World} {H H':Hp} {h h':Heap} {a C dx:Addr} {fs fs':List (Str×V)}
theorem oR (hok:nQ P w H h) (e:H a=some (.ins C dx fs)):∃ mA,BO h a dx C mA∧(∀ f,kX (fs.lookup f) (mA f))∧PySem.Within mA (fs.map (·.1))∧fs.length≤1000∧H dx=some (.own a):=by
 obtain ⟨d,z,ne,ob,mA,n,r,q⟩:=(show dh P w H h a (.ins C dx fs) from hok a _ e)
 exact ⟨mA,⟨ob,n,ne⟩,r,q,z,d⟩
end
structure Jd (K:PySem.W.Frag) (C:Addr):Prop where
 pg:PySem.W.plainGet K C Str.empty=true
 hd:PySem.W.hasDictIn K C=true
 po:PySem.W.plainOver K C=true
 sa:PySem.W.findIn K (.ref C) "__setattr__"=some (some (.builtin "object.__setattr__"))
theorem Jd.get {K:PySem.W.Frag} {C:Addr} (c:Jd K C) (f:Str):PySem.W.plainGet K C f=true:=c.pg
def lY (K:PySem.W.Frag) (C:Addr) (f:Str):Prop:=PySem.W.findIn K (.ref C) f=some none
theorem lY.Ol {K:PySem.W.Frag} {C:Addr} {f:Str} (n:lY K C f):PySem.W.takerIn K C f=some none:=by
 unfold PySem.W.takerIn
 rw [show PySem.W.findIn K (.ref C) f=some none from n]
 rfl
structure Meth (K:PySem.W.Frag) (C:Addr) (m:Str) (f:Addr):Prop where
 at_:PySem.W.findIn K (.ref C) m=some (some (.ref f))
 fn:PySem.W.isFn K (.ref f)=true
 kp:PySem.W.keepIn K (.ref f)=true
section
variable {X:Cx} {pins:List (Addr×Obj)} {σ:St} {H:Hp} {s:Shared} {a C dx:Addr} {fs:List (Str×V)} {f:Str} {v:V} {A:Around} {E:Value→Shared→Prop}
theorem Bk {b:Bool} {Q:Value→Shared→Prop} (I:Inv X pins σ H s) (e:H a=some (.ins C dx fs)) (c:Jd X.K C) (n:lY X.K C f) (l:fs.lookup f=some v)
  (h:∀ u s',Inv X pins σ H s'→RelV v u→Q u s'):wpAny (model X.prog X.w) A (getAttr (.ref a) f b) Q E s:=by
 obtain ⟨mA,O,r,_,_,_⟩:=oR I.hok e
 obtain ⟨u,hu,ru⟩:=kX.some_of (v:=v) (o:=mA f) (by rw [← l];exact r f)
 exact get_map I.lU O (c.get f) c.hd n hu (DV ru) (h u _ (I.tok _) ru)
theorem Bj {m:Str} {g:Addr} {pl:Sem Bool} {Q:Value×List Value→Shared→Prop} (I:Inv X pins σ H s) (e:H a=some (.ins C dx fs)) (c:Jd X.K C) (k:Meth X.K C m g) (l:fs.lookup m=none)
  (h:Q (.ref g,[.ref a]) s):wpAny (model X.prog X.w) A (getMethod (.ref a) m pl) Q E s:=by
 obtain ⟨mA,O,r,_,_,_⟩:=oR I.hok e
 have hn:mA m=none:=kX.none_of (by rw [← l];exact r m)
 exact Ho I.lU O (c.get m) k.at_ k.fn hn h
theorem AE {y:V} {u:Value} {Q:Unit→Shared→Prop} (I:Inv X pins σ H s) (e:H a=some (.ins C dx fs)) (c:Jd X.K C) (n:lY X.K C f) (hl:fs.length < 1000) (ry:RelV y u)
  (h:∀ s',Inv X pins σ (upd H a (.ins C dx (kq f y fs))) s'→Q () s'):wpAny (model X.prog X.w) A (setAttr (.ref a) f u) Q E s:=by
 obtain ⟨mA,O,r,wi,_,ho⟩:=oR I.hok e
 have hz:(fs.map (·.1)).length≤sizeLine:=by rw [List.length_map,sizeLine_eq];omega
 refine Ju I.lU O c.sa c.po n.Ol c.hd wi hz fun h' O' sb=>h _ ?_
 have hd:∃ o,h'.get? dx=some o:=let ⟨o,_,_,e',_⟩:=O'.ns;⟨o,e'⟩
 refine I.write (x:=a) (e:=dx) (by rw [e];exact True.intro) (.inr ho) (fun b q hb z=>(sb.2 b hb).trans z) hd ?_
 refine ⟨by rw [aL O.ne];exact ho,?_,O.ne,O'.obj,_,O'.ns,fun g=>?_,fun g hg=>?_⟩
 ·have:=qJ f y fs;omega
 ·show kX ((kq f y fs).lookup g) (if g=f then some u else mA g)
  rw [fO]
  by_cases q:g=f
  ·rw [if_pos q,if_pos q];exact ry
  ·rw [if_neg q,if_neg q];exact r g
 ·by_cases q:g=f
  ·rw [q];exact (qk f y fs).1
  ·refine (qk f y fs).2 g (wi g fun z=>hg ?_)
   show (if g=f then some u else mA g)=none
   rw [if_neg q];exact z
theorem Inv.made (I:Inv X pins σ H s):Inv X pins σ (upd (upd H s.heap.objs.size (.own (s.heap.objs.size+1))) (s.heap.objs.size+1) (.ins C s.heap.objs.size []))
  { s with heap:=(s.heap.push PySem.W.emptyDict).push (PySem.W.instObj C s.heap.objs.size) }:=by
 have e1:(s.heap.push PySem.W.emptyDict).get? s.heap.objs.size=some PySem.W.emptyDict:=Heap.get?_push_size s.heap rfl
 have e2:((s.heap.push PySem.W.emptyDict).push (PySem.W.instObj C s.heap.objs.size)).get? (s.heap.objs.size+1)=some (PySem.W.instObj C s.heap.objs.size):=by
  have:=Heap.get?_push_size (s.heap.push PySem.W.emptyDict) (o:=PySem.W.instObj C s.heap.objs.size) rfl
  rwa [Heap.size_push] at this
 have e3:(s.heap.push PySem.W.emptyDict).Ns s.heap.objs.size (fun _=>none):=⟨PySem.W.emptyDict,#[],_,e1,rfl,(fun e he=>absurd he (by simp)),fun _=>rfl⟩
 have I1:=I.laid (a:=s.heap.objs.size) (o:=.own (s.heap.objs.size+1)) (h':=s.heap.push PySem.W.emptyDict) (t':=s.toks) (fun b u q=>Heap.get?_push_of_some _ q) (Nat.le_refl _) ⟨_,e1⟩
 refine I1.laid (a:=s.heap.objs.size+1) (o:=.ins C s.heap.objs.size []) (t':=s.toks) (fun b u q=>Heap.get?_push_of_some _ q) (Nat.le_of_eq (Heap.size_push _ _)) ?_
 have ne:s.heap.objs.size≠s.heap.objs.size+1:=Nat.ne_of_lt (Nat.lt_succ_self _)
 refine ⟨by rw [aL ne,ah],Nat.zero_le _,ne,e2,fun _=>none,(Heap.Ns1.of_empty e3).at fun o q=>Heap.get?_push_of_some _ q,fun _=>True.intro,fun y hy=>absurd rfl hy⟩
theorem KI {prog:Program} {w:World} {env:Env} {e:Expr} {f:Str} {pos:Pos} {s:Shared} {Q:Value→Shared→Prop} (hb:attributeBase e f env (eval e env)=eval e env)
  (h:wpAny (model prog w) A (eval e env) (fun o s₁=>wpAny (model prog w) A (getAttr o f true) Q E s₁) E s):wpAny (model prog w) A (eval (.Attribute e f pos) env) Q E s :=
 Attribute_any_ h (by rw [arm_eval_Attribute,hb])
end
def UL (K:PySem.W.Frag) (ta:TE) (f:Str):TE:=fun σ H Q=>ta σ H fun x H1=>∃ a C dx fs v,x=.ref a∧H1 a=some (.ins C dx fs)∧Jd K C∧lY K C f∧fs.lookup f=some v∧Q v H1
def Vv (K:PySem.W.Frag) (ta tv:TE) (f:Str):TS:=fun D σ H=>tv σ H fun y H1=>ta σ H1 fun x H2=>∃ a C dx fs,x=.ref a∧H2 a=some (.ins C dx fs)∧Jd K C∧lY K C f∧fs.length < 1000 ∧
 D.nx σ (upd H2 a (.ins C dx (kq f y fs)))
section
variable {X:Cx} {o e value:Expr} {f:Str} {pos pos' tpos:Pos} {ta tv:TE}
theorem dz (he:PE X e ta) (hb:attributeBase e f X.env (eval e X.env)=eval e X.env):PE X (.Attribute e f pos) (UL X.K ta f):=by
 intro pins s σ H Q I h
 refine KI hb (eY (he pins s σ H _ I h) fun u s1 ⟨x,H1,I1,rx,a,C,dx,fs,v,ex,ea,c,n,l,q⟩=>?_)
 subst ex
 obtain rfl:u=Value.ref a:=rx
 exact Bk I1 ea c n l fun u' s2 I2 ru=>⟨v,H1,I2,ru,q⟩
theorem Gd (ha:PE X o ta) (hv:PE X value tv) (hs:swapsWith value (some (.Attribute o f pos')) pos.line X.env=pure false):PS X (.Assign [.Attribute o f pos'] value pos) (Vv X.K ta tv f):=by
 intro pins s σ H D I h
 refine plainObj_wpAny_Assign_Attribute (eY (hv pins s σ H _ I h) fun u s1 ⟨y,H1,I1,ry,q⟩=>eY (ha pins s1 σ H1 _ I1 q) fun ov s2 ⟨x,H2,I2,rx,a,C,dx,fs,ex,ea,c,n,l,q2⟩=>?_) hs
 subst ex
 obtain rfl:ov=Value.ref a:=rx
 exact AE I2 ea c n l ry fun s3 I3=>⟨σ,_,I3,q2⟩
end
section
variable {X:Cx} {pins:List (Addr×Obj)} {σ:St} {H:Hp} {s:Shared} {A:Around} {E:Value→Shared→Prop} {Q:Value→Shared→Prop} {c:Value} {b:Bool}
inductive kU (K:PySem.W.Frag) (H:Hp):V→Value→Prop where
 | gc:kU K H .gc (.type "NoneType")
 | bl (x:Bool):kU K H (.bl x) (.type "bool")
 | int (i:Int):kU K H (.int i) (.type "int")
 | str (x:Str):kU K H (.str x) (.type "str")
 | Le (x:UInt64):kU K H (.Le x) (.type "float")
 | lst {a:Addr} {xs:List V} (e:H a=some (.lst xs)):kU K H (.ref a) (.type "list")
 | zQ {a:Addr} {o:Obj} {xs:List V} (e:H a=some (.zQ o (.lst xs))):kU K H (.ref a) (.type "list")
 | tup {a:Addr} {xs:List V} (e:H a=some (.tup xs)):kU K H (.ref a) (.type "tuple")
 | dK {a:Addr} {kvs:List (Key×V)} (e:H a=some (.dK kvs)):kU K H (.ref a) (.type "dict")
 | dT {a:Addr} {kvs:List (List Key×V)} (e:H a=some (.dT kvs)):kU K H (.ref a) (.type "dict")
 | ins {a C dx:Addr} {fs:List (Str×V)} (e:H a=some (.ins C dx fs)) (cl:Jd K C) (ha:PySem.W.findIn K (.ref C) "__class__"=some (some (.builtin "object.__class__")))
   (hn:PySem.W.specialIn K (.builtin "object.__class__") "__get__"=some (some (.builtin "getset_descriptor.__get__"))) (htk:PySem.W.takesIn K (.builtin "object.__class__")=some true)
   (hm:PySem.W.mroIn K C (.type "object")=some true):kU K H (.ref a) (.ref C)
theorem DQ {x:V} {u t:Value} (I:Inv X pins σ H s) (rx:RelV x u) (ty:kU X.K H x t) (e:PySem.W.kitOne X.K t c=some b) (h:∀ tk,Q (.bool b) { s with toks:=tk }) :
  wpAny (model X.prog X.w) A (call (.builtin "isinstance") [u,c]) Q E s:=by
 cases ty with
 | gc=>cases (show u=Value.none from rx);exact PySem.W.kia_one PySem.W.kitx_none I.lU True.intro e (fun z=>nomatch z) h
 | bl y=>cases (show u=Value.bool y from rx);exact PySem.W.kia_one PySem.W.kitx_bool I.lU True.intro e (fun z=>nomatch z) h
 | int i=>obtain ⟨t,q⟩:=(show ∃ t,u=Value.int i t from rx);cases q;exact PySem.W.kia_one PySem.W.kitx_int I.lU True.intro e (fun z=>nomatch z) h
 | str y=>obtain ⟨t,q⟩:=(show ∃ t,u=Value.str y t from rx);cases q;exact PySem.W.kia_one PySem.W.kitx_str I.lU True.intro e (fun z=>nomatch z) h
 | Le y=>obtain ⟨t,q⟩:=(show ∃ t,u=Value.float y t from rx);cases q;exact PySem.W.kia_one PySem.W.kitx_float I.lU True.intro e (fun z=>nomatch z) h
 | @lst a xs ea =>
  cases (show u=Value.ref a from rx)
  obtain ⟨_,_,n,_,h1⟩:=(show dh X.prog X.w H s.heap a (.lst xs) from I.hok a _ ea)
  exact PySem.W.kia_one PySem.W.kitx_list I.lU ⟨_,h1,rfl⟩ e (fun z=>nomatch z) h
 | @zQ a ob xs ea =>
  cases (show u=Value.ref a from rx)
  obtain ⟨_,_,_,n,_,h1⟩:=(show dh X.prog X.w H s.heap a (.zQ ob (.lst xs)) from I.hok a _ ea)
  exact PySem.W.kia_one PySem.W.kitx_list I.lU ⟨_,h1,rfl⟩ e (fun z=>nomatch z) h
 | @tup a xs ea =>
  cases (show u=Value.ref a from rx)
  obtain ⟨_,_,_,p⟩:=(show dh X.prog X.w H s.heap a (.tup xs) from I.hok a _ ea)
  obtain ⟨o,h1,h2,_⟩:=p
  exact PySem.W.kia_one PySem.W.kitx_tuple I.lU ⟨o,h1,h2⟩ e (fun z=>nomatch z) h
 | @dK a kvs ea =>
  cases (show u=Value.ref a from rx)
  obtain ⟨_,_,vs,_,p⟩:=(show dh X.prog X.w H s.heap a (.dK kvs) from I.hok a _ ea)
  obtain ⟨o,es,ep,h1,h2,_⟩:=p
  exact PySem.W.kia_one PySem.W.kitx_dict I.lU ⟨o,h1,h2.1⟩ e (fun z=>nomatch z) h
 | @dT a kvs ea =>
  cases (show u=Value.ref a from rx)
  obtain ⟨_,_,xs,_,o,es,ep,h1,h2,_⟩:=(show dh X.prog X.w H s.heap a (.dT kvs) from I.hok a _ ea)
  exact PySem.W.kia_one PySem.W.kitx_dict I.lU ⟨o,h1,h2.1⟩ e (fun z=>nomatch z) h
 | @ins a C dx fs ea cl ha hn htk hm =>
  cases (show u=Value.ref a from rx)
  obtain ⟨mA,O,_⟩:=oR I.hok ea
  obtain ⟨od,J,_⟩:=O.look
  exact PySem.W.kia_one (PySem.W.kitx_own (cl.get _) cl.hd ha hn htk hm) I.lU J e (fun z=>nomatch z) h
end
end L2
namespace L2
open PySem PySem.Spec PyProof.Rows
structure iL (k:Nat) (A:Around):Prop where
 hd:A.handled=none
 dp:A.depth+3*k+5 < recursionLimit
 un:A.units+16*k+200 < cLine
theorem iL.mono {j k:Nat} {A:Around} (r:iL k A) (h:j≤k):iL j A:=⟨r.hd,by have:=r.dp;omega,by have:=r.un;omega⟩
theorem iL.deeper {k:Nat} {A:Around} (r:iL (k+1) A) (env:Env):iL k (A.deeper env) :=
 ⟨r.hd,by have:=r.dp;show A.depth+1+3*k+5 < _;omega,by have:=r.un;show A.units+3+16*k+200 < _;omega⟩
theorem A7 {A:Around} {C:Addr} {us:List Value} {kw:List (Str×Value)}:(A.under (.builtin "type.__call__" ⟨.ref C::us,kw⟩)).depth=A.depth+1:=by
 first | rfl | simp [Around.under,Code.weight,Code.isCreation,Code.isGuard,Code.isCaller,Code.frames,Code.isFrame,guardIds]
theorem A6 {A:Around} {C:Addr} {us:List Value} {kw:List (Str×Value)}:(A.under (.builtin "type.__call__" ⟨.ref C::us,kw⟩)).units=A.units+1:=by
 first | rfl | simp [Around.under,Code.cUnits,Code.frames,Code.isFrame]
theorem iL.make {k:Nat} {A:Around} (r:iL (k+1) A) (C:Addr) (us:List Value) (kw:List (Str×Value)):iL k (A.under (.builtin "type.__call__" ⟨.ref C::us,kw⟩)) :=
 ⟨r.hd,by have:=r.dp;rw [A7];omega,by have:=r.un;rw [A6];omega⟩
theorem iL.depth {k:Nat} {A:Around} (r:iL k A):A.depth < recursionLimit:=by have:=r.dp;omega
theorem iL.units {k:Nat} {A:Around} (r:iL k A):A.units+64 < cLine:=by have:=r.un;omega
def UH:TA:=fun _ H Q=>Q [] H
def OC (ta:TE) (tr:TA):TA:=fun σ H Q=>ta σ H fun x H1=>tr σ H1 fun xs H2=>Q (x::xs) H2
section
variable {X:Cx} {e:Expr} {es:List Expr} {te:TE} {t:TA} {pos:Pos}
theorem ai:PA X [] UH:=fun _ _ _ _ H Q I h=>Calls.spliced_nil ⟨[],H,I,.nil,h⟩
theorem af (ha:PE X e te) (hr:PA X es t) (hs:starEach (e::es) X.env=(false,eval e X.env)::starEach es X.env:=by rfl):PA X (e::es) (OC te t):=by
 intro pos pins s σ H Q I h
 rw [hs]
 show wpAny _ _ (spliced ((false,eval e X.env)::backTo pos (starEach es X.env))) _ _ s
 refine Calls.spliced_cons (eY (ha pins s σ H _ I h) fun u s1 ⟨x,H1,I1,r1,q1⟩=>?_)
 exact eY (hr pos pins s1 σ H1 _ I1 q1) fun us s2 ⟨xs,H2,I2,r2,q2⟩=>⟨x::xs,H2,I2,.cons r1 r2,q2⟩
def UC (t:TA):TE:=fun σ H Q=>t σ H fun xs H1=>xs.length≤sizeLine∧∀ p,H1 p=none→Q (.ref p) (upd H1 p (.tup xs))
def UI (t:TA):TE:=fun σ H Q=>t σ H fun xs H1=>xs.length≤sizeLine∧∀ p,H1 p=none→Q (.ref p) (upd H1 p (.lst xs))
theorem aM {x1} (h:PA X es t):PE X (.Tuple es x1 pos) (UC t):=by
 intro pins s σ H Q I hq
 refine wpAny_Tuple_spliced (eY (h pos pins s σ H _ I hq) fun us s1 ⟨xs,H1,I1,r,z,q⟩=>⟨by rw [← r.length];exact z,?_⟩)
 have hf:H1 s1.heap.objs.size=none:=I1.hok.fresh (Nat.le_refl _)
 refine ⟨.ref s1.heap.objs.size,upd H1 s1.heap.objs.size (.tup xs),I1.laid (t':=s1.toks) (fun b u e=>Heap.get?_push_of_some _ e) (Nat.le_refl _) ?_,rfl,q _ hf⟩
 exact ⟨z,us,r,⟨_,Heap.get?_push_size _ rfl,rfl,_,rfl⟩⟩
theorem bP (h:PA X es t):PE X (.List es pos) (UI t):=by
 intro pins s σ H Q I hq
 refine wpAny_List_spliced (eY (h pos pins s σ H _ I hq) fun us s1 ⟨xs,H1,I1,r,z,q⟩=>⟨by rw [← r.length];exact z,?_⟩)
 have hf:H1 s1.heap.objs.size=none:=I1.hok.fresh (Nat.le_refl _)
 refine ⟨.ref s1.heap.objs.size,upd H1 s1.heap.objs.size (.lst xs),I1.laid (t':=s1.toks) (fun b u e=>Heap.get?_push_of_some _ e) (Nat.le_refl _) ?_,rfl,q _ hf⟩
 exact ⟨z,us,0,r,Heap.get?_push_size _ rfl⟩
end
abbrev Sp:=List V→Hp→VK→XK→Prop
abbrev Fd:=List Env→Hp→Shared→XK→Value→Shared→Prop
structure BV (P:Program) (w:World) (K:PySem.W.Frag) (mg:Str→Option Value) (base:Heap) (A:Around) (outer:List Env) (s:Shared) (H:Hp):Prop where
 frames:A.frames=some outer
 mod:Mod K mg base
 bs:∀ b o,base.get? b=some o→s.heap.get? b=some o∧H b=none
 KD:base.objs.size≤s.heap.objs.size
 qV:s.heap.FunFrames base outer
 MF:∀ b∈frs outer,H b=none
 hok:nQ P w H s.heap
 bare:AllBare s.gens
def CE (outer:List Env) (P:Program) (w:World) (H:Hp) (s:Shared) (Q:VK) (u:Value) (s':Shared):Prop :=
 ∃ v H',s'.os=s.os∧AllBare s'.gens∧Un (frs outer) [] H H' s.heap s'.heap∧nQ P w H' s'.heap∧RelV v u∧Q v H'
def CR (CX:Fd) (outer:List Env) (P:Program) (w:World) (H:Hp) (s:Shared) (Q:VK) (E:XK) (r:Result) (s':Shared):Prop :=
 match r with
 | .ok (.ret u)=>CE outer P w H s Q u s'
 | .ok _=>False
 | .error e=>CX outer H s E e s'
structure cL (P:Program) (w:World) (K:PySem.W.Frag) (mg:Str→Option Value) (base:Heap) (CX:Fd) (k:Nat) (f:Addr) (fd:FuncData) (ps:List Str) (sp:Sp):Prop where
 len:∀ vs H Q E,sp vs H Q E→vs.length=ps.length
 run:∀ (A:Around) (outer:List Env) (s:Shared) (H:Hp) (args:Args) (us:List Value) (vs:List V) (Q:VK) (E:XK),iL k A→BV P w K mg base A outer s H→BindsTo s fd args (ps.zip us)→Vals vs us→sp vs H Q E →
  codeAny (model P w) A (.call (.ref f) args) (CR CX outer P w H s Q E) s
theorem cL.imp {P:Program} {w:World} {K:PySem.W.Frag} {mg:Str→Option Value} {base:Heap} {CX:Fd} {k:Nat} {f:Addr} {fd:FuncData} {ps:List Str} {sp sp':Sp} (F:cL P w K mg base CX k f fd ps sp)
  (h:∀ vs H Q E,sp' vs H Q E→sp vs H Q E):cL P w K mg base CX k f fd ps sp' :=
 ⟨fun vs H Q E q=>F.len vs H Q E (h _ _ _ _ q),fun A outer s H args us vs Q E hr he hb hv hs=>F.run A outer s H args us vs Q E hr he hb hv (h _ _ _ _ hs)⟩
theorem BV.make {P:Program} {w:World} {K:PySem.W.Frag} {mg:Str→Option Value} {base:Heap} {A:Around} {outer:List Env} {s:Shared} {H:Hp} (e:BV P w K mg base A outer s H) (C:Addr) (us:List Value) (kw:List (Str×Value)) :
  BV P w K mg base (A.under (.builtin "type.__call__" ⟨.ref C::us,kw⟩)) outer s H:=⟨by first | exact e.frames | (simpa [Around.under,Code.envs,Code.isFrame,pushEnvs] using e.frames),e.mod,e.bs,e.KD,e.qV,e.MF,e.hok,e.bare⟩
section
variable {X:Cx} {pins:List (Addr×Obj)} {σ:St} {H:Hp} {s s':Shared}
theorem Inv.QD (I:Inv X pins σ H s):BV X.prog X.w X.K X.mg X.base X.A X.stack s H :=
 ⟨I.ok.frames,I.ok.mod,I.bs,Nat.le_trans I.ok.KD I.sz,I.stack,I.Co,I.hok,I.bare⟩
theorem Inv.after {Q:VK} {u:Value} (I:Inv X pins σ H s) (h:CE X.stack X.prog X.w H s Q u s'):EP X pins σ Q u s':=by
 obtain ⟨v,H',os,bare,un,hok,r,q⟩:=h
 obtain ⟨hh,g,d,t,os'⟩:=s'
 obtain rfl:os'=s.os:=os
 exact ⟨v,H',I.call (h':=hh) (g':=g) (d':=d) (t':=t) (ch:=[]) un hok bare (fun b z=>absurd z (by simp)),r,q⟩
end
def OD (sp:Sp) (yj:List V) (E:XK) (t:TA):TE:=fun σ H Q=>t σ H fun vs H1=>sp (vs++yj) H1 Q E
def Ox (C:Addr) (m:Str) (sp:Sp) (yj:List V) (E:XK) (ta:TE) (t:TA):TE:=fun σ H Q=>ta σ H fun x H1=>∃ a dx fs,x=.ref a∧H1 a=some (.ins C dx fs)∧fs.lookup m=none ∧
 t σ H1 fun vs H2=>sp (x::(vs++yj)) H2 Q E
def Oz (C:Addr) (sp:Sp) (yj:List V) (E:XK) (t:TA):TE:=fun σ H Q=>t σ H fun vs H1=>∀ x dx,H1 x=none→H1 dx=none→dx≠x →
 sp (.ref x::(vs++yj)) (upd (upd H1 dx (.own x)) x (.ins C dx [])) (fun v H2=>v=.gc∧Q (.ref x) H2) E
def Binds (K:PySem.W.Frag) (fd:FuncData) (ps:List Str) (ds:List Value):Prop :=
 ∀ (s:Shared) (us:List Value),K.In s.heap→(us++ds).length=ps.length→BindsTo s fd ⟨us,[]⟩ (ps.zip (us++ds))
theorem Binds.all {K:PySem.W.Frag} {fd:FuncData} {ps:List Str} (h:∀ us:List Value,us.length=ps.length→bindArgs fd ⟨us,[]⟩=pure (ps.zip us)):Binds K fd ps []:=fun s us _ hl=>by
 rw [List.append_nil] at hl ⊢
 exact .of_eq (h us hl)
def Passes (CX:Fd) (X:Cx) (E:XK):Prop:=∀ (pins:List (Addr×Obj)) (σ:St) (H:Hp) (s:Shared) (e:Value) (s':Shared),Inv X pins σ H s→CX X.stack H s E e s'→X.xe e s'
section
variable {X:Cx} {CX:Fd} {k:Nat} {f C:Addr} {fd:FuncData} {ps:List Str} {sp:Sp} {yj:List V} {ds:List Value} {E:XK} {x m:Str} {p pos apos:Pos} {e o:Expr} {es:List Expr} {ta:TE} {t:TA}
theorem Ga {pins:List (Addr×Obj)} {σ:St} {H:Hp} {s:Shared} {Q:VK} {us:List Value} {vs:List V} (F:cL X.prog X.w X.K X.mg X.base CX k f fd ps sp) (hr:iL k X.A) (hb:Binds X.K fd ps ds) (hd:Vals yj ds) (hx:Passes CX X E)
  (I:Inv X pins σ H s) (r:Vals vs us) (h:sp (vs++yj) H Q E):wpAny (model X.prog X.w) X.A (call (.ref f) us) (EP X pins σ Q) X.xe s:=by
 have r2:Vals (vs++yj) (us++ds):=r.append hd
 have hl:(us++ds).length=ps.length:=by rw [← r2.length];exact F.len _ _ _ _ h
 refine wpAny_call (codeAny_mono (F.run X.A X.stack s H ⟨us,[]⟩ (us++ds) (vs++yj) Q E hr I.QD (hb s us I.lU hl) r2 h) fun r s' hq=>?_)
 cases r with
 | error e=>exact hx pins σ H s e s' I hq
 | ok fl =>
  cases fl with
  | ret u=>exact I.after hq
  | next=>exact False.elim hq
  | brk=>exact False.elim hq
  | cont=>exact False.elim hq
theorem ao (F:cL X.prog X.w X.K X.mg X.base CX k f fd ps sp) (hr:iL k X.A) (hg:Gl X x) (hm:X.mg x=some (.ref f)) (hk:PySem.W.keepIn X.K (.ref f)=true) (hb:Binds X.K fd ps ds) (hd:Vals yj ds) (hx:Passes CX X E)
  (ha:PA X (e::es) t) (hdb:(x == ("__debug__":Str))=false:=by decide) (he:starEach (e::es) X.env=(false,eval e X.env)::starEach es X.env:=by rfl) (hpl:(backTo pos (starEach es X.env)).any (·.1)=false:=by rfl) :
  PE X (.Call (.Name x p) (e::es) [] pos) (OD sp yj E t):=by
 intro pins s σ H Q I h
 refine wpAny_Call_Name_kw (xW I hg hm ?_ hdb)
 refine PySem.W.callWith_K (h₀:=X.base) I.ok.mod.Pw hk (eY (ha pos pins s σ H _ I h) fun us s1 ⟨vs,H1,I1,r,q⟩=>⟨I1.lU,?_⟩) he hpl
 exact Ga F hr hb hd hx I1 r q
theorem fX {pl:Sem Bool} (he:PE X o ta) (c:Jd X.K C) (hm:Meth X.K C m f) (F:cL X.prog X.w X.K X.mg X.base CX k f fd ps sp) (hr:iL k X.A) (hb:Binds X.K fd ps ds) (hd:Vals yj ds) (hx:Passes CX X E) (ha:PA X (e::es) t)
  (hst:starEach (e::es) X.env=(false,eval e X.env)::starEach es X.env:=by rfl) (hpl:(backTo pos (starEach es X.env)).any (·.1)=false:=by rfl)
  (ht:eval (.Call (.Attribute o m apos) (e::es) [] pos) X.env=(do
   let ov ← eval o X.env
   standAt apos.atName
   let (f,first) ← holding [ov] (getMethod ov m pl)
   callWith pos f first (backTo pos (starEach (e::es) X.env)) (backToKw pos (keywordEach [] X.env))):=by rfl) :
  PE X (.Call (.Attribute o m apos) (e::es) [] pos) (Ox C m sp yj E ta t):=by
 intro pins s σ H Q I h
 refine PySem.W.methodCall_KW (pl:=pl) (eY (he pins s σ H _ I h) fun u s1 ⟨x,H1,I1,rx,a,dx,fs,ex,ea,l,q⟩=>?_) ht
 subst ex
 obtain rfl:u=Value.ref a:=rx
 refine Bj I1 ea c hm l ?_
 refine PySem.W.callWith_K (first:=[.ref a]) (h₀:=X.base) I.ok.mod.Pw hm.kp (eY (ha pos pins s1 σ H1 _ I1 q) fun us s2 ⟨vs,H2,I2,r,q2⟩=>⟨I2.lU,?_⟩) hst hpl
 exact Ga (us:=.ref a::us) (vs:=.ref a::vs) F hr hb hd hx I2 (.cons rfl r) q2
structure Mk (K:PySem.W.Frag) (C f:Addr):Prop where
 makes:PySem.W.makesIn K C=true
 init:PySem.W.findIn K (.ref C) "__init__"=some (some (.ref f))
 fn:PySem.W.isFn K (.ref f)=true
 kp:PySem.W.keepIn K (.ref C)=true
theorem F0 {pins:List (Addr×Obj)} {σ:St} {H:Hp} {s:Shared} {Q:VK} {us:List Value} {vs:List V} (M:Mk X.K C f) (F:cL X.prog X.w X.K X.mg X.base CX k f fd ps sp) (hr:iL (k+1) X.A) (hb:Binds X.K fd ps ds) (hd:Vals yj ds)
  (hx:Passes CX X E) (I:Inv X pins σ H s) (r:Vals vs us)
  (h:∀ x dx,H x=none→H dx=none→dx≠x→sp (.ref x::(vs++yj)) (upd (upd H dx (.own x)) x (.ins C dx [])) (fun v H2=>v=.gc∧Q (.ref x) H2) E) :
  wpAny (model X.prog X.w) X.A (call (.ref C) us) (EP X pins σ Q) X.xe s:=by
 have hq:=h (s.heap.objs.size+1) s.heap.objs.size (I.hok.fresh (Nat.le_succ _)) (I.hok.fresh (Nat.le_refl _)) (Nat.ne_of_lt (Nat.lt_succ_self _))
 have I2:=Inv.made (C:=C) I
 have r2:Vals (V.ref (s.heap.objs.size+1)::(vs++yj)) (Value.ref (s.heap.objs.size+1)::(us++ds)):=.cons rfl (r.append hd)
 have hl:(Value.ref (s.heap.objs.size+1)::us++ds).length=ps.length:=by
  have e:=r2.length
  rw [F.len _ _ _ _ hq] at e
  exact e.symm
 refine wpAny_call (GJ (f:=f) I.lU M.makes M.init (beq_iff_eq.mp M.fn) (codeAny_mono (F.run _ X.stack _ _ ⟨Value.ref (s.heap.objs.size+1)::us,[]⟩ (Value.ref (s.heap.objs.size+1)::(us++ds)) _ _ E (hr.make C us [])
  (I2.QD.make C us []) (hb _ (Value.ref (s.heap.objs.size+1)::us) I2.lU hl) r2 hq) fun r s' hq'=>?_))
 cases r with
 | error e=>exact hx pins σ _ _ e s' I2 hq'
 | ok fl =>
  cases fl with
  | ret u =>
   obtain ⟨v,H',I3,rv,ev,q3⟩:=I2.after hq'
   subst ev
   exact ⟨rv,⟨V.ref (s.heap.objs.size+1),H',I3,rfl,q3⟩⟩
  | next=>exact False.elim hq'
  | brk=>exact False.elim hq'
  | cont=>exact False.elim hq'
theorem xK (M:Mk X.K C f) (F:cL X.prog X.w X.K X.mg X.base CX k f fd ps sp) (hr:iL (k+1) X.A) (hg:Gl X x) (hm:X.mg x=some (.ref C)) (hb:Binds X.K fd ps ds) (hd:Vals yj ds) (hx:Passes CX X E)
  (ha:PA X (e::es) t) (hdb:(x == ("__debug__":Str))=false:=by decide) (he:starEach (e::es) X.env=(false,eval e X.env)::starEach es X.env:=by rfl) (hpl:(backTo pos (starEach es X.env)).any (·.1)=false:=by rfl) :
  PE X (.Call (.Name x p) (e::es) [] pos) (Oz C sp yj E t):=by
 intro pins s σ H Q I h
 refine wpAny_Call_Name_kw (xW I hg hm ?_ hdb)
 refine PySem.W.callWith_K (h₀:=X.base) I.ok.mod.Pw M.kp (eY (ha pos pins s σ H _ I h) fun us s1 ⟨vs,H1,I1,r,q⟩=>⟨I1.lU,?_⟩) he hpl
 exact F0 M F hr hb hd hx I1 r q
end
section
variable {X:Cx} {CX:Fd} {k:Nat} {f C:Addr} {fd:FuncData} {ps ks:List Str} {sp:Sp} {E:XK} {x m:Str} {p pos apos kpos:Pos} {e o:Expr} {es:List Expr} {kws:List Keyword} {te ta:TE} {t tk:TA} {nm:Option Str}
variable {g:List Value→List Value→List Value} {gV:List V→List V→List V}
end
structure aW (N P:List Str) (sc:Scope):Prop where
 kind:sc.kind=.function
 co:sc.isCoroutine=false
 gen:sc.isGenerator=false
 nd:N.Nodup
 pre:N.take P.length=P
 par:∀ x∈P,sc.names.lookup x=some .local∨sc.names.lookup x=some .cell
 L6:∀ y∈sc.names,y.2≠.free
theorem wA {kindOf:Str→Option NameKind} {x:Str}:∀ {binds:List (Str×Value)} {m:Str→Option Value},(∀ v,(x,v) ∉ binds)→bindL kindOf binds m x=m x
 | [],_,_=>rfl
 | (n,v)::r,m,h=>by
  unfold bindL
  rw [wA fun w hw=>h w (List.mem_cons_of_mem _ hw)]
  split
  ·have:x≠n:=by rintro rfl;exact h v List.mem_cons_self
   simp [this]
  ·rfl
theorem wC {kindOf:Str→Option NameKind} {x:Str}:∀ {binds:List (Str×Value)} {m:Str→Option Value},(∀ v,(x,v) ∉ binds)→bindC kindOf binds m x=m x
 | [],_,_=>rfl
 | (n,v)::r,m,h=>by
  unfold bindC
  rw [wC fun w hw=>h w (List.mem_cons_of_mem _ hw)]
  split
  ·rfl
  ·have:x≠n:=by rintro rfl;exact h v List.mem_cons_self
   simp [this]
theorem wB {kindOf:Str→Option NameKind} {x:Str} {v:Value}:∀ {P:List Str} {vs:List Value} {i:Nat} {m:Str→Option Value},P.Nodup→P[i]?=some x→vs[i]?=some v→kindOf x=some .local →
  bindL kindOf (P.zip vs) m x=some v
 | [],_,_,_,_,h,_,_=>by simp at h
 | _::_,[],_,_,_,_,h,_=>by simp at h
 | p::P,w::vs,0,m,nd,h1,h2,hk=>by
  simp at h1 h2;subst h1;subst h2
  show bindL kindOf ((p,w)::P.zip vs) m p=_
  unfold bindL
  rw [wA fun v hv=>(List.nodup_cons.mp nd).1 (List.of_mem_zip hv).1,if_pos hk]
  simp
 | p::P,w::vs,i+1,m,nd,h1,h2,hk=>by
  show bindL kindOf ((p,w)::P.zip vs) m x=_
  unfold bindL
  exact wB (i:=i) (List.nodup_cons.mp nd).2 (by simpa using h1) (by simpa using h2) hk
theorem wD {kindOf:Str→Option NameKind} {x:Str} {v:Value}:∀ {P:List Str} {vs:List Value} {i:Nat} {m:Str→Option Value},P.Nodup→P[i]?=some x→vs[i]?=some v→kindOf x≠some .local →
  bindC kindOf (P.zip vs) m x=some v
 | [],_,_,_,_,h,_,_=>by simp at h
 | _::_,[],_,_,_,_,h,_=>by simp at h
 | p::P,w::vs,0,m,nd,h1,h2,hk=>by
  simp at h1 h2;subst h1;subst h2
  show bindC kindOf ((p,w)::P.zip vs) m p=_
  unfold bindC
  rw [wC fun v hv=>(List.nodup_cons.mp nd).1 (List.of_mem_zip hv).1,if_neg hk]
  simp
 | p::P,w::vs,i+1,m,nd,h1,h2,hk=>by
  show bindC kindOf ((p,w)::P.zip vs) m x=_
  unfold bindC
  exact wD (i:=i) (List.nodup_cons.mp nd).2 (by simpa using h1) (by simpa using h2) hk
def start (N:List Str) (vs:List V):St:=vs.map some++List.replicate (N.length - vs.length) none
def Et (CX:Fd) (P:Program) (w:World) (K:PySem.W.Frag) (mg:Str→Option Value) (base:Heap) (N:List Str) (qual:Str) (scope:Scope) (f:Addr) (cd:Value) (A:Around) (outer:List Env) (s:Shared) (H:Hp) (E:XK):Cx where
 prog:=P
 w:=w
 K:=K
 mg:=mg
 base:=base
 A:=A.deeper (envOfC qual scope s.heap.objs.size f cd)
 N:=N
 s₀:=s
 H₀:=H
 env:=envOfC qual scope s.heap.objs.size f cd
 outer:=outer
 stack:=envOfC qual scope s.heap.objs.size f cd::outer
 ex:=[]
 calm:=true
 fn:=fun _=>true
 pn:=[]
 xe:=fun e s'=>wpAny (model P w) (A.deeper (envOfC qual scope s.heap.objs.size f cd)) (leaving (envOfC qual scope s.heap.objs.size f cd) e) (fun _ s''=>CX outer H s E e s'') (fun e' s''=>CX outer H s E e' s'') s'
theorem Af {sc:Scope} {n:Nat} {x:Str} (h:sc.names.lookup x=some .cell):∃ c,(cellsFrom n sc.names []).lookup x=some c:=by
 have q:=PySem.W.cellsFrom_some sc.names n [] (.inl h)
 exact Option.isSome_iff_exists.mp q
theorem DT {CX:Fd} {P:Program} {w:World} {K:PySem.W.Frag} {mg:Str→Option Value} {base:Heap} {N ps:List Str} {qual:Str} {scope:Scope} {f:Addr} {cd:Value} {A:Around} {outer:List Env} {s s1:Shared} {H:Hp} {E:XK} {us:List Value} {vs:List V}
  (S:aW N ps scope) (hd:A.handled=none) (e0:BV P w K mg base A outer s H) (hl:vs.length=ps.length) (r:Vals vs us)
  (x:InCallC s s.heap.objs.size (bindL (envOfC qual scope s.heap.objs.size f cd).kindOf (ps.zip us) fun _=>none) (cellsFrom (s.heap.objs.size+1) scope.names []) (bindC (envOfC qual scope s.heap.objs.size f cd).kindOf (ps.zip us) fun _=>none) s1) :
  Inv (Et CX P w K mg base N qual scope f cd A outer s H E) [] (start N vs) H s1:=by
 have hpl:ps.length≤N.length:=by have:=congrArg List.length S.pre;rw [List.length_take] at this;omega
 obtain ⟨h1,tk,rfl,hk⟩:=x.done
 have Pd:∀ b:Addr,b ∉ (Et CX P w K mg base N qual scope f cd A outer s H E).ex:=fun b z=>absurd (show b∈([]:List Addr) from z) (by simp)
 refine ⟨⟨e0.mod,S.kind,rfl,rfl,Nat.le_refl _,fun y z c h1 h2=>?_,fun y hy=>?_,fun y c _ h=>?_,fun _=>hd,Around.frames_deeper e0.frames,.inr ⟨rfl,rfl⟩,fun b z=>absurd z (Pd b),e0.bs,e0.KD,fun b _ _=>Pd b,fun b z=>absurd z (Pd b),e0.qV,e0.MF⟩,
  rfl,e0.bare,Un.kept hk,⟨_,x.toInCall.ns,fun i y v h1 h2 h3=>?_⟩,fun y c h=>⟨_,x.cell y c h⟩,e0.hok.fresh (Nat.le_refl _),fun y c h=>?_,fun p hp=>absurd (show p∈([]:List (Addr×Obj)) from hp) (by simp),e0.hok.kept hk,?_⟩
 ·exact name_of_addr x.apart (PySem.mem_of_lookup h1) (PySem.mem_of_lookup h2)
 ·have hy:scope.names.lookup y=some .cell∨scope.names.lookup y=some .free:=hy
  rcases hy with hy | hy
  ·exact Af hy
  ·exact absurd rfl (S.L6 _ (PySem.mem_of_lookup hy))
 ·exact Nat.le_of_lt (x.above y c (PySem.mem_of_lookup h))
 ·have hi:i < vs.length:=by
   unfold start at h2
   by_cases hi:i < vs.length
   ·exact hi
   ·rw [List.getElem?_append_right (by simpa using hi)] at h2
    rw [List.getElem?_replicate] at h2
    split at h2 <;> cases h2
  have ha:vs[i]?=some v:=by
   unfold start at h2
   rw [List.getElem?_append_left (by simpa using hi),List.getElem?_map] at h2
   cases e:vs[i]? with
   | none=>rw [e] at h2;cases h2
   | some a=>rw [e] at h2;cases h2;rfl
  obtain ⟨u,hu,rv⟩:=r.get ha
  have hp:ps[i]?=some y:=by
   rw [← S.pre,List.getElem?_take_of_lt (by omega)];exact h1
  have ndP:ps.Nodup:=by rw [← S.pre];exact S.nd.sublist (List.take_sublist _ _)
  refine ⟨u,rv,?_⟩
  rcases S.par y (List.mem_of_getElem? hp) with k | k
  ·exact .inl ⟨k,wB ndP hp hu k⟩
  ·obtain ⟨c,e⟩:=Af (n:=s.heap.objs.size+1) k
   refine .inr ⟨.inl k,c,e,?_⟩
   have q:=x.cell y c e
   rw [wD ndP hp hu (by show scope.names.lookup y≠_;rw [k];decide)] at q
   exact q
 ·exact e0.hok.fresh (Nat.le_of_lt (x.above y c (PySem.mem_of_lookup h)))
 ·unfold start
  show _=N.length
  rw [List.length_append,List.length_map,List.length_replicate]
  omega
theorem Qe {CX:Fd} {P:Program} {w:World} {K:PySem.W.Frag} {mg:Str→Option Value} {base:Heap} {k:Nat} {f:Addr} {name qual:Str} {params:Arguments} {body:List Stmt} {scope:Scope} {dV kV doc pm cdv ct oc:Value} {an od:Option Addr}
  {osl:Array (Option Value)} {N ps:List Str} {sp:Sp} (lk:K.lookup f=some ⟨oc,od,.func (PySem.W.fnOf name qual params body scope dV kV doc pm an cdv ct),osl⟩) (hcd:PySem.W.codeIn K cdv qual=true) (S:aW N ps scope)
  (len:∀ vs H Q E,sp vs H Q E→vs.length=ps.length)
  (hbody:∀ (A:Around) (outer:List Env) (s:Shared) (H:Hp) (vs:List V) (Q:VK) (E:XK),iL k (A.deeper (envOfC qual scope s.heap.objs.size f cdv))→sp vs H Q E →
   ∃ t,rR (Et CX P w K mg base N qual scope f cdv A outer s H E) body t∧t { nx:=fun _ H'=>Q .gc H',rt:=Q } (start N vs) H) :
  cL P w K mg base CX (k+1) f (PySem.W.fnOf name qual params body scope dV kV doc pm an cdv ct) ps sp:=by
 refine ⟨len,fun A outer s H args us vs Q E hr e0 hb r pG=>?_⟩
 have hl:=len _ _ _ _ pG
 have KX:K.In s.heap:=e0.mod.Pw.keeps fun b o e=>(e0.bs b o e).1
 have lim:s.heap.NoLimit:=e0.mod.nolimit.keeps fun b o e=>(e0.bs b o e).1
 have hkind:∀ y∈ps.zip us,scope.names.lookup y.1=some .local∨(scope.names.lookup y.1=some .cell∧((cellsFrom (s.heap.objs.size+1) scope.names []).lookup y.1).isSome=true):=fun ⟨n,v⟩ hy=>by
  rcases S.par n (List.of_mem_zip hy).1 with q | q
  ·exact .inl q
  ·exact .inr ⟨q,PySem.W.cellsFrom_some _ _ _ (.inl q)⟩
 refine codeAny_call_function hr.depth (KX _ _ lk) rfl S.co S.gen rfl (PySem.W.codeRec_of KX hcd) (hb _ _ _ _ ?_)
 refine wpAny_newFunctionEnv_cells S.kind hkind fun env he s1 x=>?_
 subst he
 refine ⟨lim.keeps x.toInCall.keep,codeAny_func ?_⟩
 obtain ⟨t,ht,hq⟩:=hbody A outer s H vs Q E (hr.deeper _) pG
 have I:Inv (Et CX P w K mg base N qual scope f cdv A outer s H E) [] (start N vs) H s1:=DT S hr.hd e0 hl r x
 refine wpAny_mono (ht [] s1 (start N vs) H _ I hq) (fun fl s' hs=>?_) fun e s' hs=>hs
 have fin:∀ {σ':St} {H':Hp} {v:V} {u:Value},Inv (Et CX P w K mg base N qual scope f cdv A outer s H E) [] σ' H' s'→RelV v u→Q v H'→CE outer P w H s Q u s' :=
  fun {σ' H' v u} J rv q=>⟨v,H',J.os,J.bare,J.base,J.hok,rv,q⟩
 cases fl with
 | ret u =>
  obtain ⟨v,σ',H',J,rv,q⟩:=hs
  exact fin J rv q
 | next =>
  obtain ⟨σ',H',J,q⟩:=hs
  exact fin (v:=V.gc) (u:=Value.none) J rfl q
 | brk =>
  obtain ⟨_,_,_,q⟩:=hs
  exact False.elim q
 | cont =>
  obtain ⟨_,_,_,q⟩:=hs
  exact False.elim q
end L2
namespace L2
open PySem PySem.Spec PyProof.Rows
section
variable {X:Cx} {x:Str} {p pos:Pos} {e:Expr} {es:List Expr} {t:TA} {id T:String} {r:List V→Hp→VK→Prop}
def tCB (r:List V→Hp→VK→Prop) (t:TA):TE:=fun σ H Q=>t σ H fun vs H1=>r vs H1 Q
theorem aJ (hc:jG X (.builtin id) r) (hg:Gl X x) (hm:X.mg x=none) (hv:bootBuiltins x=some (.builtin id)) (ha:PA X (e::es) t) (hn:x≠"__name__":=by decide) (hdb:(x == ("__debug__":Str))=false:=by decide)
  (he:starEach (e::es) X.env=(false,eval e X.env)::starEach es X.env:=by rfl) (hpl:(backTo pos (starEach es X.env)).any (·.1)=false:=by rfl):PE X (.Call (.Name x p) (e::es) [] pos) (tCB r t):=by
 intro pins s σ H Q I h
 refine wpAny_Call_Name_kw (uf I hg hm hv ?_ hn hdb)
 exact PyProof.Rows.callWith_builtin1 (eY (ha pos pins s σ H _ I h) fun us s1 ⟨vs,H1,I1,r1,q1⟩=>hc pins s1 σ H1 vs us Q I1 r1 q1) he hpl
theorem bV (hc:jG X (.type T) r) (hg:Gl X x) (hm:X.mg x=none) (hv:bootBuiltins x=some (.type T)) (ha:PA X (e::es) t) (hn:x≠"__name__":=by decide) (hdb:(x == ("__debug__":Str))=false:=by decide)
  (he:starEach (e::es) X.env=(false,eval e X.env)::starEach es X.env:=by rfl) (hpl:(backTo pos (starEach es X.env)).any (·.1)=false:=by rfl):PE X (.Call (.Name x p) (e::es) [] pos) (tCB r t):=by
 intro pins s σ H Q I h
 refine wpAny_Call_Name_kw (uf I hg hm hv ?_ hn hdb)
 exact PyProof.Rows.callWith_type1 (eY (ha pos pins s σ H _ I h) fun us s1 ⟨vs,H1,I1,r1,q1⟩=>hc pins s1 σ H1 vs us Q I1 r1 q1) he hpl
end
end L2
namespace HT
open PySem PyProof.Rows
section
open PySem.SeqAt
open PySem.AutoSeq1 (wpAny_loadPart')
open PySem.MeetsSeq PySem.MeetsSeq2 PySem.MeetsSeq3
end
section
variable {prog:Program} {w:World} {A:Around} {E:Value→Shared→Prop} {s:Shared}
theorem KA {t b:Addr} {vs ws:List Value} {Q:Value→Shared→Prop} (ht:IsTup s.heap t vs.toArray) (hb:IsTup s.heap b ws.toArray) (hv:vs≠[])
  (h1:ws=[]→Q (.ref t) s) (h2:ws≠[]→Q (.ref s.heap.objs.size) { s with heap:=s.heap.push { cls:=.type "tuple",data:=.seq (vs++ws).toArray } })
  (hsz:vs.length+ws.length≤sizeLine):wpAny (model prog w) A (binaryOp .Add (.ref t) (.ref b)) Q E s:=by
 obtain ⟨⟨cls,dd,data,sl⟩,ho,hc,n,hd⟩:=id ht
 obtain ⟨⟨a09,dd2,data2,sl2⟩,ho2,hc2,n2,hd2⟩:=id hb
 simp only at hc hd hc2 hd2
 subst hc hd hc2 hd2
 have e:vs.toArray++ws.toArray=(vs++ws).toArray:=by simp
 by_cases hw:ws=[]
 ·exact concat_meets ⟨_,ho,rfl⟩ ⟨_,ho2,rfl⟩ noFill_tuple_add seq_tuple_add PySem.F.slot_tuple_add PySem.F.entry_tuple_add (PySem.F.args_tuple_add_2 _ _)
   (tuple_addW1 t b vs.toArray ws.toArray n n2 dd dd2 sl sl2 (by simpa using hv) (by simp [hw])) ⟨ho,ho2,h1 hw⟩
 ·refine concat_meets ⟨_,ho,rfl⟩ ⟨_,ho2,rfl⟩ noFill_tuple_add seq_tuple_add PySem.F.slot_tuple_add PySem.F.entry_tuple_add (PySem.F.args_tuple_add_2 _ _)
   (tuple_addW2 t b vs.toArray ws.toArray n n2 dd dd2 sl sl2 (by simpa using hv) (by simpa using hw) (by rw [List.size_toArray,List.size_toArray];exact hsz)) ⟨ho,ho2,?_⟩
  rw [e]
  exact h2 hw
def gC (n d:Nat):Option Int→Nat
 | none=>d
 | some v=>if v < 0 then (v+(n:Int)).toNat else min v.toNat n
theorem tL (n d:Nat):gC n d none=d:=rfl
theorem rH (n d k:Nat):gC n d (some (k:Int))=min k n:=by
 show (if (k:Int) < 0 then ((k:Int)+(n:Int)).toNat else min (k:Int).toNat n)=min k n
 rw [if_neg (by omega),Int.toNat_natCast]
theorem LO (n d:Nat) (hd:d≤n) (o:Option Int):gC n d o≤n:=by
 cases o with
 | none=>exact hd
 | some v =>
  show (if v < 0 then (v+(n:Int)).toNat else min v.toNat n)≤n
  by_cases hv:v < 0
  ·rw [if_pos hv];omega
  ·rw [if_neg hv];exact Nat.min_le_right _ _
theorem Dd (v:Int) (n d:Nat):(if v < 0 then max (v+(n:Int)) 0 else min v (n:Int))=((gC n d (some v):Nat):Int):=by
 show (if v < 0 then max (v+(n:Int)) 0 else min v (n:Int))=(((if v < 0 then (v+(n:Int)).toNat else min v.toNat n):Nat):Int)
 by_cases hv:v < 0
 ·simp only [if_pos hv];omega
 ·simp only [if_neg hv];omega
theorem BL (lo hi:Option Int) (n:Nat):Builtin.Slice.sliceAdjust lo hi 1 (n:Int)=(((gC n 0 lo:Nat):Int),((gC n n hi:Nat):Int)):=by
 have h1:¬ ((1:Int) < 0):=by omega
 unfold Builtin.Slice.sliceAdjust
 simp only [h1,if_false]
 refine Prod.ext ?_ ?_
 ·cases lo with
  | none=>rfl
  | some v=>exact Dd v n 0
 ·cases hi with
  | none=>rfl
  | some v=>exact Dd v n n
theorem AK (i j:Nat):Builtin.Slice.slicePlaces (i:Int) (j:Int) 1=j - i:=by
 unfold Builtin.Slice.slicePlaces
 have h1:(1:Int) > 0:=by omega
 simp only [h1,if_true,Int.ediv_one]
 split <;> omega
theorem tE {v:Value} {o:Option Int} {Q:Option Int→Shared→Prop} (p:IsPart v o) (h:Q o s):wpAny (model prog w) A (Builtin.Slice.slicePartIndex v) Q E s:=by
 cases p with
 | none=>exact slicePart_none h
 | int i t=>exact slicePart_int h
theorem pS {sl:Addr} {vl vu:Value} {lo hi:Option Int} {n:Nat} {Q:Int×Int×Nat→Shared→Prop} (hs:s.heap.IsSliceOf sl vl vu .none) (pl:IsPart vl lo) (pu:IsPart vu hi)
  (h:Q (((gC n 0 lo:Nat):Int),1,gC n n hi - gC n 0 lo) s):wpAny (model prog w) A (Builtin.Slice.sliceApplied (.ref sl) (pure (n:Int))) Q E s:=by
 obtain ⟨os,hos,hcs,hds⟩:=id hs
 unfold Builtin.Slice.sliceApplied Builtin.Slice.sliceFields
 refine wpAny_bind (wpAny_bind (wpAny_field hos hds (x:=vl) rfl (wpAny_bind (wpAny_field hos hds (x:=vu) rfl (wpAny_bind (wpAny_field hos hds (x:=.none) rfl (wpAny_pure ?_)))))))
 refine wpAny_bind (slicePart_none ?_)
 show wpAny _ _ (if ((1:Int) == 0)=true then _ else _) _ _ s
 rw [if_neg (by decide)]
 refine wpAny_bind (tE pl (wpAny_bind (tE pu (wpAny_bind (wpAny_pure ?_)))))
 show wpAny _ _ (match Builtin.Slice.sliceAdjust lo hi 1 (n:Int) with | (lo,hi)=>pure (lo,(1:Int),Builtin.Slice.slicePlaces lo hi 1)) _ _ s
 rw [BL lo hi n]
 show wpAny _ _ (pure (((gC n 0 lo:Nat):Int),(1:Int),Builtin.Slice.slicePlaces ((gC n 0 lo:Nat):Int) ((gC n n hi:Nat):Int) 1)) _ _ s
 rw [AK]
 exact wpAny_pure h
theorem Gi (xs:Array Value) (i k:Nat):((List.range k).filterMap fun (m:Nat)=>xs[((i:Int)+(m:Int)*1).toNat]?).toArray=((xs.toList.drop i).take k).toArray:=by
 have e:(fun (m:Nat)=>xs[((i:Int)+(m:Int)*1).toNat]?)=fun m=>xs[i+m]?:=by
  funext m
  have:((i:Int)+(m:Int)*1).toNat=i+m:=by omega
  rw [this]
 rw [e]
 have:=pick_run xs i k
 rw [List.filterMap_map] at this
 have e2:((fun x=>xs[x]?) ∘ fun x=>i+x)=fun m=>xs[i+m]?:=rfl
 rw [e2] at this
 rw [this]
theorem oU {t sl:Addr} {items:Array Value} {vl vu:Value} {lo hi:Option Int} {Q:Value→Shared→Prop} (ht:IsTup s.heap t items) (hs:s.heap.IsSliceOf sl vl vu .none) (pl:IsPart vl lo) (pu:IsPart vu hi)
  (hw:¬ (gC items.size 0 lo=0∧gC items.size items.size hi=items.size))
  (h:Q (.ref s.heap.objs.size) { s with heap:=s.heap.push { cls:=.type "tuple",data:=.seq ((items.toList.drop (gC items.size 0 lo)).take (gC items.size items.size hi - gC items.size 0 lo)).toArray } })
  (hsz:items.size≤sizeLine):wpAny (model prog w) A (getItem (.ref t) (.ref sl)) Q E s:=by
 have CO:sizeOk (.seq ((items.toList.drop (gC items.size 0 lo)).take (gC items.size items.size hi - gC items.size 0 lo)).toArray):=by
  show ((items.toList.drop (gC items.size 0 lo)).take (gC items.size items.size hi - gC items.size 0 lo)).toArray.size≤sizeLine
  rw [List.size_toArray,List.length_take,List.length_drop,Array.length_toList]
  omega
 have hj:gC items.size items.size hi≤items.size:=LO _ _ (Nat.le_refl _) hi
 obtain ⟨os,hos,hcs,hds⟩:=id hs
 have hTs:s.TypeIs (.ref sl) "slice":=⟨os,hos,hcs⟩
 unfold getItem
 try with_reducible refine wpAny_holding ?_
 first | refine wpAny_bind (wpAny_pure ?_) | skip
 refine wpAny_bind (wpAny_sequenceKey ht.typeIs (by decide) ?_)
 refine wpAny_bind (wpAny_callSpecial?_slot (name:=Str.ofString "__getitem__") ht.typeIs PyProof.Rows.slot_tuple_getitem
  (wpAny_call_entry PyProof.Rows.slot_tuple_getitem ht.typeIs entry_tuple_getitem ?_ (args_tuple_getitem _ _)))
 show wpAny _ _ (Builtin.Tuple.tupleItemsOf (.ref t) >>= _) _ _ s
 refine wpAny_bind (tupleItemsOf_ ht ?_)
 refine wpAny_bind (wpAny_typeOf hTs ?_)
 rw [if_pos (by decide)]
 refine wpAny_bind (pS hs pl pu ?_)
 have hno:¬ ((((gC items.size 0 lo:Nat):Int) == 0 && (1:Int) == 1 && (gC items.size items.size hi - gC items.size 0 lo) == items.size)=true):=by
  intro q
  rw [Bool.and_eq_true,Bool.and_eq_true] at q
  have q1:((gC items.size 0 lo:Nat):Int)=0:=eq_of_beq q.1.1
  have q2:gC items.size items.size hi - gC items.size 0 lo=items.size:=eq_of_beq q.2
  exact hw ⟨by omega,by omega⟩
 show wpAny _ _ (if (((gC items.size 0 lo:Nat):Int) == 0 && (1:Int) == 1 && (gC items.size items.size hi - gC items.size 0 lo) == items.size)=true then _ else _) _ _ s
 rw [if_neg hno,Gi]
 first
  | exact wpAny_bind (m:=Builtin.Tuple.tupleExact _) (wpAny_newObj_type (wpAny_pure ⟨_,rfl,wpAny_pure h⟩) CO)
  | exact wpAny_bind (m:=Builtin.Tuple.tupleExact _) (wpAny_newObj_type (wpAny_bind (wpAny_pure (wpAny_pure ⟨_,rfl,wpAny_pure h⟩))) CO)
  | exact wpAny_bind (wpAny_bind (m:=Builtin.Tuple.tupleExact _) (wpAny_newObj_type (wpAny_pure (wpAny_pure ⟨_,rfl,wpAny_pure h⟩)) CO))
  | exact wpAny_bind (wpAny_bind (m:=Builtin.Tuple.tupleExact _) (wpAny_newObj_type (wpAny_pure ⟨_,rfl,wpAny_pure h⟩) CO))
end
end HT
namespace L2
open PySem PySem.Spec PyProof.Rows
abbrev TO:=St→Hp→(Option Int→Hp→Prop)→Prop
def PO (X:Cx) (e:Option Expr) (t:TO):Prop :=
 ∀ (pins:List (Addr×Obj)) (s:Shared) (σ:St) (H:Hp) (Q:Option Int→Hp→Prop),Inv X pins σ H s→t σ H Q →
  wpAny (model X.prog X.w) X.A (evalPart e X.env) (fun u s'=>∃ o H',Inv X pins σ H' s'∧IsPart u o∧Q o H') X.xe s
def Jp:TO:=fun _ H Q=>Q none H
def Ot (t:TE):TO:=fun σ H Q=>t σ H fun x H1=>∃ i,x=.int i∧Q (some i) H1
section
variable {X:Cx} {e:Expr} {te:TE} {lo hi:Option Expr} {tl th:TO} {pos p2:Pos}
theorem fD:PO X none Jp:=by
 intro pins s σ H Q I h
 rw [evalPart_none]
 exact wpAny_pure ⟨none,H,I,.none,h⟩
theorem fB (h:PE X e te):PO X (some e) (Ot te):=by
 intro pins s σ H Q I hw
 rw [evalPart_some]
 refine eY (h pins s σ H _ I hw) fun u s1 ⟨x,H1,I1,r1,q1⟩=>?_
 obtain ⟨i,rfl,q⟩:=q1
 obtain ⟨t,rfl⟩:=r1
 exact ⟨some i,H1,I1,.int i t,q⟩
def Ux (X:Cx) (r:V→Option Int→Option Int→Hp→VK→Prop):Prop :=
 ∀ (pins:List (Addr×Obj)) (s:Shared) (σ:St) (H:Hp) (x:V) (v vl vu:Value) (lo hi:Option Int) (sl:Addr) (Q:VK),Inv X pins σ H s→RelV x v→s.heap.IsSliceOf sl vl vu .none→IsPart vl lo→IsPart vu hi→r x lo hi H Q →
  ∃ T id,typeLookup (.type T) "__getitem__"=pure (some (.builtin id))∧s.TypeIs v T∧wpAny (model X.prog X.w) X.A (getItem v (.ref sl)) (EP X pins σ Q) X.xe s
def tSl (r:V→Option Int→Option Int→Hp→VK→Prop) (te:TE) (tl th:TO):TE:=fun σ H Q=>te σ H fun x H1=>tl σ H1 fun l H2=>th σ H2 fun u H3=>r x l u H3 Q
theorem eF {r:V→Option Int→Option Int→Hp→VK→Prop} (hr:Ux X r) (he:PE X e te) (hl:PO X lo tl) (hu:PO X hi th):PE X (.Subscript e (.Slice lo hi none p2) pos) (tSl r te tl th):=by
 intro pins s σ H Q I h
 refine Subscript_ (eY (he pins s σ H _ I h) fun v s1 ⟨x,H1,I1,r1,q1⟩=>?_)
 refine wpAny_Slice (eY (hl pins s1 σ H1 _ I1 q1) fun vl s2 ⟨l,H2,I2,pl,q2⟩=>eY (hu pins s2 σ H2 _ I2 q2) fun vu s3 ⟨u,H3,I3,pu,q3⟩=>?_)
 rw [evalPart_none]
 refine wpAny_pure ?_
 have I4:Inv X pins σ H3 { s3 with heap:=s3.heap.push { cls:=.type "slice",data:=.fields #[vl,vu,.none] } }:=I3.kept (t':=s3.toks) fun b ob q=>Heap.get?_push_of_some _ q
 obtain ⟨T,id,hT,ht,hg⟩:=hr pins { s3 with heap:=s3.heap.push { cls:=.type "slice",data:=.fields #[vl,vu,.none] } } σ H3 x v vl vu l u s3.heap.objs.size Q I4 r1 (Heap.IsSliceOf.new ..) pl pu q3
 show wpAny (model X.prog X.w) X.A (subscriptTail e (.Slice lo hi none p2) v (.ref s3.heap.objs.size)) (EP X pins σ Q) X.xe { s3 with heap:=s3.heap.push { cls:=.type "slice",data:=.fields #[vl,vu,.none] } }
 exact tail_any (ops:=[.ref s3.heap.objs.size,v]) ht hT hg (by with_unfolding_all rfl)
def kK (xs:List V) (lo hi:Option Int):List V:=(xs.drop (HT.gC xs.length 0 lo)).take (HT.gC xs.length xs.length hi - HT.gC xs.length 0 lo)
theorem qK (xs:List V) (lo hi:Option Int):(kK xs lo hi).length≤xs.length:=by
 unfold kK
 rw [List.length_take,List.length_drop]
 omega
def VC (K:PySem.W.Frag):V→Option Int→Option Int→Hp→VK→Prop:=fun x lo hi H Q=>∃ a xs,x=.ref a∧cR K H a xs ∧
 ¬ (HT.gC xs.length 0 lo=0∧HT.gC xs.length xs.length hi=xs.length)∧∀ p,H p=none→Q (.ref p) (upd H p (.tup (kK xs lo hi)))
theorem AD:Ux X (VC X.K):=by
 intro pins s σ H x v vl vu lo hi sl Q I rx hs pl pu h
 obtain ⟨a,xs,rfl,hx,hw,q⟩:=h
 cases rx
 obtain ⟨its,r,ht,hz⟩:=I.tuple hx
 have hlen:its.toArray.size=xs.length:=by rw [List.size_toArray];exact r.length.symm
 refine ⟨"tuple",_,PyProof.Rows.slot_tuple_getitem.lookup,ht.typeIs,?_⟩
 refine HT.oU ht hs pl pu (by rw [hlen];exact hw) ?_ (by rw [hlen];exact hz)
 rw [hlen]
 refine ⟨.ref s.heap.objs.size,_,I.laid (t':=s.toks) (o:=.tup (kK xs lo hi)) (fun b ob q=>Heap.get?_push_of_some _ q) (Nat.le_refl _) ?_,rfl,q _ (I.hok.fresh (Nat.le_refl _))⟩
 exact ⟨Nat.le_trans (qK xs lo hi) hz,_,(r.drop (HT.gC xs.length 0 lo)).take (HT.gC xs.length xs.length hi - HT.gC xs.length 0 lo),IsTup.new _ _⟩
def OV (K:PySem.W.Frag):R2:=fun x y H Q=>∃ a b xs ys,x=.ref a∧y=.ref b∧cR K H a xs∧cR K H b ys∧xs≠[]∧xs.length+ys.length≤sizeLine ∧
 (ys=[]→Q (.ref a) H)∧(ys≠[]→∀ p,H p=none→Q (.ref p) (upd H p (.tup (xs++ys))))
theorem Vals.rL {xs:List V} {us:List Value} (r:Vals xs us):us=[]↔xs=[]:=by
 cases r with
 | nil=>simp
 | cons _ _=>simp
theorem JL:mJ X (binaryOp .Add) (OV X.K):=by
 intro pins s σ H x y v u Q I rx ry h
 obtain ⟨a,b,xs,ys,rfl,rfl,ha,hb,hx,hz,q1,q2⟩:=h
 cases rx
 cases ry
 obtain ⟨its,r1,p1,_⟩:=I.tuple ha
 obtain ⟨its2,r2,p2,_⟩:=I.tuple hb
 refine HT.KA p1 p2 (fun z=>hx (r1.rL.mp z)) (fun z=>⟨.ref a,H,I,rfl,q1 (r2.rL.mp z)⟩) (fun z=>?_) (by rw [← r1.length,← r2.length];exact hz)
 refine ⟨.ref s.heap.objs.size,_,I.laid (t':=s.toks) (o:=.tup (xs++ys)) (fun b ob q=>Heap.get?_push_of_some _ q) (Nat.le_refl _) ?_,rfl,q2 (fun w=>z (r2.rL.mpr w)) _ (I.hok.fresh (Nat.le_refl _))⟩
 exact ⟨by rw [List.length_append];exact hz,_,r1.append r2,IsTup.new _ _⟩
end
end L2
namespace L2
open PySem PySem.Spec PyProof.Rows
def GY (n:Nat) (i:Int):Option Nat:=if 0≤i then (if i < n then some i.toNat else none) else if -(n:Int)≤i then some (i+n).toNat else none
def Ai {α:Type} (xs:List α) (i:Int):Option α:=(GY xs.length i).bind fun j=>xs[j]?
theorem CK {n:Nat} {i:Int} {j:Nat} (h:GY n i=some j):seqIndex? i n=some j∧j < n∧-(n:Int)≤i∧i < n:=by
 unfold GY at h
 by_cases h0:0≤i
 ·rw [if_pos h0] at h
  by_cases h1:i < n
  ·rw [if_pos h1] at h
   have e:i.toNat=j:=Option.some.inj h
   exact ⟨by rw [seqIndex_of h0 h1,e],by omega,by omega,h1⟩
  ·rw [if_neg h1] at h;cases h
 ·rw [if_neg h0] at h
  by_cases h1:-(n:Int)≤i
  ·rw [if_pos h1] at h
   have e:(i+n).toNat=j:=Option.some.inj h
   exact ⟨by rw [seqIndex_neg (by omega) h1,e],by omega,h1,by omega⟩
  ·rw [if_neg h1] at h;cases h
theorem yE {α:Type} {xs:List α} {i:Int} {v:α} (h:Ai xs i=some v):∃ j,seqIndex? i xs.length=some j∧xs[j]?=some v∧j < xs.length∧-(xs.length:Int)≤i∧i < xs.length:=by
 unfold Ai at h
 cases e:GY xs.length i with
 | none=>rw [e] at h;cases h
 | some j =>
  rw [e] at h
  obtain ⟨h1,h2,h3,h4⟩:=CK e
  exact ⟨j,h1,h,h2,h3,h4⟩
theorem aK {α:Type} {xs:List α} {j:Nat} {v:α} (h:xs[j]?=some v):Ai xs (j:Int)=some v:=by
 have hj:j < xs.length:=(List.getElem?_eq_some_iff.mp h).1
 have e:GY xs.length (j:Int)=some j:=by
  unfold GY
  rw [if_pos (by omega),if_pos (by omega)];simp
 unfold Ai;rw [e];exact h
theorem IC {α:Type} (xs:List α) (v:α):Ai (xs++[v]) (-1)=some v:=by
 have hl:(xs++[v]).length=xs.length+1:=by simp
 have e:GY (xs++[v]).length (-1)=some xs.length:=by
  unfold GY
  rw [hl,if_neg (by decide),if_pos (by omega)]
  congr 1
  omega
 unfold Ai
 rw [e]
 show (xs++[v])[xs.length]?=some v
 simp
def KN (b:Expr):Prop:=∀ o i,subscripted b false o i=operate [o,i] (getItem o i)
def Fb (X:Cx) (r:R2):Prop :=
 ∀ (value slice:Expr) (pins:List (Addr×Obj)) (s:Shared) (σ:St) (H:Hp) (x y:V) (v u:Value) (Q:VK),Inv X pins σ H s→RelV x v→RelV y u→r x y H Q →
  subscripted slice false v u=operate [v,u] (getItem v u)→wpAny (model X.prog X.w) X.A (subscriptTail value slice v u) (EP X pins σ Q) X.xe s
def MtR (X:Cx) (id:String) (r:V→List V→Hp→VK→Prop):Prop :=
 ∀ (pins:List (Addr×Obj)) (s:Shared) (σ:St) (H:Hp) (x:V) (xs:List V) (v:Value) (us:List Value) (Q:VK),Inv X pins σ H s→RelV x v→Vals xs us→r x xs H Q →
  wpAny (model X.prog X.w) X.A (call (.builtin id) (v::us)) (EP X pins σ Q) X.xe s
section
variable {X:Cx} {a b:Expr} {ta tb:TE} {pos:Pos}
theorem Fb.or {r r':R2} (h:Fb X r) (h':Fb X r'):Fb X (fun x y H Q=>r x y H Q∨r' x y H Q):=by
 intro value slice pins s σ H x y v u Q I rx ry q hs
 rcases q with q | q
 ·exact h value slice pins s σ H x y v u Q I rx ry q hs
 ·exact h' value slice pins s σ H x y v u Q I rx ry q hs
theorem aD {r:R2} (hr:Fb X r) (ha:PE X a ta) (hb:PE X b tb) (hs:KN b):PE X (.Subscript a b pos) (R1 r ta tb):=by
 intro pins s σ H Q I h
 exact Subscript_ (Nl ha hb I h fun v u s2 x y H2 I2 rx ry q=>hr a b pins s2 σ H2 x y v u Q I2 rx ry q (hs _ _))
def LS (K:PySem.W.Frag):R2:=fun x y H Q=>∃ p xs i v,x=.ref p∧y=.int i∧bz K H p xs∧Ai xs i=some v∧Q v H
def LR (K:PySem.W.Frag):R2:=fun x y H Q=>∃ p xs i v,x=.ref p∧y=.int i∧cR K H p xs∧Ai xs i=some v∧Q v H
def OS:R2:=fun x y H Q=>∃ z i c,x=.str z∧y=.int i∧z.length≤sizeLine∧Ai z.cps.toList i=some c∧Q (.str ⟨#[c]⟩) H
theorem aI:Fb X (LS X.K):=by
 intro value slice pins s σ H x y v u Q I rx ry h hs
 obtain ⟨p,xs,i,z,rfl,rfl,hq,he,q⟩:=h
 cases rx
 obtain ⟨t,rfl⟩:=ry
 obtain ⟨its,r,pl,hz⟩:=I.list hq
 obtain ⟨j,h1,h2,h3,h4,h5⟩:=yE he
 obtain ⟨w,ew,rw'⟩:=r.get h2
 have hl:=r.length
 have hn:=qg
 have fin:EP X pins σ Q w s:=⟨z,H,I,rw',q⟩
 by_cases h0:0≤i
 ·have hj:i.toNat=j:=by
   rw [seqIndex_of h0 h5] at h1
   exact Option.some.inj h1
  exact item_listR pl.isList h0 (by omega) (by rw [hj];simpa using ew) fin hs
 ·have hj:(i+(its.toArray.size:Int)).toNat=j:=by
   rw [seqIndex_neg (by omega) h4] at h1
   rw [List.size_toArray,← hl]
   exact Option.some.inj h1
  exact subscriptTail_builtinR (x:=w) pl.isList.typeIs slot_list_getitem.lookup
   (wpAny_getItem_list_neg (Q:=fun r s'=>r=w∧EP X pins σ Q r s') pl.isList (by omega) (by rw [List.size_toArray] <;> omega) (by omega) (by rw [hj];simpa using ew) ⟨rfl,fin⟩) hs
theorem ic:Fb X (LR X.K):=by
 intro value slice pins s σ H x y v u Q I rx ry h hs
 obtain ⟨p,xs,i,z,rfl,rfl,hq,he,q⟩:=h
 cases rx
 obtain ⟨t,rfl⟩:=ry
 obtain ⟨its,r,pl,hz⟩:=I.tuple hq
 obtain ⟨j,h1,h2,h3,h4,h5⟩:=yE he
 obtain ⟨w,ew,rw'⟩:=r.get h2
 have hl:=r.length
 have hn:=qg
 have fin:EP X pins σ Q w s:=⟨z,H,I,rw',q⟩
 exact subscriptTail_builtinR (x:=w) pl.typeIs slot_tuple_getitem.lookup
  (getItem_tuple (j:=j) (Q:=fun r s'=>r=w∧EP X pins σ Q r s') pl (by omega) (by omega) (by rw [List.size_toArray,← hl];exact h1) (by simpa using ew) ⟨rfl,fin⟩) hs
theorem Ml:Fb X OS:=by
 intro value slice pins s σ H x y v u Q I rx ry h hs
 obtain ⟨z,i,c,rfl,rfl,hz,he,q⟩:=h
 obtain ⟨t,rfl⟩:=rx
 obtain ⟨t',rfl⟩:=ry
 obtain ⟨j,h1,h2,h3,h4,h5⟩:=yE he
 have hl:z.cps.toList.length=z.length:=by simp [Str.length]
 rw [hl] at h1 h4 h5
 have hn:=qg
 exact tail_any (typeIs_str s z t) slot_str_getitem.lookup (getItem_str (c:=c) (by
  have e1:decide (i < -(2 ^ 63:Int))=false:=decide_eq_false (by omega)
  have e2:decide (i ≥ 2 ^ 63)=false:=decide_eq_false (by omega)
  rw [e1,e2,Bool.or_false]) (by rw [h1];simpa using h2) ⟨.str ⟨#[c]⟩,H,I.tok _,⟨_,rfl⟩,q⟩) hs
def VF (K:PySem.W.Frag):R2:=fun x y H Q=>LS K x y H Q∨LR K x y H Q∨OS x y H Q
theorem aX:Fb X (VF X.K):=aI.or (ic.or Ml)
theorem A5 (its:List Value) (n j:Nat) (u:Value):Obj.mapSeq (·.setIfInBounds j u) { cls:=.type "list",data:=.seq its.toArray n }={ cls:=.type "list",data:=.seq (its.set j u).toArray n }:=by
 simp [Obj.mapSeq]
theorem Inv.lst {pins:List (Addr×Obj)} {σ:St} {H:Hp} {s:Shared} {p:Addr} {xs:List V} (I:Inv X pins σ H s) (h:H p=some (.lst xs)) :
  ∃ (its:List Value) (n:Nat),Vals xs its∧s.heap.get? p=some { cls:=.type "list",data:=.seq its.toArray n }∧xs.length≤sizeLine:=by
 obtain ⟨z,its,n,r,e⟩:=I.hok p _ h
 exact ⟨its,n,r,e,z⟩
theorem Inv.Mb {pins:List (Addr×Obj)} {σ:St} {H:Hp} {s:Shared} {p:Addr} {xs ys:List V} {its its':List Value} {n n':Nat} {f:Obj→Obj} (I:Inv X pins σ H s) (h:H p=some (.lst xs))
  (ho:s.heap.get? p=some { cls:=.type "list",data:=.seq its.toArray n }) (hf:f { cls:=.type "list",data:=.seq its.toArray n }={ cls:=.type "list",data:=.seq its'.toArray n' }) (r:Vals ys its') (hz:ys.length≤sizeLine) (t:Nat) :
  Inv X pins σ (upd H p (.lst ys)) { s with heap:=s.heap.update p f,toks:=t }:=by
 have e:(s.heap.update p f).get? p=some { cls:=.type "list",data:=.seq its'.toArray n' }:=by
  rw [Heap.get?_update_self f ho (by rw [hf] <;> rfl),hf]
 refine I.write (x:=p) (e:=p) (by rw [h];trivial) (.inl rfl) (fun b u hb q=>(Heap.get?_update_other _ _ (Ne.symm hb)).trans q) ⟨_,e⟩ ?_
 exact ⟨hz,its',n',r,e⟩
def OQ:V→V→V→Hp→(Hp→Prop)→Prop:=fun o i v H Q=>∃ p xs k j,o=.ref p∧i=.int k∧H p=some (.lst xs)∧GY xs.length k=some j∧Q (upd H p (.lst (xs.set j v)))
theorem set_list:Nr X OQ:=by
 intro pins s σ H o i v ov iv u Q I ro ri rv h
 obtain ⟨p,xs,k,j,rfl,rfl,hp,hj,q⟩:=h
 cases ro
 obtain ⟨t,rfl⟩:=ri
 obtain ⟨its,n,r,ho,hz⟩:=I.lst hp
 obtain ⟨h1,h2,h3,h4⟩:=CK hj
 have hl:=r.length
 have hn:=qg
 have I':Inv X pins σ (upd H p (.lst (xs.set j v))) { s with heap:=s.heap.update p (Obj.mapSeq (·.setIfInBounds j u)) } :=
  I.Mb hp ho (A5 its n j u) (r.set rv j) (by rw [List.length_set];exact hz) s.toks
 by_cases h0:0≤k
 ·have hk:k.toNat=j:=by
   rw [seqIndex_of h0 h4] at h1
   exact Option.some.inj h1
  exact PySem.W.ki_setAt ho h0 (by omega) (by rw [List.size_toArray,← hl];exact h4) (by rw [hk];exact ⟨_,I',q⟩)
 ·have hk:(k+(its.toArray.size:Int)).toNat=j:=by
   rw [seqIndex_neg (by omega) h3] at h1
   rw [List.size_toArray,← hl]
   exact Option.some.inj h1
  exact PySem.W.ki_setBack ho (by omega) (by rw [List.size_toArray,← hl];exact h3) (by omega) (by rw [hk];exact ⟨_,I',q⟩)
theorem xC (lo hi:Option Int) (n:Nat):(sliceBounds lo hi none n).1=((HT.gC n 0 lo:Nat):Int)∧(sliceBounds lo hi none n).2.1=((HT.gC n n hi:Nat):Int)∧(sliceBounds lo hi none n).2.2=1:=by
 refine ⟨?_,?_,rfl⟩
 ·cases lo with
  | none=>simp [sliceBounds,HT.gC]
  | some i =>
   simp only [sliceBounds,HT.gC,Option.getD_none,show (1:Int) > 0 by decide,if_true]
   by_cases h:i < 0
   ·simp only [h,if_true] <;> omega
   ·simp only [h,if_false] <;> omega
 ·cases hi with
  | none=>simp [sliceBounds,HT.gC]
  | some i =>
   simp only [sliceBounds,HT.gC,Option.getD_none,show (1:Int) > 0 by decide,if_true]
   by_cases h:i < 0
   ·simp only [h,if_true] <;> omega
   ·simp only [h,if_false] <;> omega
theorem uX (its:List Value) (lo hi:Option Int):slicePick its.toArray lo hi none=((its.drop (HT.gC its.length 0 lo)).take (HT.gC its.length its.length hi - HT.gC its.length 0 lo)).toArray:=by
 obtain ⟨h1,h2,h3⟩:=xC lo hi its.toArray.size
 unfold slicePick
 rw [h1,h2,h3]
 simp only [sliceRange_one,pick_run,List.size_toArray] <;> rfl
def VD (K:PySem.W.Frag):V→Option Int→Option Int→Hp→VK→Prop:=fun x lo hi H Q=>∃ a xs,x=.ref a∧bz K H a xs∧∀ p,H p=none→Q (.ref p) (upd H p (.lst (kK xs lo hi)))
theorem gG:Ux X (VD X.K):=by
 intro pins s σ H x v vl vu lo hi sl Q I rx hs pl pu h
 obtain ⟨a,xs,rfl,hx,q⟩:=h
 cases rx
 obtain ⟨its,r,ht,hz⟩:=I.list hx
 have hlen:=r.length
 refine ⟨"list",_,slot_list_getitem.lookup,ht.isList.typeIs,?_⟩
 refine wpAny_getItem_list_slice ht.isList hs pl pu .none (by simp) ?_ (by rw [List.size_toArray] <;> omega)
 rw [uX,← hlen]
 refine ⟨.ref s.heap.objs.size,_,I.laid (t':=s.toks) (o:=.lst (kK xs lo hi)) (fun b ob q=>Heap.get?_push_of_some _ q) (Nat.le_refl _) ?_,rfl,q _ (I.hok.fresh (Nat.le_refl _))⟩
 exact ⟨Nat.le_trans (qK xs lo hi) hz,_,0,(r.drop (HT.gC xs.length 0 lo)).take (HT.gC xs.length xs.length hi - HT.gC xs.length 0 lo),Heap.get?_push_size _ rfl⟩
def gj:V→Bool
 | .gc=>true
 | .bl _=>true
 | .int _=>true
 | .str _=>true
 | _=>false
def Qw:V→V→Bool
 | .gc,.gc=>true
 | .bl a,.bl b=>a == b
 | .bl a,.int b=>(if a then 1 else 0) == b
 | .int a,.bl b=>a == (if b then 1 else 0)
 | .int a,.int b=>a == b
 | .str a,.str b=>a == b
 | _,_=>false
theorem MZ {A:Around} {s:Shared} {y x:V} {u v:Value} (ry:RelV y u) (rx:RelV x v) (fy:gj y=true) (fx:gj x=true):SeqAt.EqAt A s u v (Qw y x):=by
 cases y with
 | gc =>
  cases ry
  cases x with
  | gc=>cases rx;exact SeqAt.EqAt.same _
  | bl b=>cases rx;exact SeqAt.EqAt.none_bool b
  | int b=>obtain ⟨t,rfl⟩:=rx;exact SeqAt.EqAt.none_int b t
  | str b=>obtain ⟨t,rfl⟩:=rx;exact SeqAt.EqAt.none_str b t
  | _=>exact absurd (show false=true from fx) Bool.false_ne_true
 | bl a =>
  cases ry
  cases x with
  | gc=>cases rx;exact SeqAt.EqAt.bool_none a
  | bl b=>cases rx;exact SeqAt.EqAt.bool_bool a b
  | int b=>obtain ⟨t,rfl⟩:=rx;exact SeqAt.EqAt.bool_int a b t
  | str b=>obtain ⟨t,rfl⟩:=rx;exact SeqAt.EqAt.bool_str a b t
  | _=>exact absurd (show false=true from fx) Bool.false_ne_true
 | int a =>
  obtain ⟨t',rfl⟩:=ry
  cases x with
  | gc=>cases rx;exact SeqAt.EqAt.int_none a t'
  | bl b=>cases rx;exact SeqAt.EqAt.int_bool a t' b
  | int b=>obtain ⟨t,rfl⟩:=rx;exact SeqAt.EqAt.int_int a t' b t
  | str b=>obtain ⟨t,rfl⟩:=rx;exact SeqAt.EqAt.int_str a t' b t
  | _=>exact absurd (show false=true from fx) Bool.false_ne_true
 | str a =>
  obtain ⟨t',rfl⟩:=ry
  cases x with
  | gc=>cases rx;exact SeqAt.EqAt.str_none a t'
  | bl b=>cases rx;exact SeqAt.EqAt.str_bool a t' b
  | int b=>obtain ⟨t,rfl⟩:=rx;exact SeqAt.EqAt.str_int a t' b t
  | str b=>obtain ⟨t,rfl⟩:=rx;exact SeqAt.EqAt.str_str a t' b t
  | _=>exact absurd (show false=true from fx) Bool.false_ne_true
 | _=>exact absurd (show false=true from fy) Bool.false_ne_true
theorem aG:jG X (.builtin "len") (fun xs H Q=>∃ p ys,xs=[.ref p]∧(bz X.K H p ys∨cR X.K H p ys)∧Q (.int ys.length) H):=by
 intro pins s σ H xs us Q I r h
 obtain ⟨p,ys,rfl,hq,q⟩:=h
 obtain ⟨u,rfl,rx⟩:=vals1 r
 cases rx
 have hn:=qg
 rcases hq with hq | hq
 ·obtain ⟨its,r',pl,hz⟩:=I.list hq
  have hlen:=r'.length
  exact Calls.call_len_list pl.isList (by simp only [List.size_toArray] <;> omega) ⟨.int ys.length,H,I.tok _,⟨s.toks+1,by rw [List.size_toArray,hlen]⟩,q⟩
 ·obtain ⟨its,r',pl,hz⟩:=I.tuple hq
  have hlen:=r'.length
  exact len_tuple pl (by simp only [List.size_toArray] <;> omega) ⟨.int ys.length,H,I.tok _,⟨s.toks+1,by rw [List.size_toArray,hlen]⟩,q⟩
theorem cV:jG X (.type "list") (fun xs H Q=>∃ p ys,xs=[.ref p]∧(bz X.K H p ys∨cR X.K H p ys)∧∀ l,H l=none→Q (.ref l) (upd H l (.lst ys))):=by
 intro pins s σ H xs us Q I r h
 obtain ⟨p,ys,rfl,hq,q⟩:=h
 obtain ⟨u,rfl,rx⟩:=vals1 r
 cases rx
 have fin:∀ (its:List Value),Vals ys its→ys.length≤sizeLine→∀ (h':Heap) (c':Nat),(∀ b o',s.heap.get? b=some o'→h'.get? b=some o') →
   h'.get? s.heap.objs.size=some { cls:=.type "list",dict:=none,data:=.seq its.toArray c',slots:=#[] }→EP X pins σ Q (.ref s.heap.objs.size) { s with heap:=h' }:=fun its r' hz h' c' kp e =>
  ⟨.ref s.heap.objs.size,_,I.laid (t':=s.toks) kp (Nat.le_refl _) (show dh X.prog X.w _ h' _ (.lst ys) from ⟨hz,its,c',r',e⟩),rfl,q _ (I.hok.fresh (Nat.le_refl _))⟩
 rcases hq with hq | hq
 ·obtain ⟨its,r',pl,hz⟩:=I.list hq
  have hlen:=r'.length
  obtain ⟨o,ho,hc,n,hd⟩:=pl.isList
  exact call_list_seq p (.inl rfl) ho hc hd (fun h' c' kp e=>fin its r' hz h' c' kp e) (by simp only [List.size_toArray] <;> omega)
 ·obtain ⟨its,r',pl,hz⟩:=I.tuple hq
  have hlen:=r'.length
  obtain ⟨o,ho,hc,n,hd⟩:=pl
  exact call_list_seq p (.inr rfl) ho hc hd (fun h' c' kp e=>fin its r' hz h' c' kp e) (by simp only [List.size_toArray] <;> omega)
theorem dS:jG X (.type "tuple") (fun xs H Q=>∃ p ys,xs=[.ref p]∧((bz X.K H p ys∧∀ l,H l=none→Q (.ref l) (upd H l (.tup ys)))∨(cR X.K H p ys∧Q (.ref p) H))):=by
 intro pins s σ H xs us Q I r h
 obtain ⟨p,ys,rfl,h⟩:=h
 obtain ⟨u,rfl,rx⟩:=vals1 r
 cases rx
 rcases h with ⟨hq,q⟩ | ⟨hq,q⟩
 ·obtain ⟨its,r',pl,hz⟩:=I.list hq
  have hlen:=r'.length
  refine call_tuple_list pl.isList (fun h' kp=>?_) (by simp only [List.size_toArray] <;> omega)
  have I1:Inv X pins σ H { s with heap:=h' }:=I.kept (t':=s.toks) kp
  have I2:Inv X pins σ (upd H h'.objs.size (.tup ys)) { s with heap:=h'.push { cls:=.type "tuple",data:=.seq its.toArray } } :=
   I1.laid (t':=s.toks) (fun b o e=>Heap.get?_push_of_some _ e) (Nat.le_refl _) (show dh X.prog X.w _ _ _ (.tup ys) from ⟨hz,its,r',IsTup.new _ _⟩)
  exact ⟨.ref h'.objs.size,_,I2,rfl,q _ (I1.hok.fresh (Nat.le_refl _))⟩
 ·obtain ⟨its,r',pl,hz⟩:=I.tuple hq
  exact call_tuple_same pl ⟨.ref p,H,I,rfl,q⟩
def tyV (K:PySem.W.Frag) (T:String) (x:V) (H:Hp):Prop:=match x with
 | .str _=>T="str"
 | .int _=>T="int"
 | .ref p=>(T="list"∧∃ xs,bz K H p xs)∨(T="tuple"∧∃ o,K.lookup p=some o∧o.cls=.type "tuple"∧o.dict=none) ∨
   (T="dict"∧((∃ kvs,H p=some (.dK kvs))∨∃ kvs,H p=some (.dT kvs)))∨(T="set"∧∃ S n,H p=some (.set S n))
 | _=>False
theorem Lx {pins:List (Addr×Obj)} {σ:St} {H:Hp} {s:Shared} {T:String} {x:V} {v:Value} (I:Inv X pins σ H s) (r:RelV x v) (ty:tyV X.K T x H) :
  s.TypeIs v T∧∀ a,v=.ref a→∃ ob,s.heap.get? a=some ob∧ob.dict=none:=by
 cases x with
 | str z =>
  obtain ⟨t,rfl⟩:=r
  cases (show T="str" from ty)
  exact ⟨typeIs_str s z t,fun _ e=>nomatch e⟩
 | int i =>
  obtain ⟨t,rfl⟩:=r
  cases (show T="int" from ty)
  exact ⟨typeIs_int s i t,fun _ e=>nomatch e⟩
 | ref p =>
  cases r
  rcases ty with ⟨rfl,xs,hq⟩ | ⟨rfl,o,hk,hc,hd⟩ | ⟨rfl,hk⟩ | ⟨rfl,S,n,hk⟩
  ·obtain ⟨its,_,pl,_⟩:=I.list hq
   refine ⟨pl.isList.typeIs,fun a e=>?_⟩
   cases e
   obtain ⟨o,n,e,c,hd,_⟩:=pl
   exact ⟨o,e,hd⟩
  ·refine ⟨⟨o,I.lU p o hk,hc⟩,fun a e=>?_⟩
   cases e
   exact ⟨o,I.lU _ o hk,hd⟩
  ·have z:∃ o,s.heap.get? p=some o∧o.ExactDict:=by
    rcases hk with ⟨kvs,hk⟩ | ⟨kvs,hk⟩
    ·obtain ⟨_,_,_,_,o,_,_,e,ex,_⟩:=I.hok p _ hk
     exact ⟨o,e,ex⟩
    ·obtain ⟨_,_,_,_,o,_,_,e,ex,_⟩:=I.hok p _ hk
     exact ⟨o,e,ex⟩
   obtain ⟨o,e,ex⟩:=z
   refine ⟨⟨o,e,ex.1⟩,fun a e2=>?_⟩
   cases e2
   exact ⟨o,e,ex.2.1⟩
  ·obtain ⟨o,_,_,_,e,ex,_⟩:=I.hok p _ hk
   refine ⟨⟨o,e,ex.1⟩,fun a e2=>?_⟩
   cases e2
   exact ⟨o,e,ex.2.1⟩
 | _=>exact False.elim ty
def tBM (K:PySem.W.Frag) (T:String) (r:V→List V→Hp→VK→Prop) (to:TE) (t:TA):TE:=fun σ H Q=>to σ H fun x H1=>tyV K T x H1∧t σ H1 fun xs H2=>r x xs H2 Q
variable {o e:Expr} {es:List Expr} {to:TE} {t:TA} {name:Str} {apos cpos:Pos} {T id:String} {r:V→List V→Hp→VK→Prop}
theorem mL (pa:PlainAttrs T) (slot:Slot T name id) (hty:typeOf (.builtin id)=pure (.type "method_descriptor")) (hm:MtR X id r) (ho:PE X o to) (ha:PA X (e::es) t)
  (hbase:attributeBase o name X.env (eval o X.env)=eval o X.env:=by rfl)
  (hfew:((backTo cpos (starEach (e::es) X.env)).all (fun x=>!x.1) && (backToKw cpos (keywordEach [] X.env)).all (fun x=>x.1.isSome)
   && decide ((e::es).length+([]:List Keyword).length+(if ([]:List Keyword).isEmpty then 0 else 1) < 30))=true:=by rfl)
  (hline:(apos.endLine == cpos.line)=true:=by rfl) (hs:starEach (e::es) X.env=(false,eval e X.env)::starEach es X.env:=by rfl) (hplain:(backTo cpos (starEach es X.env)).any (·.1)=false:=by rfl) :
  PE X (.Call (.Attribute o name apos) (e::es) [] cpos) (tBM X.K T r to t):=by
 intro pins s σ H Q I h
 refine wpAny_Call_method_late hbase hfew hline rfl (eY (ho pins s σ H _ I h) fun v s1 ⟨x,H1,I1,r1,ty,q1⟩=>?_)
 obtain ⟨h1,h2⟩:=Lx I1 r1 ty
 refine ⟨T,id,pa,slot,hty,h1,h2,?_⟩
 have hA:=ha cpos pins s1 σ H1 _ I1 q1
 rw [hs] at hA ⊢
 refine Calls.callWith_builtin (by show (false || (backTo cpos (starEach es X.env)).any (·.1))=false;rw [hplain] <;> rfl) (Calls.evalArgs_plain ?_)
 exact eY hA fun us s2 ⟨vs,H2,I2,r2,q2⟩=>hm pins s2 σ H2 x vs v us Q I2 r1 r2 q2
end
end L2
namespace L2
open PySem PySem.Spec PyProof.Rows
def MtM (X:Cx) (id:String) (r:V→List V→Hp→VK→Prop):Prop :=
 ∀ (pins:List (Addr×Obj)) (s:Shared) (σ:St) (H:Hp) (x:V) (xs:List V) (v:Value) (us:List Value) (Q:VK),Inv X pins σ H s→RelV x v→Vals xs us→r x xs H Q →
  wpAny (model X.prog X.w) X.A (call (.builtin id) (v::us)) (EP X pins σ Q) X.xe s
theorem Vals.one:∀ {x:V} {us:List Value},Vals [x] us→∃ u,us=[u]∧RelV x u
 | _,_,.cons r .nil=>⟨_,rfl,r⟩
section
variable {X:Cx} {pins:List (Addr×Obj)} {σ:St} {H:Hp} {s:Shared} {l b:Addr} {xs ys zs:List V}
theorem Inv.Pj {its its':List Value} {n:Nat} {f:Array Value→Array Value} {t':Nat} (I:Inv X pins σ H s) (hH:H l=some (.lst xs))
  (e:s.heap.get? l=some { cls:=.type "list",data:=.seq its.toArray n }) (hf:f its.toArray=its'.toArray) (hv:Vals ys its') (hz:ys.length≤sizeLine) :
  Inv X pins σ (upd H l (.lst ys)) { s with heap:=s.heap.update l (Obj.mapSeq f),toks:=t' }:=by
 have q:=PySem.IsL.update e f
 rw [hf] at q
 refine I.write (x:=l) (e:=l) (by rw [hH];exact trivial) (.inl rfl) (fun b' u hb hu=>(Heap.get?_update_other s.heap (Obj.mapSeq f) (Ne.symm hb)).trans hu) ⟨_,q⟩ ?_
 exact ⟨hz,its',_,hv,q⟩
theorem Inv.XN {its:List Value} {t':Nat} (I:Inv X pins σ H s) (hv:Vals ys its) (hz:ys.length≤sizeLine) :
  Inv X pins σ (upd H s.heap.objs.size (.lst ys)) { s with heap:=s.heap.push { cls:=.type "list",data:=.seq its.toArray },toks:=t' } :=
 I.laid (fun _ _ q=>Heap.get?_push_of_some _ q) (Nat.le_refl _) ⟨hz,its,0,hv,Heap.get?_push_size _ rfl⟩
theorem Inv.fresh (I:Inv X pins σ H s):H s.heap.objs.size=none:=I.hok.fresh (Nat.le_refl _)
theorem Inv.GL (I:Inv X pins σ H s) (hH:H l=some (.lst xs)):xs.length≤sizeLine∧∃ (its:List Value) (n:Nat),Vals xs its∧xs.length=its.length∧s.heap.get? l=some { cls:=.type "list",data:=.seq its.toArray n }:=by
 obtain ⟨z,its,n,r,e⟩:=I.hok l _ hH
 exact ⟨z,its,n,r,r.length,e⟩
theorem GC {n:Nat} (h:n≤sizeLine):Builtin.List.listTooLong n=false:=by
 unfold Builtin.List.listTooLong
 exact decide_eq_false (by omega)
end
section
variable {X:Cx}
def JA:V→List V→Hp→VK→Prop:=fun x vs H Q=>∃ l xs y,x=.ref l∧vs=[y]∧H l=some (.lst xs)∧xs.length < sizeLine∧Q .gc (upd H l (.lst (xs++[y])))
theorem fY:MtM X "list.append" JA:=by
 intro pins s σ H x vs v us Q I rx rv h
 obtain ⟨l,xs,y,rfl,rfl,hH,hz,q⟩:=h
 cases rx
 obtain ⟨u,rfl,ru⟩:=rv.one
 obtain ⟨z,its,n,r,hl,e⟩:=I.GL hH
 refine call_meets F.slot_list_append ⟨_,e,rfl⟩ F.entry_list_append (F.args_list_append_2 _ _) (PySem.list_append l its.toArray n u (by rw [List.size_toArray];omega)) ⟨e,?_⟩
 refine ⟨.gc,_,I.Pj (its':=its++[u]) hH e (by simp) (r.append (.cons ru .nil)) ?_,rfl,q⟩
 rw [List.length_append,List.length_singleton]
 omega
def Jy:V→List V→Hp→VK→Prop:=fun x vs H Q=>∃ l b xs zs,x=.ref l∧vs=[.ref b]∧H l=some (.lst xs)∧H b=some (.lst zs)∧xs.length+zs.length≤sizeLine∧Q .gc (upd H l (.lst (xs++zs)))
theorem DI:MtM X "list.extend" Jy:=by
 intro pins s σ H x vs v us Q I rx rv h
 obtain ⟨l,b,xs,zs,rfl,rfl,hH,hB,hz,q⟩:=h
 cases rx
 obtain ⟨u,rfl,ru⟩:=rv.one
 cases ru
 obtain ⟨z,its,n,r,hl,e⟩:=I.GL hH
 obtain ⟨z2,its2,n2,r2,hl2,e2⟩:=I.GL hB
 have hsz:its.toArray.size+its2.toArray.size≤sizeLine:=by rw [List.size_toArray,List.size_toArray];omega
 have P4:¬ (!its.toArray.isEmpty && Builtin.List.listTooLong (its.toArray.size+its2.toArray.size))=true:=by
  rw [GC hsz,Bool.and_false]
  exact Bool.false_ne_true
 refine call_meets F.slot_list_extend ⟨_,e,rfl⟩ F.entry_list_extend (F.args_list_extend_2 _ _)
  (AutoSeq1.list_extend_list_list_0 l its.toArray n b its2.toArray n2 P4 (by rw [List.size_toArray];omega) (by omega)) ⟨e,e2,?_⟩
 refine ⟨.gc,_,I.Pj (its':=its++its2) hH e (by simp) (r.append r2) ?_,rfl,q⟩
 rw [List.length_append]
 omega
def VH:R2:=fun x y H Q=>∃ l b xs zs,x=.ref l∧y=.ref b∧H l=some (.lst xs)∧H b=some (.lst zs)∧xs.length+zs.length≤sizeLine∧∀ p,H p=none→Q (.ref p) (upd H p (.lst (xs++zs)))
theorem fz:mJ X (binaryOp .Add) VH:=by
 intro pins s σ H x y v u Q I rx ry h
 obtain ⟨l,b,xs,zs,rfl,rfl,hH,hB,hz,q⟩:=h
 cases rx
 cases ry
 obtain ⟨z,its,n,r,hl,e⟩:=I.GL hH
 obtain ⟨z2,its2,n2,r2,hl2,e2⟩:=I.GL hB
 refine PySem.P.add_list e e2 ?_ (by rw [List.size_toArray,List.size_toArray];omega)
 have ea:its.toArray++its2.toArray=(its++its2).toArray:=by simp
 rw [ea]
 exact ⟨.ref _,_,I.XN (t':=s.toks) (r.append r2) (by rw [List.length_append];omega),rfl,q _ I.fresh⟩
end
section
variable {prog:Program} {w:World} {A:Around} {E:Value→Shared→Prop} {s:Shared}
end
section
variable {X:Cx}
end
end L2
namespace Att
open PySem PySem.W PySem.Calls PyProof.Rows
theorem qT {P:Params} {h:Heap}:∀ (ns:List Int) (vs:List Value),WellAll P h vs (ns.map WData.int)→IntsAre vs ns:=by
 intro ns
 induction ns with
 | nil =>
  intro vs w
  rw [List.map_nil] at w
  cases w
  exact .nil
 | cons n ns ih =>
  intro vs w
  rw [List.map_cons] at w
  cases w with
  | cons a b =>
   cases a
   exact .cons _ _ (ih _ b)
theorem Dq {l:OpenLaw} {n:Nat} (hn:l.most=some n) {P:Params} {h:Heap} {args:List WData} {vals:List Value}
  (hpre:l.row.toRowW.claim.pre args=true) (hwl:WellAll P h vals args) :
  ∃ a vs ns,vals=[Value.ref a]∧args=[WData.list (ns.map WData.int)]∧h.get? a=some { cls:=.type "list",data:=.seq vs.toArray }∧IntsAre vs ns∧ns.length≤n:=by
 have hsh:WShape.hasAll [] args [.list .int]=true:=(pre_splitW hpre).1
 have hc:l.pre.holds [] { args:=args }=true:=(pre_splitW hpre).2
 obtain ⟨d,r,rfl,h1,h2⟩:=hasAllW_cons hsh
 obtain rfl:=hasAllW_nil h2
 obtain ⟨xs,rfl,h3⟩:=hasW_list h1
 obtain ⟨ns,rfl⟩:=items_int h3
 have hlen:ns.length≤n:=by
  unfold OpenLaw.pre at hc
  have h4:(WTm.not (.lt (.lit (.int (n:Int))) (.len (.arg 0)))).holds [] { args:=[.list (ns.map .int)] }=true:=by
   have h4:=(holds_andW hc).1
   rw [hn] at h4
   exact h4
  have h5:=condW_of h4 (w_not (w_lt w_lit (w_len_list (w_arg rfl))))
  rw [List.length_map] at h5
  refine Nat.le_of_not_lt fun q=>?_
  have q':(n:Int) < ((ns.length:Nat):Int):=by omega
  first
   | (rw [decide_eq_true q'] at h5;exact absurd h5 (by decide))
   | (simp at h5;omega)
 cases hwl with
 | cons w1 w2 =>
  cases w2
  cases w1 with
  | list ho hall=>exact ⟨_,_,ns,rfl,rfl,ho,qT ns _ hall,hlen⟩
theorem Du (l:OpenLaw) (args:List WData):l.row.toRowW.claim.post args (.bool true) args=true :=
 postW_of (r:=l.row.toRowW) (X:=(true == true))
  (show WShape.has [] (.bool true) .bool=true by first | rfl | decide | simp [WShape.has,WShape.arms,WShape.armsAll])
  (show (WTm.eq .res (.lit (.bool true))).value [] { args:=args,res:=some (.bool true),after:=args }=some (.bool (true == true)) from w_eq_bool (w_res rfl) w_lit) rfl
theorem Ah {l:OpenLaw} {n:Nat} {q:Program} {loose:List Str} {XP:(Str→Option Value)→Heap→Prop} {YP:World→Heap→Prop} {d:DefRec}
  (hn:l.most=some n) (hdf:d.params.defaults=[])
  (call:∀ (w:World) (s₀ s₁:Shared) (mg mb:Str→Option Value) (fa:Addr) (o:Obj) (pm cd doc:Value) (a:Addr) (vs:List Value) (ns:List Int),
   Ground q loose [] XP w s₀ mg mb s₁.heap→YP w s₁.heap →
   s₁.heap.get? fa=some o→o.data=.func (docDef d.name d.params d.body d.scope pm cd doc)→s₁.heap.CodeRec cd d.name→mg d.name=some (.ref fa) →
   s₁.heap.get? a=some { cls:=.type "list",data:=.seq vs.toArray }→IntsAre vs ns→ns.length≤n→s₁.gens=#[] →
   codeAny (model l.prog w) callerA (.call (.ref fa) ⟨[.ref a],[]⟩) (fun r s'=>r=.ok (.ret (.bool true))∧OldK s₁.heap s'.heap∧s'.os=s₁.os∧AllBare s'.gens) s₁) :
  WalkO q loose XP YP l.row.toRowW d [] (fun f vs=>PySem.call f vs):=by
 intro w s₀ s₁ mg mb G Y fa o pm cd doc dV kV ho hd hcd hD hmg hg args vals as hpre hlay hrd hwl hlo
 obtain rfl:dV=.none:=Dflts.none hD hdf
 obtain rfl:kV=.none:=Dflts.noKw hD
 obtain ⟨a,vs,ns,rfl,rfl,hobj,hints,hlen⟩:=Dq hn hpre hwl
 refine enter_call (codeAny_mono (call w s₀ s₁ mg mb fa o pm cd doc a vs ns G Y ho (fd_plain hd) hcd hmg hobj hints hlen hg) fun r s' hq=>?_)
 obtain ⟨rfl,h2,h3,h4⟩:=hq
 exact ⟨.inl ⟨.bool true,.bool true,[],rfl,fun _=>rfl,.bool true,Du l _,fun _=>⟨List.Pairwise.nil,fun _ hm=>(nomatch hm)⟩⟩,h2,h3,h4⟩
section
variable {prog:Program} {w:World} {A:Around} {E:Value→Shared→Prop} {s:Shared} {K:Frag}
end
end Att
namespace L2
open PySem PySem.Spec PyProof.Rows
theorem vI:∀ {vs:List Value} {ns:List Int},IntsAre vs ns→Vals (ns.map V.int) vs
 | _,_,.nil=>.nil
 | _,_,.cons n t h=>.cons ⟨t,rfl⟩ (vI h)
def Nt (H:Hp):Prop:=∀ b,H b=none∨∃ o xs,H b=some (.zQ o (.lst xs))
theorem GU {P:Program} {w:World} {K:PySem.W.Frag} {mg mb:Str→Option Value} {CX:Fd} {k:Nat} {fa a:Addr} {fd:FuncData} {x:Str} {sp:Sp} {s₁:Shared} {vs:List Value} {ns:List Int}
  (KX:K.In s₁.heap) (hns:s₁.heap.Ns mainGlobals mg) (hb:s₁.heap.Ns builtinsNs mb) (hbb:∀ x:Str,x≠"__name__"→mb x=bootBuiltins x) (hlim:s₁.heap.NoLimit) (hg:s₁.gens=#[])
  (ha:s₁.heap.get? a=some { cls:=.type "list",data:=.seq vs.toArray }) (hi:IntsAre vs ns) (hl:ns.length≤sizeLine) (hr:iL k callerA)
  (F:∀ base:Heap,K.In base→base.Ns mainGlobals mg→cL P w K mg base CX k fa fd [x] sp) (hbind:∀ (s:Shared) (u:Value),BindsTo s fd ⟨[u],[]⟩ [(x,u)])
  (pG:∀ H:Hp,Nt H→bz K H a (ns.map V.int)→sp [.ref a] H (fun v _=>v=.bl true) fun _ _ _=>False)
  (Zx:∀ H e s',CX [] H s₁ (fun _ _ _=>False) e s'→False) :
  codeAny (model P w) callerA (.call (.ref fa) ⟨[.ref a],[]⟩) (fun r s'=>r=.ok (.ret (.bool true))∧OldK s₁.heap s'.heap∧s'.os=s₁.os∧AllBare s'.gens) s₁:=by
 have rv:=vI hi
 have lP:=hi.length
 have core:∀ H:Hp,Nt H→bz K H a (ns.map V.int)→nQ P w H s₁.heap→(∀ b,H b≠none→b=a)→(H a≠none→K.lookup a=none) →
   codeAny (model P w) callerA (.call (.ref fa) ⟨[.ref a],[]⟩) (fun r s'=>r=.ok (.ret (.bool true))∧OldK s₁.heap s'.heap∧s'.os=s₁.os∧AllBare s'.gens) s₁:=by
  intro H hO hS hok hA hK
  have Di:∀ {b:Addr} {o:Obj},s₁.heap.get? b=some o→H b=none→(x9 s₁.heap H).get? b=some o:=fun e n=>G7 e n
  have Pd:∀ {b:Addr} {o:Obj} {es:Array DictEntry} {ep:Nat},s₁.heap.get? b=some o→o.data=.dict es ep→H b=none:=fun {b o es ep} e d=>by
   cases q:H b with
   | none=>rfl
   | some u =>
    have e':b=a:=hA b (by rw [q];simp)
    subst e'
    rw [ha] at e;cases e
    have d':Data.seq vs.toArray _=Data.dict es ep:=d
    cases d'
  have Sj:∀ {b:Addr} {m:Str→Option Value},s₁.heap.Ns b m→(x9 s₁.heap H).Ns b m:=fun {b m} ⟨o,es,ep,e,d,r⟩=>⟨o,es,ep,Di e (Pd e d),d,r⟩
  have hKb:K.In (x9 s₁.heap H):=fun b o e=>Di (KX b o e) (by
   cases q:H b with
   | none=>rfl
   | some u =>
    have e':b=a:=hA b (by rw [q];simp)
    subst e'
    rw [hK (by rw [q];simp)] at e;cases e)
  have hM:Mod K mg (x9 s₁.heap H):=⟨hKb,Sj hns,⟨mb,Sj hb,hbb⟩,let ⟨mc,h1,h2⟩:=hlim;⟨mc,Sj h1,h2⟩⟩
  have e0:BV P w K mg (x9 s₁.heap H) callerA [] s₁ H:=⟨rfl,hM,fun b o e=>JR e,Nat.le_of_eq (DU _ _),trivial,fun b hb=>absurd (show b∈([]:List Addr) from hb) (by simp),hok,.of_eq hg⟩
  refine codeAny_mono ((F _ hKb (Sj hns)).run callerA [] s₁ H ⟨[.ref a],[]⟩ [.ref a] [.ref a] _ _ hr e0 (hbind s₁ (.ref a)) (.cons rfl .nil) (pG H hO hS)) fun r s' h=>?_
  cases r with
  | error e=>exact (Zx H e s' h).elim
  | ok fl =>
   cases fl with
   | next=>exact False.elim h
   | brk=>exact False.elim h
   | cont=>exact False.elim h
   | ret u =>
    obtain ⟨v,H',os,bare,un,Zh,r',q⟩:=h
    have q':v=.bl true:=q
    subst q'
    obtain rfl:u=Value.bool true:=r'
    refine ⟨rfl,OldK.of_keep fun b o e=>?_,os,bare⟩
    cases q:H b with
    | none=>exact un.keep b o e q (by intro z;exact absurd (show b∈([]:List Addr) from z) (by simp)) (by simp)
    | some u =>
     rcases hO b with z | ⟨ob,xs,z⟩
     ·rw [q] at z;cases z
     ·have z2:=un.vj b ob _ z
      obtain ⟨e1,_⟩:=hok b _ z
      obtain ⟨e2,_⟩:=Zh b _ z2
      rw [e] at e1;cases e1
      exact e2
 cases hk:K.lookup a with
 | some o =>
  have e:=KX a o hk
  rw [ha] at e
  cases e
  refine core (fun _=>none) (fun _=>.inl rfl) (.inr ⟨_,vs.toArray,_,hk,rfl,rfl,rfl,by rw [List.size_toArray,lP];exact hl,by simpa using rv⟩) (fun b u z=>by have z':(none:Option HO)=some u:=z;cases z') (fun b z=>absurd rfl z) fun z=>absurd rfl z
 | none =>
  refine core (fun b=>if b=a then some (.zQ { cls:=.type "list",data:=.seq vs.toArray } (.lst (ns.map V.int))) else none) (fun b=>?_) (.inl (.inr ⟨{ cls:=.type "list",data:=.seq vs.toArray },if_pos rfl⟩)) (fun b u z=>?_) (fun b z=>?_) fun _=>hk
  ·by_cases hb:b=a
   ·exact .inr ⟨_,_,if_pos hb⟩
   ·exact .inl (if_neg hb)
  ·by_cases hb:b=a
   ·have z':=(if_pos hb).symm.trans z
    cases z'
    subst hb
    exact ⟨ha,by rw [List.length_map];exact hl,vs,_,rv,ha⟩
   ·have z':=(if_neg hb).symm.trans z
    cases z'
  ·by_cases hb:b=a
   ·exact hb
   ·exact absurd (if_neg hb) z
end L2
namespace L2
open PySem PySem.Spec PyProof.Rows
theorem Jj {l:PySem.W.OpenLaw} {n k:Nat} {q:Program} {loose:List Str} {XP:(Str→Option Value)→Heap→Prop} {YP:World→Heap→Prop} {d:DefRec} {K:Params→PySem.W.Frag} {CX:World→Fd} {sp:World→Sp} {x:Str}
  (hn:l.most=some n) (hn2:n≤sizeLine) (hdf:d.params.defaults=[]) (hr:iL k callerA)
  (hY:∀ (w:World) (h:Heap),YP w h→(K w.params).In h)
  (F:∀ (w:World) (mg:Str→Option Value) (fa:Addr) (h:Heap),(K w.params).In h→h.Ns mainGlobals mg→mg d.name=some (.ref fa) →
   ∃ fd:FuncData,(∀ (s:Shared) (u:Value),BindsTo s fd ⟨[u],[]⟩ [(x,u)]) ∧
    ∀ base:Heap,(K w.params).In base→base.Ns mainGlobals mg→cL l.prog w (K w.params) mg base (CX w) k fa fd [x] (sp w))
  (pG:∀ (w:World) (H:Hp) (a:Addr) (ns:List Int),ns.length≤n→Nt H→bz (K w.params) H a (ns.map V.int)→sp w [.ref a] H (fun v _=>v=.bl true) fun _ _ _=>False)
  (Zx:∀ (w:World) (H:Hp) (s:Shared) (e:Value) (s':Shared),CX w [] H s (fun _ _ _=>False) e s'→False) :
  PySem.W.WalkO q loose XP YP l.row.toRowW d [] (fun f vs=>PySem.call f vs):=by
 refine Att.Ah hn hdf fun w s₀ s₁ mg mb fa o pm cd doc a vs ns G Y ho hd hcd hmg hobj hints hlen hg=>?_
 have KX:=hY w _ Y
 obtain ⟨fd,hb,hF⟩:=F w mg fa _ KX G.T.g hmg
 exact GU KX G.T.g G.T.b G.T.builtins G.T.nolimit hg hobj hints (Nat.le_trans hlen hn2) hr hF hb (fun H hO hS=>pG w H a ns hlen hO hS) fun H e s'=>Zx w H s₁ e s'
end L2
namespace L2
open PySem PySem.Spec PyProof.Rows
def inClass (s:Stmt) (j:Nat):Stmt:=match s with
 | .ClassDef _ _ _ body _ _ _ _ _ _ _=>body.getD j (.Pass ⟨0,0,0,0⟩)
 | _=>.Pass ⟨0,0,0,0⟩
def aV (s:Stmt):Arguments:=match s with
 | .FunctionDef _ a _ _ _ _ _ _ _ _=>a
 | _=>{ posonlyargs:=[],args:=[],vararg:=none,kwonlyargs:=[],kw_defaults:=[],kwarg:=none,defaults:=[] }
def az (s:Stmt):List Stmt:=match s with
 | .FunctionDef _ _ b _ _ _ _ _ _ _=>b
 | _=>[]
def au (s:Stmt):Scope:=match s with
 | .FunctionDef _ _ _ _ _ _ sc _ _ _=>sc
 | _=>{ kind:=.function,names:=[],isGenerator:=false,isCoroutine:=false }
abbrev iB:Fd:=fun _ _ _ _ _ _=>False
abbrev E0:XK:=fun _ _ _=>False
theorem aB {X:Cx}:Passes iB X E0:=fun _ _ _ _ _ _ _ h=>h.elim
structure iU (K:PySem.W.Frag) (x qual:Str) (st:Stmt) (f:Addr) (fd:FuncData):Prop where
 ex:∃ (oc:Value) (od:Option Addr) (kV doc pm:Value) (an:Option Addr) (cdv ct:Value) (osl:Array (Option Value)),
  fd=PySem.W.fnOf x qual (aV st) (az st) (au st) .none kV doc pm an cdv ct∧K.lookup f=some ⟨oc,od,.func fd,osl⟩∧PySem.W.codeIn K cdv qual=true
 kp:PySem.W.keepIn K (.ref f)=true
section
variable {P:Program} {w:World} {K:PySem.W.Frag} {mg:Str→Option Value} {base:Heap}
theorem iU.ok {x qual:Str} {st:Stmt} {f:Addr} {fd:FuncData} {N ps:List Str} {k:Nat} {sp:Sp} (F:iU K x qual st f fd) (S:aW N ps (au st)) (len:∀ vs H Q E,sp vs H Q E→vs.length=ps.length)
  (hbody:∀ (cdv:Value) (A:Around) (outer:List Env) (s:Shared) (H:Hp) (vs:List V) (Q:VK) (E:XK),iL k (A.deeper (envOfC qual (au st) s.heap.objs.size f cdv))→sp vs H Q E →
   ∃ t,rR (Et iB P w K mg base N qual (au st) f cdv A outer s H E).Sk (az st) t∧t { nx:=fun _ H'=>Q .gc H',rt:=Q } (start N vs) H):cL P w K mg base iB (k+1) f fd ps sp:=by
 obtain ⟨oc,od,kV,doc,pm,an,cdv,ct,osl,rfl,lk,hcd⟩:=F.ex
 refine Qe lk hcd S len fun A outer s H vs Q E hr pG=>?_
 obtain ⟨t,h,q⟩:=hbody cdv A outer s H vs Q E hr pG
 exact ⟨t,h.Sk,q⟩
theorem iU.binds {x qual:Str} {st:Stmt} {f:Addr} {fd:FuncData} {ps:List Str} (F:iU K x qual st f fd)
  (h:∀ (kV doc pm:Value) (an:Option Addr) (cdv ct:Value) (us:List Value),us.length=ps.length→bindArgs (PySem.W.fnOf x qual (aV st) (az st) (au st) .none kV doc pm an cdv ct) ⟨us,[]⟩=pure (ps.zip us)):Binds K fd ps []:=by
 obtain ⟨oc,od,kV,doc,pm,an,cdv,ct,osl,rfl,lk,hcd⟩:=F.ex
 exact .all (h kV doc pm an cdv ct)
theorem bS {x qual:Str} {st:Stmt} {f:Addr} {oc:Value} {od an:Option Addr} {osl:Array (Option Value)} {kV doc pm cdv ct:Value} (l:K.lookup f=some ⟨oc,od,.func (PySem.W.fnOf x qual (aV st) (az st) (au st) .none kV doc pm an cdv ct),osl⟩)
  (c:PySem.W.codeIn K cdv qual=true) (k:PySem.W.keepIn K (.ref f)=true):iU K x qual st f (PySem.W.fnOf x qual (aV st) (az st) (au st) .none kV doc pm an cdv ct):=⟨⟨oc,od,kV,doc,pm,an,cdv,ct,osl,rfl,l,c⟩,k⟩
end
theorem cH {A:Around} {k:Nat} (hr:iL k A):A.units+1 < cLine:=Nat.lt_of_le_of_lt (Nat.add_le_add_left (by decide:1≤64) _) hr.units
section
variable {X:Cx}
theorem pv (i:Nat) {x:Str} {pos:Pos} (hN:X.N[i]?=some x:=by rfl) (hv:Vis X.env.scope x:=by first | exact Or.inl rfl | exact Or.inr (Or.inl rfl) | exact Or.inr (Or.inr rfl)) (hd:(x == ("__debug__":Str))=false:=by decide)
  (hcd:(x == ("__classdict__":Str))=false:=by decide):PE X (.Name x pos) (Om i):=LW hN hv hd hcd
end
theorem dO {A B:Prop} (h:B):if false=true then A else B:=by
 rw [if_neg Bool.false_ne_true]
 exact h
theorem cT {A B:Prop} (h:A):if true=true then A else B:=by
 rw [if_pos rfl]
 exact h
theorem J3 {c A B:Prop} [Decidable c] (h1:c→A) (h2:¬ c→B):if c then A else B:=by
 by_cases h:c
 ·rw [if_pos h]
  exact h1 h
 ·rw [if_neg h]
  exact h2 h
def aP (H H':Hp):Prop:=∀ b o,H b=some o→H' b=some o
theorem aP.refl (H:Hp):aP H H:=fun _ _ h=>h
theorem aP.trans {H H1 H2:Hp} (a:aP H H1) (b:aP H1 H2):aP H H2:=fun c o h=>b c o (a c o h)
theorem aP.free {H H':Hp} (e:aP H H') {l:Addr} (h:H' l=Option.none):H l=Option.none:=by
 cases q:H l with
 | none=>rfl
 | some o =>
  rw [e l o q] at h
  cases h
end L2
namespace L2
open PySem PySem.Spec PyProof.Rows
section
variable {κ:Type} [DecidableEq κ]
def mU (kvs:List (κ×V)) (k:κ):Option V:=(kvs.find? fun kv=>decide (kv.1=k)).map (·.2)
def putK (kvs:List (κ×V)) (k:κ) (v:V):List (κ×V) :=
 if (kvs.any fun kv=>decide (kv.1=k))=true then kvs.map (fun kv=>if kv.1=k then (kv.1,v) else kv) else kvs++[(k,v)]
theorem nS {p:κ×V} {r:List (κ×V)} {k:κ} (e:p.1=k):mU (p::r) k=some p.2:=by simp [mU,List.find?_cons,e]
theorem nU {p:κ×V} {r:List (κ×V)} {k:κ} (e:¬ p.1=k):mU (p::r) k=mU r k:=by simp [mU,List.find?_cons,e]
theorem yS (k:κ):∀ kvs:List (κ×V),(kvs.any fun kv=>decide (kv.1=k))=(mU kvs k).isSome
 | []=>rfl
 | p::r=>by
  rw [List.any_cons]
  by_cases e:p.1=k
  ·simp only [nS e,decide_eq_true e,Bool.true_or,Option.isSome_some]
  ·rw [nU e,decide_eq_false e,Bool.false_or];exact yS k r
theorem qI (kvs:List (κ×V)) (k:κ) (v:V):(putK kvs k v).length≤kvs.length+1:=by
 unfold putK
 split
 ·rw [List.length_map];omega
 ·rw [List.length_append,List.length_cons,List.length_nil];omega
theorem kX.DR {o:Option V} {u:Option Value} (r:kX o u):o.isSome=u.isSome:=by
 cases o with
 | none=>cases u with
  | none=>rfl
  | some _=>exact (show False from r).elim
 | some _=>cases u with
  | none=>exact (show False from r).elim
  | some _=>rfl
theorem kX.getD {o:Option V} {u:Option Value} {d:V} {d':Value} (r:kX o u) (rd:RelV d d'):RelV (o.getD d) (u.getD d'):=by
 cases o with
 | none=>cases u with
  | none=>exact rd
  | some _=>exact (show False from r).elim
 | some _=>cases u with
  | none=>exact (show False from r).elim
  | some _=>exact r
theorem KV.val {kvs:List (κ×V)} {vs:List (κ×Value)} (r:KV kvs vs) (k:κ):kX (mU kvs k) (valueAt vs k):=by
 unfold KV at r
 induction r with
 | nil=>exact True.intro
 | @cons p q ps qs h t ih =>
  obtain ⟨h1,h2⟩:=h
  by_cases e:p.1=k
  ·have e':q.1=k:=h1.symm.trans e
   have b:valueAt (q::qs) k=some q.2:=by simp [valueAt,List.find?_cons,e']
   rw [nS e,b];exact h2
  ·have e':¬ q.1=k:=fun z=>e (h1.trans z)
   have b:valueAt (q::qs) k=valueAt qs k:=by simp [valueAt,List.find?_cons,e']
   rw [nU e,b];exact ih
theorem KV.any {kvs:List (κ×V)} {vs:List (κ×Value)} (r:KV kvs vs) (k:κ):(kvs.any fun kv=>decide (kv.1=k))=vs.any fun kv=>decide (kv.1=k):=by
 unfold KV at r
 induction r with
 | nil=>rfl
 | cons h t ih=>rw [List.any_cons,List.any_cons,ih,h.1]
theorem KV.repl {kvs:List (κ×V)} {vs:List (κ×Value)} (r:KV kvs vs) (k:κ) {y:V} {u:Value} (ry:RelV y u) :
  KV (kvs.map fun kv=>if kv.1=k then (kv.1,y) else kv) (vs.map fun kv=>if kv.1=k then (kv.1,u) else kv):=by
 unfold KV at r ⊢
 induction r with
 | nil=>exact .nil
 | @cons p q ps qs h t ih =>
  rw [List.map_cons,List.map_cons]
  refine .cons ?_ ih
  obtain ⟨h1,h2⟩:=h
  by_cases e:p.1=k
  ·rw [if_pos e,if_pos (h1.symm.trans e)];exact ⟨h1,ry⟩
  ·rw [if_neg e,if_neg (fun z=>e (h1.trans z))];exact ⟨h1,h2⟩
theorem KV.put {kvs:List (κ×V)} {vs:List (κ×Value)} (r:KV kvs vs) (k:κ) {y:V} {u:Value} (ry:RelV y u):KV (putK kvs k y) (stored vs k u):=by
 unfold putK stored
 rw [r.any k]
 by_cases e:(vs.any fun kv=>decide (kv.1=k))=true
 ·rw [if_pos e,if_pos e];exact r.repl k ry
 ·rw [if_neg e,if_neg e];exact Paired.snoc r ⟨rfl,ry⟩
theorem KV.keys {kvs:List (κ×V)} {vs:List (κ×Value)} (r:KV kvs vs):kvs.map (·.1)=vs.map (·.1):=by
 unfold KV at r
 induction r with
 | nil=>rfl
 | cons h t ih=>rw [List.map_cons,List.map_cons,ih,h.1]
theorem KV.length {kvs:List (κ×V)} {vs:List (κ×Value)} (r:KV kvs vs):kvs.length=vs.length:=Paired.length r
end
theorem CI {P:Program} {w:World} {k:Key} {u:Value} (r:RelV (kV k) u):(bY P w).is k u=true:=by
 cases k with
 | inl i=>obtain ⟨t,e⟩:=(show ∃ t,u=Value.int i t from r);subst e;exact zz P w i t
 | inr x=>obtain ⟨t,e⟩:=(show ∃ t,u=Value.str x t from r);subst e;exact iI P w x t
theorem wc {P:Program} {w:World}:∀ {ks:List Key} {us:List Value},Vals (ks.map kV) us→ItemsAre (bY P w) ks us
 | [],_,r=>by rw [List.map_nil] at r;cases r;exact .nil
 | k::ks,_,r=>by
  rw [List.map_cons] at r
  cases r with
  | cons h t=>exact .cons (CI h) (wc t)
abbrev KT (H:Hp):List (List Key×V)→List (List Key×Addr×Value)→Prop:=Paired fun p q=>p.1=q.1∧H q.2.1=some (.tup (p.1.map kV))∧RelV p.2 q.2.2
theorem KT.val {H:Hp} {kvs:List (List Key×V)} {xs:List (List Key×Addr×Value)} (r:KT H kvs xs) (k:List Key):kX (mU kvs k) ((atKey xs k).map (·.2)):=by
 induction r with
 | nil=>exact True.intro
 | @cons p q ps qs h t ih =>
  obtain ⟨h1,_,h2⟩:=h
  by_cases e:p.1=k
  ·have e':q.1=k:=h1.symm.trans e
   have b:atKey (q::qs) k=some q.2:=by simp [atKey,List.find?_cons,e']
   rw [nS e,b];exact h2
  ·have e':¬ q.1=k:=fun z=>e (h1.trans z)
   have b:atKey (q::qs) k=atKey qs k:=by simp [atKey,List.find?_cons,e']
   rw [nU e,b];exact ih
theorem KT.repl {H:Hp} {kvs:List (List Key×V)} {xs:List (List Key×Addr×Value)} (r:KT H kvs xs) (k:List Key) {y:V} {u:Value} (ry:RelV y u) :
  KT H (kvs.map fun kv=>if kv.1=k then (kv.1,y) else kv) (xs.map (putAt k u)):=by
 induction r with
 | nil=>exact .nil
 | @cons p q ps qs h t ih =>
  rw [List.map_cons,List.map_cons]
  refine .cons ?_ ih
  obtain ⟨h1,h2,h3⟩:=h
  unfold putAt
  by_cases e:p.1=k
  ·rw [if_pos e,if_pos (h1.symm.trans e)];exact ⟨h1,h2,ry⟩
  ·rw [if_neg e,if_neg (fun z=>e (h1.trans z))];exact ⟨h1,h2,h3⟩
theorem KT.put {H:Hp} {kvs:List (List Key×V)} {xs:List (List Key×Addr×Value)} (r:KT H kvs xs) (k:List Key) {b:Addr} {y:V} {u:Value} (hb:H b=some (.tup (k.map kV))) (ry:RelV y u) :
  KT H (putK kvs k y) (storedH xs k b u):=by
 have e:(kvs.any fun kv=>decide (kv.1=k))=(atKey xs k).isSome:=by
  rw [yS,(r.val k).DR,Option.isSome_map]
 unfold putK storedH
 rw [e]
 by_cases q:(atKey xs k).isSome=true
 ·rw [if_pos q,if_pos q];exact r.repl k ry
 ·rw [if_neg q,if_neg q];exact Paired.snoc r ⟨rfl,hb,ry⟩
theorem KT.keeps {H H':Hp} {kvs:List (List Key×V)} {xs:List (List Key×Addr×Value)} (r:KT H kvs xs) (ht:∀ b ys,H b=some (.tup ys)→H' b=some (.tup ys)):KT H' kvs xs :=
 Paired.dX r fun _ _ z=>⟨z.1,ht _ _ z.2.1,z.2.2⟩
section
variable {P:Program} {w:World} {H:Hp} {h:Heap} {a:Addr}
theorem K1 {u:HO} (ok:nQ P w H h) (e:Rd H a u):dh P w H h a u:=e.ok ok
theorem wo {kvs:List (Key×V)} (ok:nQ P w H h) (e:Rd H a (.dK kvs)):kvs.length≤sizeLine∧(a == sysModules)=false∧∃ vs,KV kvs vs∧h.DictOf (bY P w) a vs :=
 show dh P w H h a (.dK kvs) from K1 ok e
theorem QS {kvs:List (Key×V)} (ok:nQ P w H h) (e:H a=some (.dK kvs)):kvs.length≤sizeLine∧(a == sysModules)=false∧∃ vs,KV kvs vs∧h.DictOf (bY P w) a vs:=wo ok (.inl e)
theorem xX {ks:List Key} (ok:nQ P w H h) (e:H a=some (.tup (ks.map kV))):(tupleKind (bY P w)).is h ks a:=by
 obtain ⟨_,its,r,o,h1,h2,n,h3⟩:=(show dh P w H h a (.tup (ks.map kV)) from ok a _ e)
 exact ⟨o,its.toArray,n,h1,h2,h3,by simpa using wc r⟩
theorem zZ {kvs:List (List Key×V)} (ok:nQ P w H h) (e:Rd H a (.dT kvs)):kvs.length≤sizeLine∧(a == sysModules)=false ∧
  ∃ xs,KT H kvs xs∧h.DictOfH (tupleKind (bY P w)) a xs:=by
 obtain ⟨z,y,xs,r,o,es,ep,h1,h2,h3,h4,h5⟩:=(show dh P w H h a (.dT kvs) from K1 ok e)
 refine ⟨z,y,xs,r,o,es,ep,h1,h2,h3,h4,fun x hx=>?_,h5⟩
 have all:∀ {l:List (List Key×V)} {m:List (List Key×Addr×Value)},KT H l m→∀ x∈m,(tupleKind (bY P w)).is h x.1 x.2.1:=by
  intro l m q
  induction q with
  | nil=>intro x hx;exact nomatch hx
  | @cons p q ps qs hq t ih =>
   intro x hx
   rcases List.mem_cons.mp hx with e | hx
   ·subst e
    exact xX ok (by rw [← hq.1];exact hq.2.1)
   ·exact ih x hx
 exact all r x hx
theorem QN {kvs:List (List Key×V)} (ok:nQ P w H h) (e:H a=some (.dT kvs)):kvs.length≤sizeLine∧(a == sysModules)=false ∧
  ∃ xs,KT H kvs xs∧h.DictOfH (tupleKind (bY P w)) a xs:=zZ ok (.inl e)
end
def vE (H:Hp) (a:Addr) (y:V) (r:Option V):Prop :=
 (∃ kvs k,Rd H a (.dK kvs)∧y=kV k∧r=mU kvs k)∨∃ kvs k b,Rd H a (.dT kvs)∧y=.ref b∧H b=some (.tup (k.map kV))∧r=mU kvs k
def IT (H:Hp) (a:Addr) (y v:V) (H':Hp):Prop :=
 (∃ kvs k,H a=some (.dK kvs)∧y=kV k∧kvs.length < sizeLine∧H'=upd H a (.dK (putK kvs k v))) ∨
 ∃ kvs k b,H a=some (.dT kvs)∧y=.ref b∧H b=some (.tup (k.map kV))∧kvs.length < sizeLine∧H'=upd H a (.dT (putK kvs k v))
theorem vE.k {H:Hp} {a:Addr} {kvs:List (Key×V)} {k:Key} (e:H a=some (.dK kvs)):vE H a (kV k) (mU kvs k):=.inl ⟨kvs,k,.inl e,rfl,rfl⟩
theorem IT.k {H:Hp} {a:Addr} {kvs:List (Key×V)} {k:Key} {v:V} (e:H a=some (.dK kvs)) (hl:kvs.length < sizeLine):IT H a (kV k) v (upd H a (.dK (putK kvs k v))):=.inl ⟨kvs,k,e,rfl,hl,rfl⟩
section
variable {X:Cx} {pins:List (Addr×Obj)} {σ:St} {H:Hp} {s:Shared} {a:Addr} {y v:V} {u r:Value} {o:Option V} {A:Around} {E:Value→Shared→Prop}
theorem Inv.big (I:Inv X pins σ H s):sysModules < s.heap.objs.size:=by
 have h:mainGlobals < s.heap.objs.size:=(I.mod.glob.keeps I.bk).lt
 exact Nat.lt_trans (by decide) h
theorem Ep {Q:Value→Shared→Prop} (hu:A.units+1 < cLine) (I:Inv X pins σ H s) (g:vE H a y (some v)) (ry:RelV y u) (h:∀ w' s',Inv X pins σ H s'→RelV v w'→Q w' s') :
  wpAny (model X.prog X.w) A (getItem (.ref a) u) Q E s:=by
 rcases g with ⟨kvs,k,e,ey,l⟩ | ⟨kvs,k,b,e,ey,eb,l⟩
 ·subst ey
  obtain ⟨z,hd,vs,rel,dd⟩:=wo I.hok e
  obtain ⟨w',hw,rw'⟩:=kX.some_of (v:=v) (o:=valueAt vs k) (by rw [l];exact rel.val k)
  exact wpAny_getItem_of (CI ry) dd.mapOf hw (h w' _ (I.tok _) rw')
 ·subst ey
  cases (show u=Value.ref b from ry)
  obtain ⟨z,hd,xs,rel,dd⟩:=zZ I.hok e
  obtain ⟨w',hw,rw'⟩:=kX.some_of (v:=v) (o:=(atKey xs k).map (·.2)) (by rw [l];exact rel.val k)
  obtain ⟨p,hp,hp2⟩:=Option.map_eq_some_iff.mp hw
  refine wpAny_getItem_heap (tupleKind_room_in1 hu) (xX I.hok eb) dd hp ?_
  rw [hp2]
  exact h w' _ (I.tok _) rw'
theorem C9 {h':Heap} {t':Nat} {ob:HO} (I:Inv X pins σ H s) (mu:RN (H a)) (hs:Heap.SameBut a s.heap h') (he:∃ q,h'.get? a=some q) (new:dh X.prog X.w (upd H a ob) h' a ob) :
  Inv X pins σ (upd H a ob) { s with heap:=h',toks:=t' } :=
 I.write (x:=a) (e:=a) mu (.inl rfl) (fun b q hb z=>(hs.2 b hb).trans z) he new
theorem Nh {P:Program} {w:World} {H':Hp} {h':Heap} {kvs:List (Key×V)} {vs:List (Key×Value)} (z:kvs.length≤sizeLine) (hd:(a == sysModules)=false) (rel:KV kvs vs) (dd:h'.DictOf (bY P w) a vs) :
  dh P w H' h' a (.dK kvs):=⟨z,hd,vs,rel,dd⟩
theorem Eg {H':Hp} {Q:Unit→Shared→Prop} (hu:A.units+1 < cLine) (I:Inv X pins σ H s) (g:IT H a y v H') (ry:RelV y u) (rv:RelV v r) (h:∀ s',Inv X pins σ H' s'→Q () s') :
  wpAny (model X.prog X.w) A (setItem (.ref a) u r) Q E s:=by
 rcases g with ⟨kvs,k,e,ey,l,eH⟩ | ⟨kvs,k,b,e,ey,eb,l,eH⟩
 ·subst ey eH
  obtain ⟨z,hd,vs,rel,dd⟩:=QS I.hok e
  have hz:vs.length≤sizeLine:=by rw [← rel.length];exact z
  have hl:(putK kvs k v).length≤sizeLine:=by have:=qI kvs k v;omega
  refine wpAny_setItem_pairs (hsz:=hz) (CI ry) dd fun h' Us hs=>h _ ?_
  have he:∃ q,h'.get? a=some q:=let ⟨q,_,_,hq,_⟩:=Us;⟨q,hq⟩
  exact C9 I (by rw [e];exact True.intro) hs he (Nh hl hd (rel.put k rv) Us)
 ·subst ey eH
  cases (show u=Value.ref b from ry)
  obtain ⟨z,hd,xs,rel,dd⟩:=QN I.hok e
  have hz:xs.length≤sizeLine:=by rw [← Paired.length rel];exact z
  have hl:(putK kvs k v).length≤sizeLine:=by have:=qI kvs k v;omega
  refine wpAny_setItem_heap (hsz:=hz) (tupleKind_room_in1 hu) (xX I.hok eb) dd fun h' Us hs=>h _ ?_
  obtain ⟨q,es,ep,hq,h2,h3,h4,_,h5⟩:=Us
  refine C9 I (by rw [e];exact True.intro) hs ⟨q,hq⟩ ⟨hl,hd,_,(rel.put k eb rv).keeps fun c ys ec=>?_,q,es,ep,hq,h2,h3,h4,h5⟩
  rw [aL (vW ec e (fun z=>nomatch z))]
  exact ec
end
section
variable {X:Cx} {pins:List (Addr×Obj)} {σ:St} {H:Hp} {s:Shared} {a:Addr} {kvs:List (Key×V)} {k:Key} {u:Value} {A:Around} {E:Value→Shared→Prop}
end
def RM (i:Expr):Prop:=∀ ov iv,subscripted i false ov iv=operate [ov,iv] (getItem ov iv)
theorem Jr {prog:Program} {w:World} {A:Around} {E:Value→Shared→Prop} {s:Shared} {env:Env} {value slice:Expr} {pos:Pos} {T id:String} {Q:Value→Shared→Prop}
  (hl:typeLookup (.type T) "__getitem__"=pure (some (.builtin id))) (hs:RM slice)
  (h:wpAny (model prog w) A (eval value env) (fun o s₁=>wpAny (model prog w) A (eval slice env) (fun i s₂=>s₂.TypeIs o T∧wpAny (model prog w) A (getItem o i) Q E s₂) E s₁) E s) :
  wpAny (model prog w) A (eval (.Subscript value slice pos) env) Q E s:=by
 refine Subscript_ (wpAny_mono h (fun o s₁ h₁=>wpAny_mono h₁ (fun i s₂ h₂=>?_) fun _ _ x=>x) fun _ _ x=>x)
 obtain ⟨hT,h₂⟩:=h₂
 unfold subscriptTail
 refine wpAny_bind ?_
 rw [getitemInPython_of_ne hT.not_modules]
 refine wpAny_bind (wpAny_specialOf hT hl ?_)
 have fin:wpAny (model prog w) A (subscripted slice false o i) (fun r s₃=>wpAny (model prog w) A (letTemporaryGo value o r >>= fun _=>pure r) Q E s₃) E s₂:=by
  rw [hs o i]
  exact wpAny_operating (wpAny_mono h₂ (fun r s₃ h₃=>wpAny_bind (wpAny_letTemporaryGo (wpAny_pure h₃))) fun _ _ x=>x)
 first
  | exact wpAny_pure (wpAny_bind fin)
  | exact wpAny_bind (wpAny_pure (wpAny_bind fin))
  | exact wpAny_bind fin
theorem Aa {X:Cx} {pins:List (Addr×Obj)} {σ:St} {H:Hp} {s:Shared} {a:Addr} {y:V} {o:Option V} (I:Inv X pins σ H s) (g:vE H a y o):s.TypeIs (.ref a) "dict":=by
 rcases g with ⟨kvs,k,e,_,_⟩ | ⟨kvs,k,b,e,_,_,_⟩
 ·obtain ⟨_,_,vs,_,dd⟩:=wo I.hok e
  exact dd.typeIs
 ·obtain ⟨_,_,xs,_,dd⟩:=zZ I.hok e
  exact dd.typeIs
def OB (td ty:TE):TE:=fun σ H Q=>td σ H fun x H1=>ty σ H1 fun y H2=>∃ a v,x=.ref a∧vE H2 a y (some v)∧Q v H2
def ON (td ty tv:TE):TS:=fun D σ H=>tv σ H fun v H1=>td σ H1 fun x H2=>ty σ H2 fun y H3=>∃ a H4,x=.ref a∧IT H3 a y v H4∧D.nx σ H4
section
variable {X:Cx} {o i e value:Expr} {pos pos' tpos:Pos} {td ty tv:TE}
theorem CA (hu:X.A.units+1 < cLine) (ho:PE X o td) (hi:PE X i ty) (hs:RM i):PE X (.Subscript o i pos) (OB td ty):=by
 intro pins s σ H Q I h
 refine Jr PySem.F.slot_dict_getitem.lookup hs (eY (ho pins s σ H _ I h) fun u s1 ⟨x,H1,I1,rx,q1⟩=>eY (hi pins s1 σ H1 _ I1 q1) fun iv s2 ⟨y,H2,I2,ry,a,v,ex,g,q2⟩=>?_)
 subst ex
 obtain rfl:u=Value.ref a:=rx
 exact ⟨Aa I2 g,Ep hu I2 g ry fun w' s3 I3 rw'=>⟨v,H2,I3,rw',q2⟩⟩
theorem JB (hu:X.A.units+1 < cLine) (ho:PE X o td) (hi:PE X i ty) (hv:PE X value tv) (hs:swapsWith value (some (.Subscript o i pos')) pos.line X.env=pure false) :
  PS X (.Assign [.Subscript o i pos'] value pos) (ON td ty tv):=by
 intro pins s σ H D I h
 refine wpAny_Assign_Subscript (eY (hv pins s σ H _ I h) fun r s1 ⟨v,H1,I1,rv,q1⟩=>eY (ho pins s1 σ H1 _ I1 q1) fun u s2 ⟨x,H2,I2,rx,q2⟩=>eY (hi pins s2 σ H2 _ I2 q2) fun iv s3 ⟨y,H3,I3,ry,a,H4,ex,g,q3⟩=>?_) hs
 subst ex
 obtain rfl:u=Value.ref a:=rx
 exact Eg hu I3 g ry rv fun s4 I4=>⟨σ,H4,I4,q3⟩
end
theorem Ij {P:Program} {w:World} {H:Hp} (h:Heap) (hb:sysModules < h.objs.size):dh P w H (h.push { cls:=.type "dict",data:=.dict #[] }) h.objs.size (.dK []) :=
 ⟨Nat.zero_le _,beq_eq_false_iff_ne.mpr (Ne.symm (Nat.ne_of_lt hb)),[],.nil,Heap.DictOf.new h⟩
def Ly:TE:=fun _ H Q=>∀ p,H p=none→Q (.ref p) (upd H p (.dK []))
section
variable {X:Cx} {pos:Pos}
theorem Gn:PE X (.Dict [] [] pos) Ly:=fun pins s σ H Q I h =>
 wpAny_Dict_empty ⟨.ref s.heap.objs.size,_,I.laid (a:=s.heap.objs.size) (o:=.dK []) (t':=s.toks) (fun _ _ q=>Heap.get?_push_of_some _ q) (Nat.le_refl _) (Ij s.heap I.big),rfl,h _ (I.hok.fresh (Nat.le_refl _))⟩
end
structure M2 (X:Cx) (o:Expr) (m:Str) (apos:Pos) (e f:Expr) (cpos:Pos):Prop where
 base:attributeBase o m X.env (eval o X.env)=eval o X.env
 few:((backTo cpos (starEach [e,f] X.env)).all (fun x=>!x.1) && (backToKw cpos (keywordEach [] X.env)).all (fun x=>x.1.isSome)
  && decide (([e,f]:List Expr).length+([]:List Keyword).length+(if ([]:List Keyword).isEmpty then 0 else 1) < 30))=true
 line:(apos.endLine == cpos.line)=true
 trees:backTo cpos (starEach [e,f] X.env)=[(false,eval e X.env),(false,eval f X.env)]
def IsD (H:Hp) (a:Addr):Prop:=(∃ kvs,Rd H a (.dK kvs))∨∃ kvs,Rd H a (.dT kvs)
theorem Ms {X:Cx} {pins:List (Addr×Obj)} {σ:St} {H:Hp} {s:Shared} {a:Addr} (I:Inv X pins σ H s) (d:IsD H a) :
  s.TypeIs (.ref a) "dict"∧(∀ b,Value.ref a=.ref b→∃ ob,s.heap.get? b=some ob∧ob.dict=none)∧(a == sysModules)=false:=by
 rcases d with ⟨kvs,e⟩ | ⟨kvs,e⟩
 ·obtain ⟨_,hd,vs,_,dd⟩:=wo I.hok e
  refine ⟨dd.typeIs,fun b q=>?_,hd⟩
  cases q
  obtain ⟨ob,_,_,h1,h2,_⟩:=dd
  exact ⟨ob,h1,h2.2.1⟩
 ·obtain ⟨_,hd,xs,_,dd⟩:=zZ I.hok e
  refine ⟨dd.typeIs,fun b q=>?_,hd⟩
  cases q
  obtain ⟨ob,_,_,h1,h2,_⟩:=dd
  exact ⟨ob,h1,h2.2.1⟩
section
variable {X:Cx} {pins:List (Addr×Obj)} {σ:St} {H:Hp} {s:Shared} {a:Addr} {y d:V} {u r:Value} {o:Option V} {A:Around} {E:Value→Shared→Prop}
theorem Ni {Q:Value→Shared→Prop} (hu:A.units+1 < cLine) (I:Inv X pins σ H s) (g:vE H a y o) (ry:RelV y u) (rd:RelV d r) (h:∀ w' s',Inv X pins σ H s'→RelV (o.getD d) w'→Q w' s') :
  wpAny (model X.prog X.w) A (call (.builtin "dict.get") [.ref a,u,r]) Q E s:=by
 rcases g with ⟨kvs,k,e,ey,l⟩ | ⟨kvs,k,b,e,ey,eb,l⟩
 ·subst ey
  obtain ⟨z,hd,vs,rel,dd⟩:=wo I.hok e
  refine call_meetsIn PySem.F.slot_dict_get dd.typeIs PySem.F.entry_dict_get (PySem.F.args_dict_get_3 _ _ _) (meets_dict_get_default (bY X.prog X.w) a (CI ry) hd r) ⟨_,dd.mapOf,h _ _ (I.tok _) ?_⟩
  rw [l]
  exact (rel.val k).getD rd
 ·subst ey
  cases (show u=Value.ref b from ry)
  obtain ⟨z,hd,xs,rel,dd⟩:=zZ I.hok e
  refine call_meetsIn PySem.F.slot_dict_get dd.typeIs PySem.F.entry_dict_get (PySem.F.args_dict_get_3 _ _ _) (meetsH_dict_get_default (tupleKind (bY X.prog X.w)) a b hd r) ⟨tupleKind_room_in1 hu,k,xs,xX I.hok eb,dd,h _ _ (I.tok _) ?_⟩
  rw [l]
  exact (rel.val k).getD rd
end
def Lz (td ty tx:TE):TE:=fun σ H Q=>td σ H fun x H1=>∃ a,x=.ref a∧IsD H1 a∧ty σ H1 fun y H2=>tx σ H2 fun z H3=>∃ o,vE H3 a y o∧Q (o.getD z) H3
section
variable {X:Cx} {o e f:Expr} {apos cpos:Pos} {td ty tx:TE}
theorem Gp (hu:X.A.units+1 < cLine) (ho:PE X o td) (he:PE X e ty) (hf:PE X f tx) (m:M2 X o "get" apos e f cpos):PE X (.Call (.Attribute o "get" apos) [e,f] [] cpos) (Lz td ty tx):=by
 intro pins s σ H Q I h
 refine wpAny_Call_method m.base m.few m.line PySem.F.plainAttrs_dict PySem.F.slot_dict_get PySem.F.type_dict_get (eY (ho pins s σ H _ I h) fun u s1 ⟨x,H1,I1,rx,a,ex,d,q1⟩=>?_)
 subst ex
 obtain rfl:u=Value.ref a:=rx
 obtain ⟨t1,t2,_⟩:=Ms I1 d
 refine ⟨t1,t2,?_⟩
 rw [m.trees]
 refine Calls.callWith_builtin rfl (Calls.evalArgs_plain (Calls.spliced_cons (eY (he pins s1 σ H1 _ I1 q1) fun iv s2 ⟨y,H2,I2,ry,q2⟩ =>
  Calls.spliced_cons (eY (hf pins s2 σ H2 _ I2 q2) fun fv s3 ⟨z,H3,I3,rz,ov,g,q3⟩=>Calls.spliced_nil ?_))))
 exact Ni hu I3 g ry rz fun w' s4 I4 rw'=>⟨_,H3,I4,rw',q3⟩
end
section
variable {X:Cx} {pins:List (Addr×Obj)} {σ:St} {H:Hp} {s:Shared} {a:Addr} {kvs:List (Key×V)} {A:Around} {E:Value→Shared→Prop}
end
section
variable {X:Cx} {pins:List (Addr×Obj)} {σ:St} {H:Hp} {s:Shared} {a:Addr} {y:V} {u:Value} {A:Around} {E:Value→Shared→Prop}
end
end L2
namespace L2
open PySem PySem.Spec PyProof.Rows
section
variable {X:Cx}
end
section
variable {κ:Type} [DecidableEq κ]
end
end L2
set_option maxHeartbeats 4000000
namespace L2
open PySem PySem.Spec PyProof.Rows
abbrev jK:Value→Shared→Prop:=fun _ _=>False
abbrev wu (X:Cx) (sc:Scope) (N:List Str) (cl:List (Str×Addr)) (C:Addr) (s:Shared) (H:Hp) (fp:List Addr):Cx :=
 { X with N:=N,s₀:=s,H₀:=H,env:=compEnvC sc cl C X.env,outer:=X.stack,ex:=fp,fn:=fun _=>false,pn:=[],xe:=jK }
def Ext (σ σ':St):Prop:=σ'.length=σ.length∧∀ (i:Nat) v,σ[i]?=some (some v)→σ'[i]?=some (some v)
theorem Ext.one {x:V} {r:St}:Ext (none::r) (some x::r):=⟨rfl,fun i v h=>by cases i with | zero=>cases h | succ i=>exact h⟩
theorem Ext.two {x y:V} {r:St}:Ext (none::none::r) (some x::some y::r):=⟨rfl,fun i v h=>by
 cases i with
 | zero=>cases h
 | succ i=>cases i with | zero=>cases h | succ i=>exact h⟩
def Ck (cs:List Expr) (env:Env):Sem Bool:=forIn cs true fun c r=>if r=true then do let ok ← isTrue c env (eval c env);pure (ForInStep.yield ok) else pure (ForInStep.yield r)
def RK (X:Cx) (cs:List Expr) (t:TT):Prop :=
 ∀ (pins:List (Addr×Obj)) (s:Shared) (σ:St) (H:Hp) (Q:Bool→Hp→Prop),Inv X pins σ H s→t σ H Q→wpAny (model X.prog X.w) X.A (Ck cs X.env) (TP X pins σ Q) X.xe s
def Cm:TT:=fun _ H Q=>Q true H
theorem dZ {X:Cx}:RK X [] Cm:=fun pins s σ H Q I h=>wpAny_tests_nil ⟨H,I,h⟩
theorem Cv {X:Cx} {c:Expr} {t:TT} (hc:PT X c t):RK X [c] t:=fun pins s σ H Q I h=>wpAny_tests_one (hc pins s σ H Q I h)
section
variable {prog:Program} {w:World} {A:Around} {R:Result→Shared→Prop} {s:Shared}
theorem Eu {elt target iter:Expr} {cs:List Expr} {scope:Scope} {pos:Pos} {it acc:Value} {env:Env} (J:Nat→Shared→Prop)
  (turn:∀ n s,J n s→wpAny (model prog w) A (pyNext it) (fun r s1=>match r with
   | none=>R (.ok .next) s1
   | some v=>wpAny (model prog w) A (letOwnedTupleGo target it v) (fun _ s2=>wpAny (model prog w) A (assign target env v) (fun _ s3 =>
     wpAny (model prog w) A (Ck cs env) (fun ok s4=>if ok=true then wpAny (model prog w) A (eval elt env) (fun x s5 =>
       wpAny (model prog w) A (call (.builtin "list.append") [acc,x]) (fun _ s6=>∃ m,m < n∧J m s6) jK s5) jK s4
      else ∃ m,m < n∧J m s4) jK s3) jK s2) jK s1) jK s) (n:Nat) (h:J n s) :
  codeAny (model prog w) A (.compLoop (.ListComp elt [⟨target,iter,cs,0⟩] scope pos) 0 it acc env) R s:=by
 refine codeAny_loop rfl J (fun k s' hk=>?_) n h
 show wpAny (model prog w) A ((compTurn (.ListComp elt [⟨target,iter,cs,0⟩] scope pos) 0 it acc env).onRaise (fun x=>do noteFrame x env;theTreesLotGoes x)) _ _ s'
 refine wpAny_noted ?_
 have no:∀ (e:Value) (s2:Shared),jK e s2→notedBy (model prog w) A env (fun e s'=>R (.error e) s') e s2:=fun _ _ f=>f.elim
 rw [compTurn_list]
 refine wpAny_bind (wpAny_standAt (wpAny_bind (wpAny_mono (turn k s' hk) (fun r s1 g1=>?_) no)))
 cases r with
 | none=>exact wpAny_pure g1
 | some v =>
  refine wpAny_bind (wpAny_mono g1 (fun _ s2 g2=>?_) no)
  refine wpAny_bind (wpAny_mono g2 (fun _ s3 g3=>?_) no)
  refine wpAny_bind (wpAny_mono g3 (fun ok s4 g4=>?_) no)
  cases ok with
  | false=>exact wpAny_pure ⟨rfl,g4⟩
  | true=>exact wpAny_bind (wpAny_bind (wpAny_mono g4 (fun x s5 g5=>wpAny_bind (wpAny_mono g5 (fun _ s6 g6=>wpAny_pure (wpAny_pure ⟨rfl,g6⟩)) no)) no))
end
def mQ (J:It) (g:TG) (tt:TT) (te:TE) (σ0:St) (W:Nat→Nat→List V→Hp→Prop) (R:List V→Hp→Prop):Prop :=
 ∀ i m ys H,W i m ys H→(J.stop i H∧R ys H)∨(J.go i H∧∃ F:List V→Hp→Prop,(∀ ys' H',F ys' H'→∃ m',m' < m∧W (i+1) m' ys' H')∧∀ x H',J.KS i H x H'→g x σ0 H' fun σ2 H2=>Ext σ0 σ2∧tt σ2 H2 fun b H3 =>
  if b=true then te σ2 H3 fun v H4=>ys.length < sizeLine∧F (ys++[v]) H4 else F ys H3)
structure uT (X:Cx) (sc:Scope) (cl:List (Str×Addr)) (own:Nat) (N:List Str) (fr:List Nat):Prop where
 kind:sc.kind=.function
 names:∀ x∈sc.names,x.2=.local→sc.names.lookup x.1=some .local
 xP:∀ x∈sc.names,x.2≠.cell
 clos:closureFor sc X.env=pure cl
 cells:∀ x c,cl.lookup x=some c→X.env.cells.lookup x=some c
 has:∀ x,((relabel sc X.env).names.lookup x=some .cell∨(relabel sc X.env).names.lookup x=some .free)→∃ c,cl.lookup x=some c
 len:N.length=own+fr.length
 TF:∀ (i:Nat) j,fr[i]?=some j→∃ x,N[own+i]?=some x∧X.N[j]?=some x∧(X.env.kindOf x=some .cell∨X.env.kindOf x=some .free)∧((relabel sc X.env).names.lookup x=some .cell∨(relabel sc X.env).names.lookup x=some .free)
def KR (env:Env):List (Str×Addr)→Prop
 | []=>True
 | p::r=>env.cells.lookup p.1=some p.2∧KR env r
theorem KR.mem {env:Env}:∀ {cl:List (Str×Addr)},KR env cl→∀ p∈cl,env.cells.lookup p.1=some p.2
 | [],_,_,h=>nomatch h
 | _::_,h,p,hp=>by
  rcases List.mem_cons.mp hp with rfl | hp
  ·exact h.1
  ·exact h.2.mem p hp
def xZ (k:Option NameKind):Bool:=match k with
 | some .cell=>true
 | some .free=>true
 | _=>false
theorem CM {k:Option NameKind} (h:xZ k=true):k=some .cell∨k=some .free:=by
 cases k with
 | none=>cases h
 | some k=>cases k <;> first | exact .inl rfl | exact .inr rfl | cases h
def CU (X:Cx) (sc:Scope):List Str→List Nat→Bool
 | [],[]=>true
 | x::ns,j::fr=>decide (X.N[j]?=some x) && xZ (X.env.kindOf x) && xZ ((relabel sc X.env).names.lookup x) && CU X sc ns fr
 | _,_=>false
theorem zR {X:Cx} {sc:Scope}:∀ {ns:List Str} {fr:List Nat},CU X sc ns fr=true→ns.length=fr.length∧∀ (i:Nat) j,fr[i]?=some j→∃ x,ns[i]?=some x∧X.N[j]?=some x∧xZ (X.env.kindOf x)=true∧xZ ((relabel sc X.env).names.lookup x)=true
 | [],[],_=>⟨rfl,fun i j h=>by simp at h⟩
 | [],_::_,h=>by cases h
 | _::_,[],h=>by cases h
 | x::ns,j::fr,h=>by
  have h:(decide (X.N[j]?=some x) && xZ (X.env.kindOf x) && xZ ((relabel sc X.env).names.lookup x) && CU X sc ns fr)=true:=h
  rw [Bool.and_eq_true,Bool.and_eq_true,Bool.and_eq_true] at h
  obtain ⟨⟨⟨h1,h2⟩,h3⟩,h4⟩:=h
  obtain ⟨l,g⟩:=zR h4
  refine ⟨by simp [l],fun i k e=>?_⟩
  cases i with
  | zero=>cases e;exact ⟨x,rfl,of_decide_eq_true h1,h2,h3⟩
  | succ i=>exact g i k e
theorem ck {X:Cx} {sc:Scope} {cl:List (Str×Addr)} (O0 ZG:List Str) (fr:List Nat) (kind:sc.kind=.function) (names:(sc.names.all fun x=>x.2 != .local || sc.names.lookup x.1 == some .local)=true)
  (xP:(sc.names.all fun x=>x.2 != .cell)=true) (clos:closureFor sc X.env=pure cl) (cells:KR X.env cl) (has:((relabel sc X.env).names.all fun y=>!xZ (some y.2) || (cl.lookup y.1).isSome)=true)
  (len:ZG.length=fr.length) (TF:CU X sc ZG fr=true):uT X sc cl O0.length (O0++ZG) fr where
 kind:=kind
 names:=fun x hx hl=>by
  have:=List.all_eq_true.mp names x hx
  rw [hl] at this
  simpa using this
 xP:=fun x hx=>by simpa using List.all_eq_true.mp xP x hx
 clos:=clos
 cells:=fun x c h=>cells.mem (x,c) (PySem.mem_of_lookup h)
 has:=fun x h=>by
  obtain ⟨k,hk,e⟩:∃ k,(relabel sc X.env).names.lookup x=some k∧xZ (some k)=true:=by
   rcases h with h | h
   ·exact ⟨_,h,rfl⟩
   ·exact ⟨_,h,rfl⟩
  have:=List.all_eq_true.mp has (x,k) (PySem.mem_of_lookup hk)
  rw [e] at this
  exact Option.isSome_iff_exists.mp (by simpa using this)
 len:=by rw [List.length_append,len]
 TF:=fun i j e=>by
  obtain ⟨_,g⟩:=zR TF
  obtain ⟨x,e1,e2,e3,e4⟩:=g i j e
  refine ⟨x,?_,e2,CM e3,CM e4⟩
  rw [List.getElem?_append_right (Nat.le_add_right _ _),Nat.add_sub_cancel_left]
  exact e1
def IV (own:Nat) (fr:List Nat) (σ:St):St:=List.replicate own none++fr.map fun j=>(σ[j]?).join
section
variable {X:Cx} {sc:Scope} {cl:List (Str×Addr)} {own:Nat} {N:List Str} {fr:List Nat}
theorem LG {σ:St} {i:Nat} {v:V} (h:(IV own fr σ)[i]?=some (some v)):∃ k j,i=own+k∧fr[k]?=some j∧σ[j]?=some (some v):=by
 unfold IV at h
 by_cases hi:i < own
 ·rw [List.getElem?_append_left (by simpa using hi),List.getElem?_replicate,if_pos hi] at h
  cases h
 ·rw [List.getElem?_append_right (by simpa using hi),List.length_replicate,List.getElem?_map] at h
  cases e:fr[i - own]? with
  | none=>rw [e] at h;cases h
  | some j =>
   rw [e] at h
   have h:(σ[j]?).join=some v:=Option.some.inj h
   refine ⟨i - own,j,by omega,e,?_⟩
   cases q:σ[j]? with
   | none=>rw [q] at h;cases h
   | some o=>rw [q] at h;exact congrArg some h
theorem EA {pins:List (Addr×Obj)} {σ:St} {H:Hp} {s:Shared} {fp:List Addr} {h1:Heap} {m1:Str→Option Value} {t:Nat} {C D:Addr} {od:Obj} (S:uT X sc cl own N fr) (I:Inv X pins σ H s) (hfp:∀ b∈fp,kY X pins H b)
  (hob:∀ b∈fp,∃ o,s.heap.get? b=some o) (kp:∀ b o,s.heap.get? b=some o→h1.get? b=some o) (hC:s.heap.objs.size≤C) (hns:h1.Ns C m1) (hD:s.heap.objs.size≤D) (hDC:D≠C) (ho:h1.get? D=some od) (hod:∀ v,od.data≠.cell v) :
  Inv (wu X sc N cl C s H fp) [(D,od)] (IV own fr σ) H { s with heap:=h1,toks:=t }:=by
 have Jq:∀ b∈fp,b < s.heap.objs.size:=fun b hb=>let ⟨o,e⟩:=hob b hb;Heap.lt_size e
 refine ⟨⟨I.ok.mod,S.kind,I.ok.glob,I.ok.blt,hC,fun x y c a b=>I.ok.inj x y c (S.cells x c a) (S.cells y c b),S.has,(fun x c z=>nomatch z),I.ok.hd,I.ok.frames,.inl rfl,fun b hb=>?_,I.bs,Nat.le_trans I.ok.KD I.sz,fun b o e hb=>?_,fun b hb hf=>?_,I.stack,I.Co⟩,
  rfl,I.bare,Un.kept kp,⟨m1,hns,fun i x v e1 e2 e3=>?_⟩,fun x c e=>?_,I.hok.fresh hC,fun x c e=>I.kQ x c (S.cells x c e),fun p hp=>?_,I.hok.kept kp,?_⟩
 ·exact ⟨Nat.ne_of_lt (Nat.lt_of_lt_of_le (Jq b hb) hC),fun x c e=>(hfp b hb).2.2.2.2.1 x c (S.cells x c e)⟩
 ·rcases (hfp b hb).2.2.2.1 with z | z
  ·exact I.ok.GD b o e z
  ·exact absurd (Nat.lt_of_lt_of_le (Heap.lt_size e) (Nat.le_trans I.ok.KD z)) (Nat.lt_irrefl _)
 ·rcases List.mem_cons.mp (I.w9 b hf) with z | z
  ·exact (hfp b hb).2.1 z
  ·exact (hfp b hb).2.2.1 z
 ·obtain ⟨k,j,rfl,ej,eσ⟩:=LG e2
  obtain ⟨y,n1,n2,k1,k2⟩:=S.TF k j ej
  have e1:N[own+k]?=some x:=e1
  rw [n1] at e1
  cases e1
  obtain ⟨m,hn,hl⟩:=I.loc
  obtain ⟨u,ru,l⟩:=hl j x v n2 eσ (by rcases k1 with z | z;exact .inr (.inl z);exact .inr (.inr z))
  refine ⟨u,ru,.inr ⟨k2,?_⟩⟩
  obtain ⟨c,hc⟩:=S.has x k2
  refine ⟨c,hc,?_⟩
  rcases l with ⟨q,_⟩ | ⟨_,c',e',z⟩
  ·rcases k1 with k1 | k1 <;> (rw [k1] at q;cases q)
  ·have:=S.cells x c hc
   rw [e'] at this;cases this
   obtain ⟨o,Ld,h2'⟩:=z
   exact ⟨o,kp _ _ Ld,h2'⟩
 ·obtain ⟨v,o,Ld,h2'⟩:=I.cell x c (S.cells x c e)
  exact ⟨v,o,kp _ _ Ld,h2'⟩
 ·have hp:p=(D,od):=by simpa using hp
  subst hp
  refine ⟨ho,I.hok.fresh hD,hDC,fun hf=>?_,hod⟩
  have:D∈X.env.locals::X.fs:=I.w9 D hf
  rcases List.mem_cons.mp this with z | z
  ·exact absurd (Nat.lt_of_lt_of_le I.lt hD) (by rw [z];exact Nat.lt_irrefl _)
  ·exact I.Pc hD z
 ·unfold IV
  rw [List.length_append,List.length_replicate,List.length_map]
  exact S.len.symm
theorem EB {pins pl:List (Addr×Obj)} {σ τ:St} {H H':Hp} {s s':Shared} {fp:List Addr} {C D:Addr} {ys:List V} {its:List Value} {n:Nat} (I:Inv X pins σ H s) (hfp:∀ b∈fp,kY X pins H b) (hC:s.heap.objs.size≤C) (hD:s.heap.objs.size≤D)
  (B:Inv (wu X sc N cl C s H fp) pl τ H' s') (hn:H' D=none) (ho:s'.heap.get? D=some { cls:=.type "list",data:=.seq its.toArray n }) (r:Vals ys its) (hz:ys.length≤sizeLine) :
  Inv X pins σ (upd H' D (.lst ys)) s':=by
 have ne:∀ b o,s.heap.get? b=some o→b≠D:=fun b o e=>Nat.ne_of_lt (Nat.lt_of_lt_of_le (Heap.lt_size e) hD)
 have nt:∀ b u,H' b=some u→b≠D:=fun b u e=>aF e hn
 refine I.RA (ch:=fp) B.os ⟨B.base.keep,B.base.slot,fun b o e q hx=>?_,B.base.there,fun b xs e=>?_,fun b o u e=>?_,fun b ps e=>?_⟩ (fun b u e=>?_) B.bare fun b hb=>?_
 ·rw [aL (ne b o e)];exact B.base.free b o e q hx
 ·have:=B.base.tups b xs e;rw [aL (nt _ _ this)];exact this
 ·have:=B.base.vj b o u e;rw [aL (nt _ _ this)];exact this
 ·obtain ⟨mo,this⟩:=B.base.w4 b ps e;exact ⟨mo,by rw [aL (nt _ _ this)];exact this⟩
 ·by_cases hb:b=D
  ·subst hb
   rw [ah] at e
   cases e
   exact ⟨hz,its,n,r,ho⟩
  ·rw [aL hb] at e
   exact (B.hok b u e).stay (fun _ _ _ q=>q) (fun c q=>by rw [aL (nt _ _ q)];exact q) fun c xs q=>by rw [aL (nt _ _ q)];exact q
 ·obtain ⟨_,f1,_,f3,f4,f5⟩:=hfp b hb
  exact ⟨f3,f1,f4,f5⟩
end
end L2
namespace L2
open PySem PySem.Spec PyProof.Rows
section
variable {X:Cx} {sc:Scope} {cl:List (Str×Addr)} {own:Nat} {N:List Str} {fr:List Nat}
theorem Inv.Gh {pins vS:List (Addr×Obj)} {σ:St} {H:Hp} {s:Shared} (I:Inv X pins σ H s) (h:∀ p∈vS,p∈pins):Inv X vS σ H s:=I.rJ fun p hp=>I.pin p (List.mem_append_right _ (h p hp))
theorem wz {elt tg iter:Expr} {cs:List Expr} {pos:Pos} {g:TG} {tt:TT} {te:TE} {pins:List (Addr×Obj)} {σ:St} {H:Hp} {s:Shared} {it:Addr} {fp:List Addr} {tn:Nat→Heap→Prop} {J:It} {RR:Value→Addr→Result→Shared→Prop}
  (S:uT X sc cl own N fr) (hc:X.calm=true) (I:Inv X pins σ H s) (T:Turn X.prog X.w X.K tg J fp it tn) (st:tn 0 s.heap) (hfp:∀ b∈fp,kY X pins H b)
  (hg:∀ C s H,PG (wu X sc N cl C s H fp) tg g) (ht:∀ C s H,RK (wu X sc N cl C s H fp) cs tt) (he:∀ C s H,PE (wu X sc N cl C s H fp) elt te)
  {W:Nat→Nat→List V→Hp→Prop} {R:List V→Hp→Prop} (w0:∃ m,W 0 m [] H) (walk:mQ J g tt te (IV own fr σ) W R)
  (fin:∀ D C H' ys s' m,s'.heap.Ns C m→H' D=none→kY X pins (upd H' D (.lst ys)) C→Inv X pins σ (upd H' D (.lst ys)) s'→R ys H'→RR (.ref D) C (.ok .next) s') :
  wpAny (model X.prog X.w) X.A (newList []) (fun acc s3=>wpAny (model X.prog X.w) X.A (newFunctionEnv sc X.env.globals cl [] X.env.qual none .none (some X.env)) (fun cenv s4 =>
   codeAny (model X.prog X.w) X.A (.compStart (.ListComp elt [⟨tg,iter,cs,0⟩] sc pos) 0 (.ref it) acc { cenv with scope:=relabel sc X.env }) (RR acc cenv.locals) s4) X.xe s3) X.xe s:=by
 refine wpAny_newObj_type (wpAny_newFunctionEnv S.xP (by intro y hy;simp at hy) (fun h1 hns J4=>?_) S.kind)
 dsimp only at hns J4 ⊢
 generalize hH:s.heap.push { cls:=.type "list",dict:=none,data:=.seq ([]:List Value).toArray }=hp at hns J4 ⊢
 have sC:hp.objs.size=s.heap.objs.size+1:=by rw [← hH,Heap.size_push]
 have hDC:s.heap.objs.size≠hp.objs.size:=by omega
 have kp:∀ b o,s.heap.get? b=some o→h1.get? b=some o:=fun b o e=>by
  have l:=Heap.lt_size e
  exact J4.extBut b o (Nat.ne_of_lt (by rw [sC];exact Nat.lt_succ_of_lt l)) (Heap.get?_push_of_some _ (hH ▸ Heap.get?_push_of_some _ e))
 have hD1:h1.get? s.heap.objs.size=some { cls:=.type "list",data:=.seq ([]:List Value).toArray }:=J4.extBut _ _ hDC (Heap.get?_push_of_some _ (hH ▸ Heap.get?_push_size _ rfl))
 have Jq:∀ b∈fp,b < s.heap.objs.size:=fun b hb=>let ⟨o,e,_⟩:=T.obj 0 _ st b hb;Heap.lt_size e
 generalize hCC:hp.objs.size=C at *
 generalize hDD:s.heap.objs.size=D at *
 have I1:∀ t,Inv (wu X sc N cl C s H fp) [(D,{ cls:=.type "list",data:=.seq ([]:List Value).toArray })] (IV own fr σ) H { s with heap:=h1,toks:=t }:=fun t =>
  EA S I hfp (fun b hb=>let ⟨o,e,_⟩:=T.obj 0 _ st b hb;⟨o,e⟩) kp (by omega) hns (by omega) hDC hD1 (by intro v z;cases z)
 have st1:tn 0 h1:=T.keep 0 _ _ st fun b hb o e=>kp b o e
 have ZH:∀ {H':Hp} {s':Shared} {τ:St} {pl:List (Addr×Obj)} {od:Obj},Inv (wu X sc N cl C s H fp) pl τ H' s'→(∀ p∈pl,p.1=D)→(∀ b∈fp,H' b=none)→∀ b∈fp,kY (wu X sc N cl C s H fp) pl H' b:=fun {H' s' τ pl od} B hpl hn b hb=>by
  have q:=Jq b hb
  refine ⟨hn b hb,(B.ok.Ul b hb).1,B.ok.HU b hb,.inl hb,(B.ok.Ul b hb).2,fun p hp=>?_⟩
  have hp:p∈pl:=by simpa using hp
  rw [hpl p hp];exact (Nat.ne_of_lt q).symm
 have loop:∀ t,codeAny (model X.prog X.w) X.A (.compLoop (.ListComp elt [⟨tg,iter,cs,0⟩] sc pos) 0 (.ref it) (.ref D) (compEnvC sc cl C X.env)) (RR (.ref D) C) { s with heap:=h1,toks:=t }:=by
  intro t
  obtain ⟨m0,w0⟩:=w0
  refine Eu (fun n s'=>∃ i ys its k H',Inv (wu X sc N cl C s H fp) [(D,{ cls:=.type "list",data:=.seq (List.toArray its) k })] (IV own fr σ) H' s'∧tn i s'.heap∧(∀ b∈fp,H' b=none)∧Vals ys its∧ys.length≤sizeLine∧W i n ys H') ?_ m0
   ⟨0,[],[],_,H,I1 t,st1,fun b hb=>(hfp b hb).1,.nil,Nat.zero_le _,w0⟩
  rintro n s2 ⟨i,ys,its,k,H2,B2,st2,fr2,rv,hz,w2⟩
  have pD:=B2.pin (D,{ cls:=.type "list",data:=.seq (List.toArray its) k }) (List.mem_append_right _ (List.mem_singleton.mpr rfl))
  rcases walk i n ys H2 w2 with ⟨stop,rr⟩ | ⟨go,nx,hnx,tk⟩
  ·refine wpAny_mono (T.done (wu X sc N cl C s H fp) rfl rfl rfl hc i _ s2 _ H2 jK B2 (ZH (od:=default) B2 (by simp) fr2) st2 stop) (fun r s3 ⟨hr,B3⟩=>?_) fun _ _ z=>z
   subst hr
   obtain ⟨m3,n3,_⟩:=B3.loc
   have Wh:=B3.pin (D,{ cls:=.type "list",data:=.seq (List.toArray its) k }) (List.mem_append_right _ (List.mem_singleton.mpr rfl))
   refine fin D C H2 ys s3 m3 n3 Wh.2.1 ?_ (EB I hfp (by omega) (by omega) B3 Wh.2.1 Wh.1 rv hz) rr
   exact I.DW (by omega) (by rw [aL (Ne.symm hDC)];exact B3.free)
  ·refine wpAny_mono (T.item (wu X sc N cl C s H fp) rfl rfl rfl hc i _ s2 _ H2 jK B2 (ZH (od:=default) B2 (by simp) fr2) st2 go) (fun r s3 ⟨u,hr,g3⟩=>?_) fun _ _ z=>z
   subst hr
   refine wpAny_mono g3 (fun _ s4 ⟨x,H4,B4,rx,y4,UP,fr4⟩=>?_) fun _ _ z=>z
   have B5:=B4.pinned (ZH (od:=default) B4 (by simp) fr4) (T.obj _ _ UP)
   refine wpAny_mono (hg C s H _ s4 _ H4 x u _ B5 rx (tk x H4 y4)) (fun _ s5 ⟨σ5,H5,B6,ex,q5⟩=>?_) fun _ _ z=>z
   refine wpAny_mono (ht C s H _ s5 σ5 H5 _ B6 q5) (fun b s6 ⟨H6,B7,q6⟩=>?_) fun _ _ z=>z
   have back:∀ {H':Hp} {s':Shared},Inv (wu X sc N cl C s H fp) ([(D,{ cls:=.type "list",data:=.seq (List.toArray its) k })]++tP fp s4.heap) σ5 H' s'→tn (i+1) s'.heap∧∀ b∈fp,H' b=none:=fun {H' s'} B=>by
    refine ⟨T.keep _ _ _ UP fun b hb o e=>(B.pin (b,o) (List.mem_append_right _ (List.mem_append_right _ (kD hb e)))).1,fun b hb=>?_⟩
    obtain ⟨o,e,_⟩:=T.obj _ _ UP b hb
    exact (B.pin (b,o) (List.mem_append_right _ (List.mem_append_right _ (kD hb e)))).2.1
   cases b with
   | false =>
    obtain ⟨m',hm,w'⟩:=hnx _ _ q6
    obtain ⟨t7,f7⟩:=back B7
    exact ⟨m',hm,i+1,ys,its,k,H6,(B7.nV).weak ex.1.symm ex.2,t7,f7,rv,hz,w'⟩
   | true =>
    refine wpAny_mono (he C s H _ s6 σ5 H6 _ B7 q6) (fun x7 s7 ⟨v7,H7,B8,r7,hz7,q7⟩=>?_) fun _ _ z=>z
    obtain ⟨m',hm,w'⟩:=hnx _ _ q7
    obtain ⟨t8,f8⟩:=back B8
    have LX:=B8.pin (D,{ cls:=.type "list",data:=.seq (List.toArray its) k }) (List.mem_append_right _ (List.mem_append_left _ (List.mem_singleton.mpr rfl)))
    have lz:its.length=ys.length:=rv.length.symm
    refine call_meets F.slot_list_append ⟨_,LX.1,rfl⟩ F.entry_list_append (F.args_list_append_2 _ _) (PySem.list_append D its.toArray k x7 (by rw [List.size_toArray];omega)) ⟨LX.1,?_⟩
    have q:=PySem.IsL.update LX.1 (·.push x7)
    have eo:its.toArray.push x7=(its++[x7]).toArray:=by simp
    have B9:Inv (wu X sc N cl C s H fp) [] (IV own fr σ) H7 { s7 with heap:=s7.heap.update D (Obj.mapSeq (·.push x7)) } :=
     Inv.turned (t':=s7.toks) (((B8.Gh (vS:=[]) (by intro p hp;simp at hp)).weak ex.1.symm ex.2)) (fun b o hb e=>(Heap.get?_update_other _ _ (Ne.symm hb)).trans e) LX.2.1 hDC (.inr (by show s.heap.objs.size≤D;omega)) (fun y c e z=>by
      have:=B8.cell y c e
      obtain ⟨v,o,Ld,h2'⟩:=this
      have Ld:s7.heap.get? c=some o:=Ld
      rw [z,LX.1] at Ld
      cases Ld
      cases h2') (by intro p hp;simp at hp)
    have B10:∀ o',(s7.heap.update D (Obj.mapSeq (·.push x7))).get? D=some o'→(∀ v,o'.data≠.cell v)→Inv (wu X sc N cl C s H fp) [(D,o')] (IV own fr σ) H7 { s7 with heap:=s7.heap.update D (Obj.mapSeq (·.push x7)) }:=fun o' e1 e2 =>
     Inv.rJ B9 fun p hp=>by
      have hp:p=(D,o'):=by simpa using hp
      subst hp
      exact ⟨e1,LX.2.1,hDC,LX.2.2.2.1,e2⟩
    rw [eo] at q
    refine ⟨m',hm,i+1,ys++[v7],its++[x7],_,H7,B10 _ q (by intro v z;cases z),T.keep _ _ _ t8 fun b hb o e=>(Heap.get?_update_other _ _ (Nat.ne_of_gt (Jq b hb))).trans e,f8,rv.append (.cons r7 .nil),by rw [List.length_append,List.length_singleton];omega,w'⟩
 exact codeAny_compStart_list (loop _) (T.self _ 0 _ _ _ st1 (loop _))
def KY (own:Nat) (fr:List Nat) (wi:TI) (g:TG) (tt:TT) (te:TE):TE:=fun σ H Q=>wi σ H fun J H1=>∃ W:Nat→Nat→List V→Hp→Prop,(∃ m,W 0 m [] H1) ∧
 mQ J g tt te (IV own fr σ) W fun ys H2=>∀ p,H2 p=none→Q (.ref p) (upd H2 p (.lst ys))
theorem fc {elt tg iter:Expr} {cs:List Expr} {pos:Pos} {wi:TI} {g:TG} {tt:TT} {te:TE} (S:uT X sc cl own N fr) (hc:X.calm=true) (hi:PI X tg iter wi) (hg:∀ C s H fp,PG (wu X sc N cl C s H fp) tg g)
  (ht:∀ C s H fp,RK (wu X sc N cl C s H fp) cs tt) (he:∀ C s H fp,PE (wu X sc N cl C s H fp) elt te) (hs:∀ x,foldedSetIterable iter X.env x=pure x:=by intro _;rfl) :
  PE X (.ListComp elt [⟨tg,iter,cs,0⟩] sc pos) (KY own fr wi g tt te):=by
 intro pins s σ H Q I h
 rw [eval_ListComp]
 refine wpAny_comprehension_free (use:=none) rfl hs S.clos S.kind S.names (eY (hi pins s σ H _ I h) fun v s1 h1=>eY h1 fun itv s2 h2=>?_)
 obtain ⟨it,fp,tn,J,H2,e,I2,T,st2,f2,W,w0,walk⟩:=h2
 subst e
 refine wz (RR:=fun acc C=>compPost (model X.prog X.w) X.A X.xe none (EP X pins σ Q) acc C) S hc I2 T st2 f2 (fun C s H=>hg C s H fp) (fun C s H=>ht C s H fp) (fun C s H=>he C s H fp) w0 walk ?_
 intro D C H' ys s' m hn hD fC I' rr
 obtain ⟨f0,f1,f2',f3,f4,f5⟩:=fC
 exact ⟨m,hn,fun h' hs'=>⟨.ref D,_,Inv.turned (t':=s'.toks) I' (fun b o hb e=>hs'.extBut b o hb e) f0 f1 f3 f4 f5,rfl,rr D hD⟩⟩
theorem ou {elt tg iter:Expr} {cs:List Expr} {pos spos py:Pos} {wi:TI} {g:TG} {tt:TT} {te:TE} {i:Nat} {y:Str} (hN:X.N.Nodup) (hiy:X.N[i]?=some y) (hy:Loc X.env.scope y) (S:uT X sc cl own N fr) (hc:X.calm=true) (hi:PI X tg iter wi)
  (hg:∀ C s H fp,PG (wu X sc N cl C s H fp) tg g) (ht:∀ C s H fp,RK (wu X sc N cl C s H fp) cs tt) (he:∀ C s H fp,PE (wu X sc N cl C s H fp) elt te)
  (hsw:swapsWith (.ListComp elt [⟨tg,iter,cs,0⟩] sc pos) (some (.Name y py)) spos.line X.env=pure true:=by rfl) (hs:∀ x,foldedSetIterable iter X.env x=pure x:=by intro _;rfl)
  (hf:X.fn y=true∨X.env.scope.names.lookup y=some .local:=by first | exact .inl rfl | exact .inr rfl | assumption) :
  PS X (.Assign [.Name y py] (.ListComp elt [⟨tg,iter,cs,0⟩] sc pos) spos) (LB (KY own fr wi g tt te) (Hs i)):=by
 intro pins s σ H D0 I h
 rw [exec_Assign_Name_used _ _ _ _ hsw]
 refine wpAny_bind (wpAny_standAt (wpAny_bind ?_))
 show wpAny _ X.A (do let _ ← comprehension (.ListComp elt [⟨tg,iter,cs,0⟩] sc pos) sc X.env _ (newList []) false (eval iter X.env) (some (assign (.Name y py) X.env))) _ _ s
 refine wpAny_bind (eY (wpAny_comprehension_free (use:=some (assign (.Name y py) X.env)) (Q:=fun _ s'=>SP X pins D0 .next s') rfl hs S.clos S.kind S.names
  (eY (hi pins s σ H _ I h) fun v s1 h1=>eY h1 fun itv s2 h2=>?_)) fun _ s' hq=>wpAny_pure (wpAny_pure hq))
 obtain ⟨it,fp,tn,J,H2,e,I2,T,st2,f2,W,w0,walk⟩:=h2
 subst e
 refine wz (RR:=fun acc C=>compPost (model X.prog X.w) X.A X.xe (some (assign (.Name y py) X.env)) (fun _ s'=>SP X pins D0 .next s') acc C) S hc I2 T st2 f2 (fun C s H=>hg C s H fp) (fun C s H=>ht C s H fp) (fun C s H=>he C s H fp) w0 walk ?_
 intro D C H' ys s' m hn hD fC I' rr
 obtain ⟨f0,f1,f2',f3,f4,f5⟩:=fC
 show wpAny _ X.A (assign (.Name y py) X.env (.ref D)) _ _ _
 refine wpAny_assign_Name (vM I' hN hiy hy (v:=.ref D) rfl (fun s2 I2 ⟨a,sb,ha⟩=>?_) hf)
 have aC:C≠a:=by
  rcases ha with z | z
  ·rw [z];exact f1
  ·exact fun q=>f4 y a z q.symm
 exact ⟨m,hn.sameBut sb aC,fun h' hs'=>⟨_,_,Inv.turned (t':=s2.toks) I2 (fun b o hb e=>hs'.extBut b o hb e) f0 f1 f3 f4 f5,rr D hD⟩⟩
end
theorem iy {K:PySem.W.Frag} {a:Addr} {xs:List V} {g:TG} {tt:TT} {te:TE} {σ0:St} {H:Hp} {R:List V→Hp→Prop} (Pv:Nat→List V→Hp→Prop) (h0:Pv 0 [] H) (hl:∀ i ys H,i≤xs.length→Pv i ys H→bz K H a xs)
  (hs:∀ i x ys H,xs[i]?=some x→Pv i ys H→g x σ0 H fun σ2 H2=>Ext σ0 σ2∧tt σ2 H2 fun b H3=>if b=true then te σ2 H3 fun v H4=>ys.length < sizeLine∧Pv (i+1) (ys++[v]) H4 else Pv (i+1) ys H3)
  (hd:∀ ys H,Pv xs.length ys H→R ys H):∃ W:Nat→Nat→List V→Hp→Prop,(∃ m,W 0 m [] H)∧mQ (IF K a) g tt te σ0 W R:=by
 refine ⟨fun i m ys H=>m=xs.length - i∧i≤xs.length∧Pv i ys H,⟨xs.length,by simp,Nat.zero_le _,h0⟩,?_⟩
 rintro i m ys H ⟨rfl,hi,p⟩
 have q:=hl i ys H hi p
 by_cases hlt:i < xs.length
 ·refine .inr ⟨⟨xs,xs[i],q,by simp [hlt]⟩,Pv (i+1),fun ys' H' p'=>⟨xs.length - (i+1),by omega,rfl,hlt,p'⟩,fun x H' y=>?_⟩
  obtain ⟨e,y⟩:=y
  subst e
  exact hs i x ys _ (y xs q) p
 ·have e:i=xs.length:=by omega
  subst e
  exact .inl ⟨⟨xs,q,Nat.le_refl _⟩,hd ys H p⟩
theorem Ae {K:PySem.W.Frag} {a:Addr} {xs:List V} {g:TG} {tt:TT} {te:TE} {σ0:St} {H:Hp} {R:List V→Hp→Prop} (Pv:Nat→List V→Hp→Prop) (h0:Pv 0 [] H) (hl:∀ i ys H,i≤xs.length→Pv i ys H→cR K H a xs)
  (hs:∀ i x ys H,xs[i]?=some x→Pv i ys H→g x σ0 H fun σ2 H2=>Ext σ0 σ2∧tt σ2 H2 fun b H3=>if b=true then te σ2 H3 fun v H4=>ys.length < sizeLine∧Pv (i+1) (ys++[v]) H4 else Pv (i+1) ys H3)
  (hd:∀ ys H,Pv xs.length ys H→R ys H):∃ W:Nat→Nat→List V→Hp→Prop,(∃ m,W 0 m [] H)∧mQ (Fc K a) g tt te σ0 W R:=by
 refine ⟨fun i m ys H=>m=xs.length - i∧i≤xs.length∧Pv i ys H,⟨xs.length,by simp,Nat.zero_le _,h0⟩,?_⟩
 rintro i m ys H ⟨rfl,hi,p⟩
 have q:=hl i ys H hi p
 by_cases hlt:i < xs.length
 ·refine .inr ⟨⟨xs,xs[i],q,by simp [hlt]⟩,Pv (i+1),fun ys' H' p'=>⟨xs.length - (i+1),by omega,rfl,hlt,p'⟩,fun x H' y=>?_⟩
  obtain ⟨e,y⟩:=y
  subst e
  exact hs i x ys _ (y xs q) p
 ·have e:i=xs.length:=by omega
  subst e
  exact .inl ⟨⟨xs,q,Nat.le_refl _⟩,hd ys H p⟩
theorem BF {lo:Int} {n:Nat} {g:TG} {tt:TT} {te:TE} {σ0:St} {H:Hp} {R:List V→Hp→Prop} (Pv:Nat→List V→Hp→Prop) (h0:Pv 0 [] H)
  (hs:∀ i ys H,i < n→Pv i ys H→g (.int (lo+i)) σ0 H fun σ2 H2=>Ext σ0 σ2∧tt σ2 H2 fun b H3=>if b=true then te σ2 H3 fun v H4=>ys.length < sizeLine∧Pv (i+1) (ys++[v]) H4 else Pv (i+1) ys H3)
  (hd:∀ ys H,Pv n ys H→R ys H):∃ W:Nat→Nat→List V→Hp→Prop,(∃ m,W 0 m [] H)∧mQ (Nu lo n) g tt te σ0 W R:=by
 refine ⟨fun i m ys H=>m=n - i∧i≤n∧Pv i ys H,⟨n,by simp,Nat.zero_le _,h0⟩,?_⟩
 rintro i m ys H ⟨rfl,hi,p⟩
 by_cases hlt:i < n
 ·refine .inr ⟨hlt,Pv (i+1),fun ys' H' p'=>⟨n - (i+1),by omega,rfl,hlt,p'⟩,fun x H' y=>?_⟩
  obtain ⟨e,y⟩:=y
  subst e y
  exact hs i ys _ hlt p
 ·have e:i=n:=by omega
  subst e
  exact .inl ⟨Nat.le_refl _,hd ys H p⟩
def Y7 (K:PySem.W.Frag) (tl:TE):TI:=fun σ H R=>tl σ H fun x H1=>∃ a,x=.ref a∧(((∃ xs,bz K H1 a xs)∧R (IF K a) H1)∨((∃ xs,cR K H1 a xs)∧R (Fc K a) H1))
theorem nu {X:Cx} {tg l:Expr} {tl:TE} (hl:PE X l tl):PI X tg l (Y7 X.K tl):=by
 intro pins s σ H R I h
 refine eY (hl pins s σ H _ I h) fun v s1 ⟨x,H1,I1,r1,q1⟩=>?_
 obtain ⟨a,e,q⟩:=q1
 subst e
 cases r1
 have fo:∀ b∈[s1.heap.objs.size],kY X pins H1 b:=fun b hb=>by
  have e:b=s1.heap.objs.size:=by simpa using hb
  subst e
  exact I1.DW (Nat.le_refl _) (I1.hok.fresh (Nat.le_refl _))
 rcases q with ⟨⟨xs,hq⟩,q⟩ | ⟨⟨xs,hq⟩,q⟩
 ·obtain ⟨its,rv,p,hz⟩:=I1.list hq
  refine wpAny_pyIter_list p.isList ?_
  exact ⟨s1.heap.objs.size,[s1.heap.objs.size],_,_,H1,rfl,I1.kept (t':=s1.toks) fun b o e=>Heap.get?_push_of_some _ e,vJ a _,⟨_,Heap.get?_push_size _ rfl,rfl,rfl⟩,fo,q⟩
 ·obtain ⟨its,rv,p,hz⟩:=I1.tuple hq
  refine wpAny_pyIter_tuple (show s1.heap.IsTuple a its.toArray from p) ?_
  exact ⟨s1.heap.objs.size,[s1.heap.objs.size],_,_,H1,rfl,I1.kept (t':=s1.toks) fun b o e=>Heap.get?_push_of_some _ e,sO a _,⟨_,Heap.get?_push_size _ rfl,rfl,rfl⟩,fo,q⟩
end L2
namespace Hw
open PySem PySem.Spec
def lt (a b:Str):Bool:=ltCps a.cps.toList b.cps.toList
theorem Lo:∀ a:List Nat,ltCps a a=false
 | []=>rfl
 | x::r=>by simp [ltCps,Lo r]
theorem Df:∀ a b c:List Nat,ltCps a b=true→ltCps b c=true→ltCps a c=true
 | [],[],_,h,_=>by simp [ltCps] at h
 | [],_::_,[],_,h=>by simp [ltCps] at h
 | [],_::_,_::_,_,_=>rfl
 | _::_,[],_,h,_=>by simp [ltCps] at h
 | _::_,_::_,[],_,h=>by simp [ltCps] at h
 | x::a,y::b,z::c,h,g=>by
  simp only [ltCps,Bool.or_eq_true,Bool.and_eq_true,decide_eq_true_eq,beq_iff_eq] at h g ⊢
  rcases h with h | ⟨h,h'⟩ <;> rcases g with g | ⟨g,g'⟩
  ·left;omega
  ·left;omega
  ·left;omega
  ·right;exact ⟨by omega,Df a b c h' g'⟩
theorem Lm:∀ a b:List Nat,ltCps a b=true∨a=b∨ltCps b a=true
 | [],[]=>.inr (.inl rfl)
 | [],_::_=>.inl rfl
 | _::_,[]=>.inr (.inr rfl)
 | x::a,y::b=>by
  simp only [ltCps,Bool.or_eq_true,Bool.and_eq_true,decide_eq_true_eq,beq_iff_eq,List.cons.injEq]
  rcases Nat.lt_trichotomy x y with h | h | h
  ·exact .inl (.inl h)
  ·rcases Lm a b with g | g | g
   ·exact .inl (.inr ⟨h,g⟩)
   ·exact .inr (.inl ⟨h,g⟩)
   ·exact .inr (.inr (.inr ⟨h.symm,g⟩))
  ·exact .inr (.inr (.inl h))
theorem nC (a:Str):lt a a=false:=Lo _
theorem lt_trans {a b c:Str}:lt a b=true→lt b c=true→lt a c=true:=Df _ _ _
theorem uc (a b:Str):lt a b=true∨a=b∨lt b a=true:=by
 rcases Lm a.cps.toList b.cps.toList with h | h | h
 ·exact .inl h
 ·refine .inr (.inl ?_)
  obtain ⟨⟨x⟩⟩:=a;obtain ⟨⟨y⟩⟩:=b
  have h:x=y:=h
  rw [h]
 ·exact .inr (.inr h)
theorem CG {a b:Str} (h:lt a b=true):a≠b:=fun e=>by rw [e,nC] at h;cases h
theorem not_lt_trans {a b c:Str} (h:lt b a=false) (g:lt c b=false):lt c a=false:=by
 rcases uc c a with e | e | e
 ·rcases uc b a with k | k | k
  ·rw [h] at k;cases k
  ·rw [k] at g;rw [g] at e;cases e
  ·rw [lt_trans e k] at g;cases g
 ·rw [e];exact nC a
 ·cases q:lt c a with
  | false=>rfl
  | true=>have:=lt_trans e q;rw [nC] at this;cases this
abbrev Ps:=List (Str×Int)
def eO:Ps→(Str→Int)→Int
 | [],_=>0
 | p::r,f=>p.2*f p.1+eO r f
theorem eK:∀ (a b:Ps) (f:Str→Int),eO (a++b) f=eO a f+eO b f
 | [],b,f=>by simp [eO]
 | p::a,b,f=>by simp only [List.cons_append,eO,eK a b f];omega
theorem GS {a b:Ps} (h:a.Perm b) (f:Str→Int):eO a f=eO b f:=by
 induction h with
 | nil=>rfl
 | cons x _ ih=>simp only [eO,ih]
 | swap x y l=>simp only [eO];omega
 | trans _ _ i j=>exact i.trans j
theorem lO (k:Int):∀ (a:Ps) (f:Str→Int),eO (a.map fun p=>(p.1,p.2*k)) f=eO a f*k
 | [],f=>by simp [eO]
 | p::a,f=>by
  simp only [List.map_cons,eO,lO k a f,Int.add_mul]
  rw [Int.mul_assoc,Int.mul_comm k,← Int.mul_assoc]
theorem rP:∀ (a:Ps) (f:Str→Int),eO (a.map fun p=>(p.1,-p.2)) f=-eO a f
 | [],f=>by simp [eO]
 | p::a,f=>by
  simp only [List.map_cons,eO,rP a f,Int.neg_mul];omega
theorem nD:∀ (a:Ps) (f:Str→Int),eO (a.filter fun p=>decide (p.2≠0)) f=eO a f
 | [],f=>rfl
 | p::a,f=>by
  by_cases h:p.2=0
  ·rw [List.filter_cons_of_neg (by simp [h]),nD a f,eO,h];simp
  ·rw [List.filter_cons_of_pos (by simp [h]),eO,eO,nD a f]
structure Canon (a:Ps):Prop where
 up:a.Pairwise fun p q=>lt p.1 q.1=true
 nz:∀ p∈a,p.2≠0
def ind (t:Str):Str→Int:=fun s=>if s=t then 1 else 0
theorem oM {t:Str}:∀ {a:Ps},(∀ p∈a,p.1≠t)→eO a (ind t)=0
 | [],_=>rfl
 | p::a,h=>by
  have h1:p.1≠t:=h p (List.mem_cons_self ..)
  rw [eO,oM (a:=a) fun q hq=>h q (List.mem_cons_of_mem _ hq)]
  simp [ind,h1]
theorem Canon.tail {p:Str×Int} {a:Ps} (c:Canon (p::a)):Canon a:=⟨(List.pairwise_cons.mp c.up).2,fun q hq=>c.nz q (List.mem_cons_of_mem _ hq)⟩
theorem Canon.head {p:Str×Int} {a:Ps} (c:Canon (p::a)):eO (p::a) (ind p.1)=p.2:=by
 rw [eO,oM fun q hq=>(CG ((List.pairwise_cons.mp c.up).1 q hq)).symm]
 simp [ind]
theorem Canon.low {t:Str} {p:Str×Int} {a:Ps} (c:Canon (p::a)) (h:lt t p.1=true):eO (p::a) (ind t)=0:=by
 refine oM fun q hq=>?_
 rcases List.mem_cons.mp hq with rfl | hq
 ·exact (CG h).symm
 ·exact (CG (lt_trans h ((List.pairwise_cons.mp c.up).1 q hq))).symm
theorem Canon.same:∀ {a b:Ps},Canon a→Canon b→(∀ f,eO a f=eO b f)→a=b
 | [],[],_,_,_=>rfl
 | [],p::b,_,cb,h=>by
  have e:=h (ind p.1)
  rw [cb.head] at e
  exact absurd e.symm (cb.nz p (List.mem_cons_self ..))
 | p::a,[],ca,_,h=>by
  have e:=h (ind p.1)
  rw [ca.head] at e
  exact absurd e (ca.nz p (List.mem_cons_self ..))
 | p::a,q::b,ca,cb,h=>by
  rcases uc p.1 q.1 with g | g | g
  ·have e:=h (ind p.1)
   rw [ca.head,cb.low g] at e
   exact absurd e (ca.nz p (List.mem_cons_self ..))
  ·have e:=h (ind p.1)
   rw [ca.head,g,cb.head] at e
   have pq:p=q:=Prod.ext g e
   subst pq
   rw [Canon.same ca.tail cb.tail fun f=>by have:=h f;simp only [eO] at this;omega]
  ·have e:=h (ind q.1)
   rw [cb.head,ca.low g] at e
   exact absurd e.symm (cb.nz q (List.mem_cons_self ..))
def mK (a b:Ps):Prop:=Canon b∧∀ f,eO b f=eO a f
theorem mK.same {a b a' b':Ps} (h:mK a b) (h':mK a' b') (e:∀ f,eO a f=eO a' f):b=b':=h.1.same h'.1 fun f=>by rw [h.2,h'.2,e]
theorem Canon.nil:Canon []:=⟨.nil,fun _ h=>nomatch h⟩
def get (d:Ps) (t:Str):Int:=((d.find? fun p=>decide (p.1=t)).map (·.2)).getD 0
def put (d:Ps) (t:Str) (n:Int):Ps:=if (d.any fun p=>decide (p.1=t))=true then d.map (fun p=>if p.1=t then (p.1,n) else p) else d++[(t,n)]
def keys (d:Ps):List Str:=d.map (·.1)
theorem jW (p:Str×Int) (r:Ps) (t:Str):get (p::r) t=if p.1=t then p.2 else get r t:=by
 unfold get
 by_cases e:p.1=t
 ·simp [List.find?_cons,e]
 ·simp [List.find?_cons,e]
theorem rQ (d:Ps) (t:Str):(d.any fun p=>decide (p.1=t))=true↔t∈keys d:=by
 unfold keys
 rw [List.any_eq_true,List.mem_map]
 constructor
 ·rintro ⟨p,h,e⟩;exact ⟨p,h,of_decide_eq_true e⟩
 ·rintro ⟨p,h,e⟩;exact ⟨p,h,decide_eq_true e⟩
theorem Bl:∀ {d:Ps} {t:Str},t ∉ keys d→get d t=0
 | [],_,_=>rfl
 | p::r,t,h=>by
  have h':p.1≠t∧t ∉ keys r:=by
   constructor
   ·intro e;exact h (by unfold keys;rw [List.map_cons,e];exact List.mem_cons_self ..)
   ·intro e;exact h (List.mem_cons_of_mem _ e)
  rw [jW,if_neg h'.1,Bl h'.2]
theorem zL (d:Ps) (t:Str) (n:Int):keys (put d t n)=if t∈keys d then keys d else keys d++[t]:=by
 unfold put
 by_cases h:t∈keys d
 ·rw [if_pos ((rQ d t).mpr h),if_pos h]
  unfold keys
  rw [List.map_map]
  refine List.map_congr_left fun p _=>?_
  show (if p.1=t then (p.1,n) else p).1=p.1
  split <;> rfl
 ·rw [if_neg (fun e=>h ((rQ d t).mp e)),if_neg h]
  unfold keys
  rw [List.map_append];rfl
theorem DH {d:Ps} {t:Str} {n:Int} (h:(keys d).Nodup):(keys (put d t n)).Nodup:=by
 rw [zL]
 by_cases e:t∈keys d
 ·rw [if_pos e];exact h
 ·rw [if_neg e,List.nodup_append]
  refine ⟨h,by simp,fun x hx y hy=>?_⟩
  rw [List.mem_singleton] at hy
  rw [hy];rintro rfl;exact e hx
theorem JX (d:Ps) (t:Str) (n:Int):(put d t n).length≤d.length+1:=by
 have h:(keys (put d t n)).length≤(keys d).length+1:=by
  rw [zL];split
  ·omega
  ·simp
 simpa [keys] using h
theorem zF (t:Str) (n:Int) (f:Str→Int):∀ {d:Ps},(keys d).Nodup→t∈keys d→eO (d.map fun p=>if p.1=t then (p.1,n) else p) f=eO d f+(n - get d t)*f t
 | [],_,h=>by simp [keys] at h
 | p::r,nd,h=>by
  have Ma:p.1 ∉ keys r∧(keys r).Nodup:=List.nodup_cons.mp nd
  rw [List.map_cons,eO,eO,jW]
  by_cases e:p.1=t
  ·have hr:r.map (fun p=>if p.1=t then (p.1,n) else p)=r:=by
    refine (List.map_congr_left fun q hq=>?_).trans (List.map_id r)
    rw [if_neg];rfl
    intro z
    exact Ma.1 (by rw [e,← z];exact List.mem_map.mpr ⟨q,hq,rfl⟩)
   rw [hr,if_pos e,if_pos e,Int.sub_mul]
   show n*f p.1+_=_
   rw [e];omega
  ·have ht:t∈keys r:=(List.mem_cons.mp h).resolve_left fun z=>e z.symm
   rw [if_neg e,if_neg e,zF t n f Ma.2 ht];omega
theorem JW {d:Ps} (t:Str) (n:Int) (f:Str→Int) (nd:(keys d).Nodup):eO (put d t n) f=eO d f+(n - get d t)*f t:=by
 unfold put
 by_cases h:t∈keys d
 ·rw [if_pos ((rQ d t).mpr h),zF t n f nd h]
 ·rw [if_neg (fun e=>h ((rQ d t).mp e)),eK,Bl h];simp [eO]
def step (d:Ps) (p:Str×Int):Ps:=put d p.1 (get d p.1+p.2)
structure Tab (pre d:Ps):Prop where
 nd:(keys d).Nodup
 len:d.length≤pre.length
 eO:∀ f,eO d f=eO pre f
theorem Tab.nil:Tab [] []:=⟨.nil,Nat.le_refl _,fun _=>rfl⟩
theorem Tab.step {pre d:Ps} (h:Tab pre d) (p:Str×Int):Tab (pre++[p]) (step d p):=by
 refine ⟨DH h.nd,?_,fun f=>?_⟩
 ·have:=JX d p.1 (get d p.1+p.2);have:=h.len;simp;unfold Hw.step;omega
 ·unfold Hw.step
  rw [JW _ _ _ h.nd,eK,h.eO]
  simp only [Hw.eO]
  have:get d p.1+p.2 - get d p.1=p.2:=by omega
  rw [this];omega
theorem zG:∀ {d:Ps} (f:Str→Int),(keys d).Nodup→eO ((keys d).map fun t=>(t,get d t)) f=eO d f
 | [],_,_=>rfl
 | p::r,f,nd=>by
  have Ma:p.1 ∉ keys r∧(keys r).Nodup:=List.nodup_cons.mp nd
  show eO ((p.1,get (p::r) p.1)::(keys r).map fun t=>(t,get (p::r) t)) f=_
  have e:((keys r).map fun t=>(t,get (p::r) t))=(keys r).map fun t=>(t,get r t):=by
   refine List.map_congr_left fun t ht=>?_
   rw [jW,if_neg (fun z=>Ma.1 (by rw [z];exact ht))]
  rw [e,eO,zG f Ma.2,jW,if_pos rfl,eO]
def outs (d:Ps) (ys:List Str):Ps:=(ys.map fun t=>(t,get d t)).filter fun p=>decide (p.2≠0)
theorem Tab.gat {pre d:Ps} {ys:List Str} (h:Tab pre d) (hp:ys.Perm (keys d)) (hs:ys.Pairwise fun a b=>lt b a=false):mK pre (outs d ys):=by
 have nd:ys.Nodup:=hp.nodup_iff.mpr h.nd
 have up:ys.Pairwise fun a b=>lt a b=true:=by
  have:=hs.and nd
  refine this.imp fun {a b} q=>?_
  rcases uc a b with e | e | e
  ·exact e
  ·exact absurd e q.2
  ·rw [q.1] at e;cases e
 refine ⟨⟨?_,fun p hp=>?_⟩,fun f=>?_⟩
 ·unfold outs
  refine List.Pairwise.filter _ ?_
  rw [List.pairwise_map];exact up
 ·exact of_decide_eq_true (List.mem_filter.mp hp).2
 ·unfold outs
  rw [nD,GS (hp.map _),zG f h.nd,h.eO]
end Hw
namespace L2
open PySem PySem.Spec PyProof.Rows
section
variable {X:Cx}
theorem qF:∀ (p:Str) (l:List Str),risingS p l=true→(p::l).Pairwise fun a b=>Hw.lt b a=false
 | p,[],_=>by simp
 | p,x::r,h=>by
  have h:(!ltCps x.cps.toList p.cps.toList && risingS x r)=true:=h
  rw [Bool.and_eq_true,Bool.not_eq_true'] at h
  have ih:=qF x r h.2
  refine List.pairwise_cons.mpr ⟨fun y hy=>?_,ih⟩
  rcases List.mem_cons.mp hy with rfl | hy
  ·exact h.1
  ·exact Hw.not_lt_trans h.1 ((List.pairwise_cons.mp ih).1 y hy)
theorem oh:∀ (l:List Str),sortedS l=true→l.Pairwise fun a b=>Hw.lt b a=false
 | [],_=>.nil
 | x::r,h=>qF x r h
theorem mV:∀ {ss:List Str} {us:List Value},StrsAre us ss→Vals (ss.map V.str) us
 | _,_,.nil=>.nil
 | _,_,.cons x t h=>.cons ⟨t,rfl⟩ (mV h)
theorem qG:∀ {ss:List Str} {us:List Value},Vals (ss.map V.str) us→StrsAre us ss:=by
 intro ss
 induction ss with
 | nil=>intro us r;rw [List.map_nil] at r;cases r;exact .nil
 | cons x ss ih =>
  intro us r
  rw [List.map_cons] at r
  cases r with
  | cons r1 r2 =>
   obtain ⟨t,e⟩:=r1
   subst e
   exact .cons x t (ih r2)
theorem qC:∀ {xs:List V} {us:List Value},xs.length=us.length→(∀ (i:Nat) x,xs[i]?=some x→∃ u,us[i]?=some u∧RelV x u)→Vals xs us
 | [],[],_,_=>.nil
 | [],_::_,h,_=>by simp at h
 | _::_,[],h,_=>by simp at h
 | x::xs,u::us,h,g=>by
  obtain ⟨v,e,r⟩:=g 0 x rfl
  cases e
  exact .cons r (qC (by simpa using h) fun i y hy=>g (i+1) y hy)
theorem dh.here {P:Program} {w:World} {H:Hp} {h:Heap} {a:Addr} {o:HO} (x:dh P w H h a o):∃ u,h.get? a=some u:=by
 cases o with
 | lst xs=>obtain ⟨_,_,_,_,e⟩:=x;exact ⟨_,e⟩
 | tup xs=>obtain ⟨_,_,_,o,e,_⟩:=x;exact ⟨_,e⟩
 | dK kvs=>obtain ⟨_,_,_,_,o,_,_,e,_⟩:=x;exact ⟨_,e⟩
 | dT kvs=>obtain ⟨_,_,_,_,o,_,_,e,_⟩:=x;exact ⟨_,e⟩
 | set S n=>obtain ⟨o,_,_,_,e,_⟩:=x;exact ⟨_,e⟩
 | ins C dx fs=>obtain ⟨_,_,_,e,_⟩:=x;exact ⟨_,e⟩
 | own y=>obtain ⟨_,e⟩:=x;exact ⟨_,e⟩
 | xd fs=>obtain ⟨_,⟨_,_,_,e,_⟩,_⟩:=x;exact ⟨_,e⟩
 | Sg lo hi=>obtain ⟨_,_,_,e⟩:=x;exact ⟨_,e⟩
 | zQ ob u=>obtain ⟨e,_⟩:=x;exact ⟨_,e⟩
 | KW ps=>exact ⟨_,(show h.get? a=some _ from x)⟩
 | met f y=>exact ⟨_,(show h.get? a=some _ from x)⟩
 | ext φ=>obtain ⟨_,⟨_,e⟩,_⟩:=x;exact ⟨_,e⟩
theorem Inv.GV {pins:List (Addr×Obj)} {σ:St} {H:Hp} {s:Shared} {h':Heap} {a:Addr} {o:HO} {t':Nat} (I:Inv X pins σ H s) (k:∀ b u,s.heap.get? b=some u→h'.get? b=some u) (hp:∀ b u,s.heap.get? b=some u→b≠a) (new:dh X.prog X.w (upd H a o) h' a o) :
  H a=none∧Inv X pins σ (upd H a o) { s with heap:=h',toks:=t' }:=by
 have hn:H a=none:=by
  cases q:H a with
  | none=>rfl
  | some u=>obtain ⟨v,e⟩:=(I.hok a u q).here;exact absurd rfl (hp a v e)
 refine ⟨hn,I.un ⟨fun b u e _ _ _=>k b u e,fun b u e _ _ _=>⟨u.slots,k b u e⟩,fun b u e n _=>by rw [aL (hp b u e)];exact n,fun b u e _=>⟨u,k b u e⟩,fun b xs e=>by rw [aL (aF e hn)];exact e,fun b u xs e=>by rw [aL (aF e hn)];exact e,fun b ps e=>⟨#[],by rw [aL (aF e hn),e];simp⟩⟩ fun b u e=>?_⟩
 by_cases hb:b=a
 ·subst hb;rw [ah] at e;cases e;exact new
 ·rw [aL hb] at e
  exact (I.hok b u e).stay (fun c v _ q=>k c v q) (fun c q=>by rw [aL (aF q hn)];exact q) fun c xs q=>by rw [aL (aF q hn)];exact q
theorem yw (hc:X.calm=true):jG X (.builtin "sorted") (fun xs H Q=>∃ p kvs ss,xs=[.ref p]∧H p=some (.dK kvs)∧kvs.map (·.1)=List.map (Sum.inr:Str→Key) ss∧kvs.length < 64 ∧
  ∀ l ys,H l=none→List.Perm ys ss→ys.Pairwise (fun a b=>Hw.lt b a=false)→Q (.ref l) (upd H l (.lst (ys.map V.str)))):=by
 intro pins s σ H xs us Q I r h
 obtain ⟨p,kvs,ss,rfl,hp,hk,h64,q⟩:=h
 obtain ⟨u,rfl,ru⟩:=vals1 r
 cases ru
 obtain ⟨hz,lo,vs,rel,dd⟩:=wo I.hok (.inl hp)
 obtain ⟨ep,hat⟩:=dd.dictAt
 have Zm:=rel.length
 refine Calls.call_function_entry kind_sorted plain_sorted entry_sorted (args_sorted1 _) ?_
 unfold Builtin.«sorted»
 refine wpAny_bind (m:=checkCount "sorted" 1 1 _) (wpAny_pure (wpAny_bind (PySem.W.kdu_collect (A:=X.A.in1) (PySem.W.kdl_dict (knd:=bY X.prog X.w) (kvs:=vs) (ep:=ep) lo) (I.ok.hd hc) hat (by rw [← Zm];exact hz) fun h' tk acc kp hacc=>?_)))
 have hS:StrsAre acc.toList ss:=by
  refine qG (qC ?_ fun i x hx=>?_)
  ·have:(kvs.map (·.1)).length=(List.map (Sum.inr:Str→Key) ss).length:=by rw [hk]
   rw [List.length_map,List.length_map] at this
   have el:acc.toList.length=kvs.length:=by rw [Array.length_toList,hacc.1,← Zm]
   rw [List.length_map,el,this]
  ·rw [List.getElem?_map] at hx
   cases e:ss[i]? with
   | none=>rw [e] at hx;cases hx
   | some y =>
    rw [e] at hx
    cases hx
    have hi:i < acc.size:=by
     have h1:i < ss.length:=(List.getElem?_eq_some_iff.mp e).1
     have:(kvs.map (·.1)).length=(List.map (Sum.inr:Str→Key) ss).length:=by rw [hk]
     rw [List.length_map,List.length_map] at this
     rw [hacc.1];omega
    obtain ⟨k,x,hv,hkk⟩:=hacc.2 i acc[i] (by simp)
    have ek:(vs.map (·.1))[i]?=some (Sum.inr y):=by rw [← rel.keys,hk,List.getElem?_map,e];rfl
    rw [List.getElem?_map,hv] at ek
    have ek:k=Sum.inr y:=Option.some.inj ek
    subst ek
    rcases dR (show uq (Sum.inr y) acc[i]=true from hkk) with ⟨_,_,z,_⟩ | ⟨z,t,z1,z2⟩
    ·cases z
    ·cases z1
     exact ⟨acc[i],by simp,t,z2⟩
 have hla:acc.toList.length < 64:=by rw [Array.length_toList,hacc.1,← Zm];exact h64
 refine wpAny_bind (wpAny_newList ?_ (by
   have:64≤sizeLine:=by rw [sizeLine_eq];decide
   omega))
 have ho:(h'.push (seqObj "list" acc.toList.toArray 0)).get? h'.objs.size=some (seqObj "list" acc.toList.toArray 0):=Heap.get?_push_size _ rfl
 refine wpAny_bind (wpAny_holding (wpAny_call_entry slot_list_sort ⟨_,ho,rfl⟩ entry_list_sort (list_sort_treeK (s:={ s with heap:=h'.push (seqObj "list" acc.toList.toArray 0),toks:=tk }) strKind_oneLt ho hS.keysOf (fun v1 v2 rest e=>keyKind_strs (by rw [← e];exact hS)) hla fun st' a1 a2=>⟨_,rfl,?_⟩) (args_list_sort _)))
 obtain ⟨ss',b1,b2,b3⟩:=sorted_out_str hS a1 a2
 obtain ⟨e,he⟩:=sortedHeap_at (out:=(arrOf st').map (·.2)) ho
 have hss:(ss'.map V.str).length≤sizeLine:=by
  have h1:64≤sizeLine:=by rw [sizeLine_eq];decide
  have h2:(ss'.map V.str).length=acc.toList.length:=by rw [List.length_map,b2.length_eq,← StrsAre.length hS]
  rw [h2]
  exact Nat.le_trans (Nat.le_of_lt hla) h1
 have L:=I.GV (h':=sortedHeap (h'.push (seqObj "list" acc.toList.toArray 0)) h'.objs.size acc.toList ((arrOf st').map (·.2))) (a:=h'.objs.size) (o:=.lst (ss'.map V.str)) (t':=tk)
  (fun b u q=>by
   have l:=Heap.lt_size (kp b u q)
   rw [sortedHeap_old (Nat.ne_of_lt l) (by rw [Heap.size_push];exact Nat.lt_succ_of_lt l)]
   exact Heap.get?_push_of_some _ (kp b u q))
  (fun b u q=>Nat.ne_of_lt (Heap.lt_size (kp b u q)))
  ⟨hss,((arrOf st').map (·.2)).toList,e,mV b1,by rw [Array.toArray_toList];exact he⟩
 exact wpAny_pure ⟨_,rfl,.ref h'.objs.size,_,L.2,rfl,q _ ss' L.1 b2 (oh _ b3)⟩
def EJ (K:PySem.W.Frag) (H:Hp):Nat→V→V→Prop
 | 0,x,y=>gj x=true∧x=y
 | n+1,x,y=>(gj x=true∧x=y)∨∃ a b xs ys,x=.ref a∧y=.ref b∧((bz K H a xs∧bz K H b ys)∨(cR K H a xs∧cR K H b ys))∧Paired (EJ K H n) xs ys
theorem Ia {x:V} (h:gj x=true):Qw x x=true:=by
 cases x with
 | gc=>rfl
 | bl b=>simp [Qw]
 | int i=>simp [Qw]
 | str z=>simp [Qw]
 | _=>cases h
theorem zf {F:V→V→Prop}:∀ {xs ys:List V},Paired F xs ys→∀ {i:Nat} {x y:V},xs[i]?=some x→ys[i]?=some y→F x y
 | _,_,.nil,_,_,_,e,_=>by simp at e
 | _,_,.cons r t,0,_,_,e,e'=>by simp at e e';rw [← e,← e'];exact r
 | _,_,.cons r t,i+1,_,_,e,e'=>zf t (by simpa using e) (by simpa using e')
theorem kE {K:PySem.W.Frag} {n:Nat} {H:Hp} {A:Around} {s:Shared} {xs ys:List V} {us vs:List Value} (p:Paired (EJ K H n) xs ys) (r:Vals xs us) (r':Vals ys vs)
  (ih:∀ x y u v,RelV x u→RelV y v→EJ K H n x y→SeqAt.EqAt A s u v true):∀ (j:Nat) (h1:j < us.toArray.size) (h2:j < vs.toArray.size),SeqAt.EqAt A s us.toArray[j] vs.toArray[j] true:=by
 intro j h1 h2
 have l1:=r.length
 have l2:=r'.length
 simp only [List.size_toArray] at h1 h2
 have e1:xs[j]?=some xs[j]:=List.getElem?_eq_getElem (by omega)
 have e2:ys[j]?=some ys[j]:=List.getElem?_eq_getElem (by omega)
 obtain ⟨u,hu,ru⟩:=r.get e1
 obtain ⟨v,hv,rv⟩:=r'.get e2
 have hu':us.toArray[j]=u:=by
  rw [List.getElem?_eq_getElem h1] at hu;simpa using hu
 have hv':vs.toArray[j]=v:=by
  rw [List.getElem?_eq_getElem h2] at hv;simpa using hv
 rw [hu',hv']
 exact ih _ _ u v ru rv (zf p e1 e2)
theorem uK (n:Nat):((List.range n).all fun _=>true)=true:=by rw [List.all_eq_true];intro _ _;rfl
theorem like_eq {pins:List (Addr×Obj)} {σ:St} {H:Hp} {s:Shared} (I:Inv X pins σ H s):∀ (n:Nat) (A:Around),A.units+n < cLine→∀ x y u v,RelV x u→RelV y v→EJ X.K H n x y→SeqAt.EqAt A s u v true:=by
 intro n
 have flat:∀ (A:Around) (x y:V) (u v:Value),RelV x u→RelV y v→gj x=true∧x=y→SeqAt.EqAt A s u v true:=by
  rintro A x y u v ru rv ⟨f,rfl⟩
  have:=MZ (A:=A) (s:=s) ru rv f f
  rw [Ia f] at this
  exact this
 induction n with
 | zero=>intro A hu x y u v ru rv h;exact flat A x y u v ru rv h
 | succ n ih =>
  intro A hu x y u v ru rv h
  rcases h with h | ⟨a,b,xs,ys,rfl,rfl,h,p⟩
  ·exact flat A x y u v ru rv h
  ·cases ru
   cases rv
   have ih':=ih A.in1 (by show A.units+1+n < cLine;omega)
   by_cases hab:a=b
   ·subst hab;exact SeqAt.EqAt.same _
   ·refine .of_refs hab ?_
    have lp:xs.length=ys.length:=Paired.length p
    rcases h with ⟨ha,hb⟩ | ⟨ha,hb⟩
    ·obtain ⟨us,r1,p1,_⟩:=I.list ha
     obtain ⟨vs,r2,p2,_⟩:=I.list hb
     have l1:=r1.length
     have l2:=r2.length
     have:=SeqAt.RcAt.lists (A:=A) (e:=fun _=>true) p1.isList p2.isList (by simp only [List.size_toArray];omega) (by omega) (kE p r1 r2 ih')
     rw [uK] at this
     exact this
    ·obtain ⟨us,r1,p1,_⟩:=I.tuple ha
     obtain ⟨vs,r2,p2,_⟩:=I.tuple hb
     have l1:=r1.length
     have l2:=r2.length
     have:=SeqAt.RcAt.tuples (A:=A) (e:=fun _=>true) (show s.heap.IsTuple a us.toArray from p1) (show s.heap.IsTuple b vs.toArray from p2) (by omega) (kE p r1 r2 ih')
     have e:(us.toArray.size == vs.toArray.size)=true:=by simp only [List.size_toArray,beq_iff_eq];omega
     rw [uK,e] at this
     exact this
def OR (K:PySem.W.Frag) (n:Nat) (k:Bool):R2:=fun x y H Q=>∃ a b xs ys,x=.ref a∧y=.ref b∧((bz K H a xs∧bz K H b ys)∨(cR K H a xs∧cR K H b ys))∧Paired (EJ K H n) xs ys∧Q (.bl k) H
theorem L3 (n:Nat) (hu:X.A.units+1+n < cLine):mJ X (compareOp .Eq) (OR X.K n true):=by
 intro pins s σ H x y v u Q I rx ry h
 obtain ⟨a,b,xs,ys,rfl,rfl,h,p,q⟩:=h
 cases rx
 cases ry
 have ih':=like_eq I n X.A.in1 (by show X.A.units+1+n < cLine;omega)
 have lp:xs.length=ys.length:=Paired.length p
 have fin:EP X pins σ Q (.bool true) s:=⟨.bl true,H,I,rfl,q⟩
 rcases h with ⟨ha,hb⟩ | ⟨ha,hb⟩
 ·obtain ⟨us,r1,p1,_⟩:=I.list ha
  obtain ⟨vs,r2,p2,_⟩:=I.list hb
  have l1:=r1.length
  have l2:=r2.length
  exact SeqAt.eq_listAt (e:=fun _=>true) p1.isList p2.isList (by simp only [List.size_toArray];omega) (by omega) (kE p r1 r2 ih') (by rw [uK];exact fin)
 ·obtain ⟨us,r1,p1,_⟩:=I.tuple ha
  obtain ⟨vs,r2,p2,_⟩:=I.tuple hb
  have l1:=r1.length
  have l2:=r2.length
  have e:(us.toArray.size == vs.toArray.size)=true:=by simp only [List.size_toArray,beq_iff_eq];omega
  exact SeqAt.eq_tupleAt (e:=fun _=>true) (show s.heap.IsTuple a us.toArray from p1) (show s.heap.IsTuple b vs.toArray from p2) (by omega) (kE p r1 r2 ih') (by rw [uK,e];exact fin)
def VG (K:PySem.W.Frag) (c:V):List V→Hp→VK→Prop:=fun vs H Q=>∃ x t u b,vs=[x,c]∧kU K H x t∧RelV c u∧PySem.W.kitOne K t u=some b∧Q (.bl b) H
theorem RelV.Y5 {c:V} {u u':Value} (hc:match c with | .ref _=>True | .ty _=>True | _=>False) (r:RelV c u) (r':RelV c u'):u=u':=by
 cases c with
 | ref a=>cases r;cases r';rfl
 | ty n=>cases r;cases r';rfl
 | _=>exact hc.elim
theorem iK {c:V} (hc:match c with | .ref _=>True | .ty _=>True | _=>False):jG X (.builtin "isinstance") (VG X.K c):=by
 intro pins s σ H xs us Q I r h
 obtain ⟨x,t,u,b,rfl,ty,rc,hb,q⟩:=h
 obtain ⟨w1,w2,rfl,rx,r2⟩:=vals2 r
 rw [RelV.Y5 hc r2 rc]
 exact DQ I rx ty hb fun tk=>⟨.bl b,H,I.tok _,rfl,q⟩
def OU (K:PySem.W.Frag):R2:=fun x y H Q=>∃ a b xs ys,x=.ref a∧y=.ref b∧cR K H a xs∧cR K H b ys∧xs.length+ys.length≤sizeLine ∧
 (xs=[]→Q (.ref b) H)∧(xs≠[]→ys=[]→Q (.ref a) H)∧(xs≠[]→ys≠[]→∀ p,H p=none→Q (.ref p) (upd H p (.tup (xs++ys))))
theorem xN:mJ X (binaryOp .Add) (OU X.K):=by
 intro pins s σ H x y v u Q I rx ry h
 obtain ⟨a,b,xs,ys,rfl,rfl,ha,hb,hz,q0,q1,q2⟩:=h
 by_cases hx:xs=[]
 ·cases rx
  cases ry
  obtain ⟨its,r1,p1,_⟩:=I.tuple ha
  obtain ⟨its2,r2,p2,_⟩:=I.tuple hb
  obtain ⟨⟨cls,dd,data,sl⟩,ho,hc,n,hd⟩:=id p1
  obtain ⟨⟨a09,dd2,data2,sl2⟩,ho2,hc2,n2,hd2⟩:=id p2
  simp only at hc hd hc2 hd2
  subst hc hd hc2 hd2
  have hi:its=[]:=r1.rL.mpr hx
  refine concat_meets ⟨_,ho,rfl⟩ ⟨_,ho2,rfl⟩ noFill_tuple_add seq_tuple_add PySem.F.slot_tuple_add PySem.F.entry_tuple_add (PySem.F.args_tuple_add_2 _ _)
   (tuple_addW0 a b its.toArray its2.toArray n n2 dd dd2 sl sl2 (by simp [hi])) ⟨ho,ho2,?_⟩
  exact ⟨.ref b,H,I,rfl,q0 hx⟩
 ·exact JL pins s σ H _ _ v u Q I rx ry ⟨a,b,xs,ys,rfl,rfl,ha,hb,hx,hz,q1 hx,fun hy=>q2 hx hy⟩
def VE (K:PySem.W.Frag):R2:=fun x y H Q=>∃ p xs k v,x=.ref p∧y=.int (k:Nat)∧bz K H p xs∧xs[k]?=some v∧Q v H
theorem Hq:RL X (VE X.K):=by
 intro pins s σ H o i ov iv Q I ro ri h
 obtain ⟨p,xs,k,v,rfl,rfl,hq,he,q⟩:=h
 cases ro
 obtain ⟨t,rfl⟩:=ri
 obtain ⟨its,r,pl,hz⟩:=I.list hq
 obtain ⟨w,ew,rw'⟩:=r.get he
 have hk:k < xs.length:=(List.getElem?_eq_some_iff.mp he).1
 have hn:=qg
 exact wpAny_getItem_list pl.isList (by omega) (by omega) (by simpa using ew) ⟨v,H,I,rw',q⟩
end
end L2
namespace Hw
open PySem L2
theorem new {H:Hp} {p:Addr} {o:HO} (h:H p=none):aP H (upd H p o):=fun b u e=>by rw [aL (aF e h)];exact e
def cA (d:Addr) (H H':Hp):Prop:=∀ b o,H b=some o→b≠d→H' b=some o
theorem cA.of {d:Addr} {H H':Hp} (h:aP H H'):cA d H H':=fun b o e _=>h b o e
theorem cA.trans {d:Addr} {H H1 H2:Hp} (a:cA d H H1) (b:cA d H1 H2):cA d H H2:=fun c o e n=>b c o (a c o e n) n
theorem cA.upd {d:Addr} {H:Hp} {o:HO}:cA d H (L2.upd H d o):=fun b u e n=>by rw [aL n];exact e
theorem cA.new {d:Addr} {H H1:Hp} {p:Addr} {o:HO} (a:cA d H H1) (h:H1 p=none):cA d H (L2.upd H1 p o):=fun b u e n=>Hw.new h b u (a b u e n)
theorem aP.new {H H1:Hp} {p:Addr} {o:HO} (a:aP H H1) (h:H1 p=none):aP H (L2.upd H1 p o):=a.trans (Hw.new h)
theorem cA.same {d:Addr} {H H1:Hp} (a:cA d H H1) (h:H d=none):aP H H1:=fun b u e=>a b u e (aF e h)
def Pr (H:Hp) (v:V) (p:Str×Int):Prop:=∃ a,v=.ref a∧H a=some (.tup [.str p.1,.int p.2])
abbrev vB (H:Hp):List V→Ps→Prop:=Paired (Pr H)
theorem Pr.keep {H H':Hp} {v:V} {p:Str×Int} (h:∀ a xs,H a=some (.tup xs)→H' a=some (.tup xs)) (x:Pr H v p):Pr H' v p:=let ⟨a,e,q⟩:=x;⟨a,e,h _ _ q⟩
theorem vB.keep {H H':Hp} {vs:List V} {ps:Ps} (h:∀ a xs,H a=some (.tup xs)→H' a=some (.tup xs)) (x:vB H vs ps):vB H' vs ps:=L2.Paired.dX x fun _ _ q=>q.keep h
def Lp (H:Hp) (a:Addr) (ps:Ps):Prop:=∃ vs,H a=some (.lst vs)∧vB H vs ps
def Tp (H:Hp) (a:Addr) (ps:Ps):Prop:=∃ vs,H a=some (.tup vs)∧vB H vs ps
theorem Lp.same {H H':Hp} {a:Addr} {ps:Ps} (h:Lp H a ps) (s:aP H H'):Lp H' a ps:=let ⟨vs,e,q⟩:=h;⟨vs,s _ _ e,q.keep fun _ _ z=>s _ _ z⟩
theorem Tp.same {H H':Hp} {a:Addr} {ps:Ps} (h:Tp H a ps) (s:aP H H'):Tp H' a ps:=let ⟨vs,e,q⟩:=h;⟨vs,s _ _ e,q.keep fun _ _ z=>s _ _ z⟩
theorem cA.tups {d:Addr} {H H':Hp} (b:cA d H H') {xs:List V} (hd:H d=some (.lst xs)):∀ a ys,H a=some (.tup ys)→H' a=some (.tup ys):=fun a ys e=>b a _ e fun z=>by rw [z,hd] at e;cases e
theorem Ge {H:Hp}:∀ {vs:List V} {ps:Ps},vB H vs ps→∀ {i:Nat} {v:V},vs[i]?=some v→∃ p,ps[i]?=some p∧Pr H v p
 | _,_,.nil,_,_,e=>by simp at e
 | _,_,.cons r t,0,_,e=>by simp at e;subst e;exact ⟨_,rfl,r⟩
 | _,_,.cons r t,i+1,_,e=>Ge t (i:=i) (by simpa using e)
theorem d7 {H:Hp} {vs:List V} {ps:Ps} (h:vB H vs ps):vs.length=ps.length:=Paired.length h
theorem gk {H:Hp}:∀ {vs ws:List V} {ps qs:Ps},vB H vs ps→vB H ws qs→vB H (vs++ws) (ps++qs)
 | _,_,_,_,.nil,s=>s
 | _,_,_,_,.cons r t,s=>.cons r (gk t s)
theorem gH {H:Hp} {v:V} {p:Str×Int} (h:Pr H v p):vB H [v] [p]:=.cons h .nil
theorem v5 {K:PySem.W.Frag} {H:Hp} {n:Nat}:∀ {vs:List V},vs.all gj=true→Paired (EJ K H n) vs vs
 | [],_=>.nil
 | x::r,h=>by
  rw [List.all_cons,Bool.and_eq_true] at h
  refine .cons ?_ (v5 h.2)
  cases n with
  | zero=>exact ⟨h.1,rfl⟩
  | succ n=>exact .inl ⟨h.1,rfl⟩
def enc (d:Ps):List (Key×V):=d.map fun p=>(Sum.inr p.1,V.int p.2)
theorem Ic (d:Ps):(enc d).map (·.1)=List.map (Sum.inr:Str→Key) (keys d):=by
 unfold enc keys
 rw [List.map_map,List.map_map];rfl
theorem C4 (d:Ps):(enc d).length=d.length:=List.length_map ..
theorem yi (t:Str):∀ d:Ps,mU (enc d) (Sum.inr t)=if t∈keys d then some (V.int (get d t)) else none
 | []=>by simp [enc,mU,keys]
 | p::r=>by
  have ih:=yi t r
  show mU ((Sum.inr p.1,V.int p.2)::enc r) (Sum.inr t)=_
  by_cases e:p.1=t
  ·rw [nS (by simp [e]),jW,if_pos e,if_pos (by simp [keys,e])]
  ·have e':¬ t=p.1:=fun z=>e z.symm
   have hk:t∈keys (p::r)↔t∈keys r:=by
    unfold keys
    rw [List.map_cons,List.mem_cons]
    exact ⟨fun h=>h.resolve_left e',.inr⟩
   rw [nU (by simpa using e),ih,jW,if_neg e]
   simp only [hk]
theorem Ie (d:Ps) (t:Str):(mU (enc d) (Sum.inr t)).getD (V.int 0)=V.int (get d t):=by
 rw [yi]
 by_cases h:t∈keys d
 ·rw [if_pos h];rfl
 ·rw [if_neg h,Bl h];rfl
theorem Kq (d:Ps) (t:Str):((enc d).any fun kv=>decide (kv.1=(Sum.inr t:Key)))=d.any fun p=>decide (p.1=t):=by
 unfold enc
 rw [List.any_map]
 congr 1
 funext p
 simp
theorem Ko (d:Ps) (t:Str) (n:Int):putK (enc d) (Sum.inr t) (V.int n)=enc (put d t n):=by
 unfold putK put
 rw [Kq]
 split
 ·unfold enc
  rw [List.map_map,List.map_map]
  refine List.map_congr_left fun p _=>?_
  by_cases e:p.1=t
  ·simp [e]
  ·simp [e]
 ·unfold enc
  rw [List.map_append];rfl
def qE (t:Addr) (n:Int):List (Str×V):=kq "number" (.int n) (kq "terms" (.ref t) [])
theorem nt:¬ (("number":Str)="terms"):=by decide +kernel
theorem tn:¬ (("terms":Str)="number"):=by decide +kernel
theorem cF (t:Addr) (n:Int):(qE t n).lookup ("terms":Str)=some (.ref t):=by
 unfold qE
 rw [fO,if_neg tn,fO,if_pos rfl]
theorem bX (t:Addr) (n:Int):(qE t n).lookup ("number":Str)=some (.int n):=by
 unfold qE
 rw [fO,if_pos rfl]
theorem eS (t:Addr) (n:Int) {m:Str} (h1:¬ m="terms") (h2:¬ m="number"):(qE t n).lookup m=none:=by
 unfold qE
 rw [fO,if_neg h2,fO,if_neg h1]
 all_goals rfl
def cJ (C:Addr) (H:Hp) (p:Addr) (ts:Ps) (n:Int):Prop:=∃ dx t,H p=some (.ins C dx (qE t n))∧Tp H t ts∧ts.length≤1000
theorem cJ.same {C:Addr} {H H':Hp} {p:Addr} {ts:Ps} {n:Int} (h:cJ C H p ts n) (s:aP H H'):cJ C H' p ts n:=let ⟨dx,t,e,q,z⟩:=h;⟨dx,t,s _ _ e,q.same s,z⟩
end Hw
namespace Hw
open PySem L2
def Dn (P:Program) (w:World) (K:PySem.W.Frag) (mg:Str→Option Value) (base:Heap) (k:Nat) (x:Str) (ps:List Str) (sp:Sp):Prop :=
 ∃ (f:Addr) (fd:FuncData),cL P w K mg base iB k f fd ps sp∧mg x=some (.ref f)∧PySem.W.keepIn K (.ref f)=true∧Binds K fd ps []
def Mt (P:Program) (w:World) (K:PySem.W.Frag) (mg:Str→Option Value) (base:Heap) (k:Nat) (C:Addr) (m:Str) (ps:List Str) (sp:Sp):Prop :=
 ∃ (f:Addr) (fd:FuncData),cL P w K mg base iB k f fd ps sp∧Meth K C m f∧Binds K fd ps []
def Mr (P:Program) (w:World) (K:PySem.W.Frag) (mg:Str→Option Value) (base:Heap) (k:Nat) (C:Addr) (ps:List Str) (sp:Sp):Prop :=
 ∃ (f:Addr) (fd:FuncData),cL P w K mg base iB k f fd ps sp∧Mk K C f∧Binds K fd ps []
structure Txt (K:PySem.W.Frag) (mg:Str→Option Value) (C:Addr):Prop where
 cl:Jd K C
 nT:lY K C "terms"
 nN:lY K C "number"
 ua:mg "Sum"=some (.ref C)
 len:mg "len"=none
 sum:mg "sum"=none
 sorted:mg "sorted"=none
 list:mg "list"=none
 tuple:mg "tuple"=none
 isinstance:mg "isinstance"=none
 range:mg "range"=none
 abs:mg "abs"=none
 str:mg "str"=none
 int:mg "int"=none
 dict:mg "dict"=none
 ca:PySem.W.findIn K (.ref C) "__class__"=some (some (.builtin "object.__class__"))
 cg:PySem.W.specialIn K (.builtin "object.__class__") "__get__"=some (some (.builtin "getset_descriptor.__get__"))
 ct:PySem.W.takesIn K (.builtin "object.__class__")=some true
 cm:PySem.W.mroIn K C (.type "object")=some true
 kS:PySem.W.kitOne K (.ref C) (.ref C)=some true
 kT:PySem.W.kitOne K (.type "tuple") (.type "tuple")=some true
theorem Txt.ins {K:PySem.W.Frag} {mg:Str→Option Value} {C:Addr} (T:Txt K mg C) {H:Hp} {a dx:Addr} {fs:List (Str×V)} (e:H a=some (.ins C dx fs)):kU K H (.ref a) (.ref C):=.ins e T.cl T.ca T.cg T.ct T.cm
def Sq (H:Hp) (a:Addr) (ps:Ps):Prop:=Lp H a ps∨Tp H a ps
theorem Sq.same {H H':Hp} {a:Addr} {ps:Ps} (h:Sq H a ps) (s:aP H H'):Sq H' a ps:=h.elim (fun z=>.inl (z.same s)) fun z=>.inr (z.same s)
def tD (C:Addr):Sp:=fun vs H Q _=>∃ (p dx l:Addr) (n:Int) (ps:Ps),vs=[.ref p,.ref l,.int n]∧H p=some (.ins C dx [])∧Sq H l ps∧ps.length≤1000 ∧
 ∀ H',cA p H H'→cJ C H' p ps n→Q .gc H'
def ef (C:Addr):Sp:=fun vs H Q _=>∃ (a:Addr) (n:Int) (ps:Ps),vs=[.ref a,.int n]∧Sq H a ps∧ps.length < 64 ∧
 ∀ (r:Addr) (ts:Ps) (H':Hp),aP H H'→mK ps ts→ts.length≤ps.length→cJ C H' r ts n→Q (.ref r) H'
def pO (C:Addr):Sp:=fun vs H Q _=>∃ (p q:Addr) (a b:Ps) (n m:Int),vs=[.ref p,.ref q]∧cJ C H p a n∧cJ C H q b m∧a.length+b.length < 64 ∧
 ∀ (r:Addr) (ts:Ps) (H':Hp),aP H H'→mK (a++b) ts→ts.length≤a.length+b.length→cJ C H' r ts (n+m)→Q (.ref r) H'
def nW (C:Addr):Sp:=fun vs H Q _=>∃ (p:Addr) (a:Ps) (n k:Int),vs=[.ref p,.int k]∧cJ C H p a n∧a.length < 64∧(-(2 ^ 64) < k∧k < 2 ^ 64) ∧
 ∀ (r:Addr) (ts:Ps) (H':Hp),aP H H'→mK (a.map fun p=>(p.1,p.2*k)) ts→ts.length≤a.length→cJ C H' r ts (n*k)→Q (.ref r) H'
def xx (C:Addr):Sp:=fun vs H Q _=>∃ (p q:Addr) (a b:Ps) (n m:Int),vs=[.ref p,.ref q]∧cJ C H p a n∧cJ C H q b m∧a.length+b.length < 64 ∧
 ∀ (r:Addr) (ts:Ps) (H':Hp),aP H H'→mK (a++b.map fun p=>(p.1,-p.2)) ts→ts.length≤a.length+b.length→cJ C H' r ts (n - m)→Q (.ref r) H'
end Hw
namespace Hw
open PySem L2
structure Kp (H H':Hp):Prop where
 l:∀ b xs,H b=some (.lst xs)→H' b=some (.lst xs)
 t:∀ b xs,H b=some (.tup xs)→H' b=some (.tup xs)
theorem Kp.refl {H:Hp}:Kp H H:=⟨fun _ _ h=>h,fun _ _ h=>h⟩
theorem Kp.of {H H':Hp} (s:aP H H'):Kp H H':=⟨fun _ _ h=>s _ _ h,fun _ _ h=>s _ _ h⟩
theorem Kp.but {d:Addr} {H H':Hp} (s:cA d H H') (hl:∀ xs,H d≠some (.lst xs)) (ht:∀ xs,H d≠some (.tup xs)):Kp H H' :=
 ⟨fun b xs h=>s b _ h fun z=>hl xs (z ▸ h),fun b xs h=>s b _ h fun z=>ht xs (z ▸ h)⟩
theorem take_snoc {α:Type} {l:List α} {i:Nat} {x:α} (h:l[i]?=some x):l.take (i+1)=l.take i++[x]:=by
 rw [List.take_add_one,h];rfl
theorem get_some {H:Hp} {vs:List V} {ps:Ps} (r:vB H vs ps) {i:Nat} {v:V} (h:vs[i]?=some v):∃ p,ps[i]?=some p∧Pr H v p:=Ge r h
theorem gK {K:PySem.W.Frag} {a:Addr} {ps:Ps} {g:TG} {tt:TT} {te:TE} {σ0:St} {H:Hp} {R:List V→Hp→Prop} (h:Tp H a ps) (Pv:Nat→List V→Hp→Prop) (h0:Pv 0 [] H) (hS:∀ i ys H',Pv i ys H'→Kp H H')
  (hs:∀ i v p ys H',ps[i]?=some p→Pr H' v p→Pv i ys H'→g v σ0 H' fun σ2 H2=>Ext σ0 σ2∧tt σ2 H2 fun b H3=>if b=true then te σ2 H3 fun v H4=>ys.length < sizeLine∧Pv (i+1) (ys++[v]) H4 else Pv (i+1) ys H3)
  (hd:∀ ys H',Pv ps.length ys H'→R ys H'):(∃ xs,cR K H a xs)∧∃ W:Nat→Nat→List V→Hp→Prop,(∃ m,W 0 m [] H)∧mQ (Fc K a) g tt te σ0 W R:=by
 obtain ⟨vs,e,r⟩:=h
 refine ⟨⟨vs,cR.of e⟩,Ae (xs:=vs) Pv h0 (fun i ys H' _ p=>cR.of ((hS i ys H' p).t _ _ e)) (fun i v ys H' hi p=>?_) ?_⟩
 ·obtain ⟨q,hq,pr⟩:=get_some r hi
  exact hs i v q ys H' hq (pr.keep (hS i ys H' p).t) p
 ·rw [d7 r];exact hd
theorem Kz {K:PySem.W.Frag} {a:Addr} {ps:Ps} {g:TG} {tt:TT} {te:TE} {σ0:St} {H:Hp} {R:List V→Hp→Prop} (h:Sq H a ps) (Pv:Nat→List V→Hp→Prop) (h0:Pv 0 [] H) (hS:∀ i ys H',Pv i ys H'→Kp H H')
  (hs:∀ i v p ys H',ps[i]?=some p→Pr H' v p→Pv i ys H'→g v σ0 H' fun σ2 H2=>Ext σ0 σ2∧tt σ2 H2 fun b H3=>if b=true then te σ2 H3 fun v H4=>ys.length < sizeLine∧Pv (i+1) (ys++[v]) H4 else Pv (i+1) ys H3)
  (hd:∀ ys H',Pv ps.length ys H'→R ys H'):((∃ xs,bz K H a xs)∧∃ W:Nat→Nat→List V→Hp→Prop,(∃ m,W 0 m [] H)∧mQ (IF K a) g tt te σ0 W R)∨((∃ xs,cR K H a xs)∧∃ W:Nat→Nat→List V→Hp→Prop,(∃ m,W 0 m [] H)∧mQ (Fc K a) g tt te σ0 W R):=by
 rcases h with h | h
 ·obtain ⟨vs,e,r⟩:=h
  refine .inl ⟨⟨vs,bz.of e⟩,iy (xs:=vs) Pv h0 (fun i ys H' _ p=>bz.of ((hS i ys H' p).l _ _ e)) (fun i v ys H' hi p=>?_) ?_⟩
  ·obtain ⟨q,hq,pr⟩:=get_some r hi
   exact hs i v q ys H' hq (pr.keep (hS i ys H' p).t) p
  ·rw [d7 r];exact hd
 ·exact .inr (gK h Pv h0 hS hs hd)
abbrev KP (J:It) (g:TG) (tb:TS) (D:Ends) (σ:St) (H:Hp):Prop:=∃ W:Nat→Nat→St→Hp→Prop,(∃ m,W 0 m σ H)∧∀ i m σ H,W i m σ H →
 (J.stop i H∧D.nx σ H)∨(J.go i H∧∃ N:St→Hp→Prop,(∀ σ' H',N σ' H'→∃ m',m' < m∧W (i+1) m' σ' H')∧∀ x H',J.KS i H x H'→g x σ H' fun σ2 H2=>tb { D with nx:=N,ct:=N,bk:=D.nx } σ2 H2)
theorem MG {K:PySem.W.Frag} {a:Addr} {ps:Ps} {g:TG} {tb:TS} {D:Ends} {σ:St} {H:Hp} (h:Sq H a ps) (Pv:Nat→St→Hp→Prop) (h0:Pv 0 σ H) (hS:∀ i σ H',Pv i σ H'→Kp H H')
  (hs:∀ i v p σ H',ps[i]?=some p→Pr H' v p→Pv i σ H'→g v σ H' fun σ2 H2=>tb { D with nx:=Pv (i+1),ct:=Pv (i+1),bk:=D.nx } σ2 H2) (hd:∀ σ H',Pv ps.length σ H'→D.nx σ H') :
  ((∃ xs,bz K H a xs)∧KP (IF K a) g tb D σ H)∨((∃ xs,cR K H a xs)∧KP (Fc K a) g tb D σ H):=by
 rcases h with ⟨vs,e,r⟩ | ⟨vs,e,r⟩
 ·refine .inl ⟨⟨vs,bz.of e⟩,zS (xs:=vs) Pv h0 (fun i σ H' _ p=>bz.of ((hS i σ H' p).l _ _ e)) (fun i v σ H' hi p=>?_) ?_⟩
  ·obtain ⟨q,hq,pr⟩:=get_some r hi
   exact hs i v q σ H' hq (pr.keep (hS i σ H' p).t) p
  ·rw [d7 r];exact hd
 ·refine .inr ⟨⟨vs,cR.of e⟩,CV (xs:=vs) Pv h0 (fun i σ H' _ p=>cR.of ((hS i σ H' p).t _ _ e)) (fun i v σ H' hi p=>?_) ?_⟩
  ·obtain ⟨q,hq,pr⟩:=get_some r hi
   exact hs i v q σ H' hq (pr.keep (hS i σ H' p).t) p
  ·rw [d7 r];exact hd
theorem line (n:Nat) (h:n≤100000):n < sizeLine:=by rw [sizeLine_eq];omega
theorem szl (n:Nat) (h:n≤100000:=by decide):n≤sizeLine:=Nat.le_of_lt (line n h)
theorem Cj {H:Hp} {d:Addr} {x y:HO}:upd (upd H d x) d y=upd H d y:=by
 funext b
 by_cases e:b=d
 ·subst e;rw [ah,ah]
 ·rw [aL e,aL e,aL e]
theorem Kp.dict {H:Hp} {d:Addr} {x y:List (Key×V)}:Kp (upd H d (.dK x)) (upd H d (.dK y)):=by
 constructor
 ·intro b xs h
  by_cases e:b=d
  ·subst e;rw [ah] at h;cases h
  ·rw [aL e] at h ⊢;exact h
 ·intro b xs h
  by_cases e:b=d
  ·subst e;rw [ah] at h;cases h
  ·rw [aL e] at h ⊢;exact h
theorem zv {H:Hp} {d:Addr} {e:Ps} {t:Str} (h:H d=some (.dK (enc e))) (m:t∈keys e):vE H d (.str t) (some (.int (get e t))):=by
 have q:=vE.k (k:=(Sum.inr t:Key)) h
 rw [yi,if_pos m] at q
 exact q
theorem vV (e:Ps) (ys:List Str) (y:Str):outs e (ys++[y])=outs e ys++if get e y=0 then [] else [(y,get e y)]:=by
 unfold outs
 rw [List.map_append,List.filter_append]
 congr 1
 by_cases h:get e y=0
 ·rw [if_pos h];simp [h]
 ·rw [if_neg h];simp [h]
theorem tQ (e:Ps) (ys:List Str):(outs e ys).length≤ys.length:=by
 unfold outs
 exact Nat.le_trans (List.length_filter_le _ _) (by rw [List.length_map];exact Nat.le_refl _)
end Hw
namespace L2
open PySem PySem.Spec PyProof.Rows
section
variable {X:Cx} {K:PySem.W.Frag}
theorem oQ (h:X.K=K):Fb X (LS K):=h ▸ aI
theorem xY (h:X.K=K):Fb X (LR K):=h ▸ ic
theorem uG (h:X.K=K):jG X (.type "tuple") (fun xs H Q=>∃ p ys,xs=[.ref p]∧((bz K H p ys∧∀ l,H l=none→Q (.ref l) (upd H l (.tup ys)))∨(cR K H p ys∧Q (.ref p) H))):=h ▸ dS
theorem vp (h:X.K=K):jG X (.type "list") (fun xs H Q=>∃ p ys,xs=[.ref p]∧(bz K H p ys∨cR K H p ys)∧∀ l,H l=none→Q (.ref l) (upd H l (.lst ys))):=h ▸ cV
theorem iP {es:List Expr} {k:Nat} {t:Jb} {n:Nat} {pos:Pos} (hK:X.K=K) (hc:X.calm=true) (h:Ob X es t) (hn:(assignEach es X.env).length=n:=by rfl) (hst:(assignEach es X.env).findIdx? (·.1)=none:=by rfl) :
  PG X (.Tuple es k pos) (Qc K n t):=hK ▸ xH hc h hn hst
theorem kR {σ:St} {H:Hp} {F G:Hp→Prop} (h:F H):Cm σ H (fun b H3=>if b=true then F H3 else G H3):=by
 show if true=true then F H else G H
 exact cT h
def strsOf:List Expr→Option (List Str)
 | []=>some []
 | .Constant (.str x) _ _::r=>(strsOf r).map (x::·)
 | _=>none
def Oq (xs:List Str):TA:=fun _ H Q=>Q (xs.map V.str) H
theorem CB:∀ {es:List Expr} {xs:List Str},strsOf es=some xs→PA X es (Oq xs)
 | [],xs,h=>by
  cases h
  exact ai
 | e::r,xs,h=>by
  unfold strsOf at h
  split at h
  ·rename_i he;cases he
  ·rename_i x j pos r' he
   cases he
   cases q:strsOf r with
   | none=>rw [q] at h;cases h
   | some ys =>
    rw [q] at h
    cases h
    have ih:=CB q
    exact af cB ih rfl
  ·cases h
end
end L2
namespace Hw
open PySem L2
theorem uL {A:Around} {k n:Nat} (hr:iL k A) (h:n≤60:=by decide):A.units+1+n < cLine:=by have:=hr.units;omega
theorem uN {A:Around} {k:Nat} (hr:iL k A):A.units < cLine:=by have:=hr.units;omega
def Dr (H:Hp) (d:Addr):Prop:=∃ a b:Int,H d=some (.lst [.int a,.int b])
theorem Dr.same {H H':Hp} {d:Addr} (h:Dr H d) (s:aP H H'):Dr H' d:=let ⟨a,b,e⟩:=h;⟨a,b,s _ _ e⟩
def rG:Sp:=fun vs H Q _=>∃ c k:Int,vs=[.int c,.int k]∧∀ r:Int,0≤r→r < 2147483399→Q (.int r) H
def AA (K:PySem.W.Frag):Sp:=fun vs H Q _=>∃ (a:Addr) (ns:List Int) (k:Nat),vs=[.ref a,.int k]∧bz K H a (ns.map V.int)∧∀ r:Int,Q (.int r) H
def iX:Sp:=fun vs H Q _=>∃ (d:Addr) (n:Int),vs=[.ref d,.int n]∧Dr H d∧0 < n∧∀ (r:Nat) (H':Hp),(r:Int) < n→cA d H H'→Dr H' d→Q (.int r) H'
def Cq (K:PySem.W.Frag):Sp:=fun vs H Q _=>∃ (a:Addr) (ns:List Int),vs=[.ref a]∧bz K H a (ns.map V.int)∧ns.length≤63∧∀ H',Q (.bl true) H'
end Hw
namespace Hw
open PySem L2
theorem CH (K:PySem.W.Frag) (C:Addr):PySem.W.kitOne K (.ref C) (.ref C)=some true:=by
 unfold PySem.W.kitOne
 rw [if_pos (by simp)]
theorem JZ (K:PySem.W.Frag):PySem.W.kitOne K (.type "tuple") (.type "tuple")=some true:=by
 unfold PySem.W.kitOne
 rw [if_pos (by simp)]
end Hw
namespace L2
open PySem PySem.Spec PyProof.Rows
section
variable {X:Cx} {K:PySem.W.Frag}
def LU (K:PySem.W.Frag):R2:=fun x y H Q=>∃ a b xs,x=.ref a∧y=.ref b∧cR K H a xs∧cR K H b []∧Q (.bl (decide (xs=[]))) H
theorem Gu (hu:X.A.units < cLine):mJ X (compareOp .Eq) (LU X.K):=by
 intro pins s σ H x y v u Q I rx ry h
 obtain ⟨a,b,xs,rfl,rfl,ha,hb,q⟩:=h
 cases rx
 cases ry
 obtain ⟨us,r1,p1,_⟩:=I.tuple ha
 obtain ⟨vs,r2,p2,_⟩:=I.tuple hb
 cases r2
 refine SeqAt.eq_tupleAt (e:=fun _=>true) (show s.heap.IsTuple a us.toArray from p1) (show s.heap.IsTuple b ([]:List Value).toArray from p2) hu (fun j h1 h2=>absurd h2 (by simp)) ?_
 have e:((List.range (min us.toArray.size ([]:List Value).toArray.size)).all (fun _=>true) && us.toArray.size == ([]:List Value).toArray.size)=decide (xs=[]):=by
  have l:=r1.length
  rw [uK,Bool.true_and]
  by_cases hx:xs=[]
  ·subst hx
   cases r1
   simp
  ·rw [decide_eq_false hx]
   have:us≠[]:=fun z=>hx (by rw [z] at l;exact List.length_eq_zero_iff.mp l)
   cases us with
   | nil=>exact absurd rfl this
   | cons _ _=>simp
 rw [e]
 exact ⟨.bl _,H,I,rfl,q⟩
end
end L2
namespace HT
open PySem PySem.Spec PyProof.Rows
section
variable {prog:Program} {w:World} {A:Around} {E:Value→Shared→Prop} {s:Shared}
end
end HT
namespace L2
open PySem PySem.Spec PyProof.Rows
section
variable {X:Cx} {K:PySem.W.Frag}
end
end L2
namespace L2
open PySem PySem.Spec PyProof.Rows
section
variable {X:Cx} {K:PySem.W.Frag}
variable {o e:Expr} {to:TE} {apos cpos:Pos}
def LQ (K:PySem.W.Frag):R2:=fun x y H Q=>∃ a b xs,x=.ref a∧y=.ref b∧bz K H a xs∧bz K H b []∧Q (.bl (!decide (xs=[]))) H
theorem zg (hu:X.A.units < cLine):mJ X (compareOp .NotEq) (LQ X.K):=by
 intro pins s σ H x y v u Q I rx ry h
 obtain ⟨a,b,xs,rfl,rfl,ha,hb,q⟩:=h
 cases rx
 cases ry
 obtain ⟨us,r1,p1,_⟩:=I.list ha
 obtain ⟨vs,r2,p2,_⟩:=I.list hb
 cases r2
 have l1:=r1.length
 by_cases hx:xs=[]
 ·rw [decide_eq_true hx] at q
  subst hx
  cases r1
  exact SeqAt.RcNeAt.lists (A:=X.A) (e:=fun _=>true) p1.isList p2.isList rfl hu (fun j h1 h2=>absurd h2 (by simp)) _ _ _ _ ⟨.bl false,H,I,rfl,q⟩
 ·rw [decide_eq_false hx] at q
  have:us≠[]:=fun z=>hx (by rw [z] at l1;exact List.length_eq_zero_iff.mp l1)
  refine SeqAt.RcNeAt.lists_lengths (A:=X.A) p1.isList p2.isList ?_ hu _ _ _ _ ⟨.bl true,H,I,rfl,q⟩
  cases us with
  | nil=>exact absurd rfl this
  | cons _ _=>simp
end
end L2
namespace L2
open PySem PySem.Spec PyProof.Rows
section
variable {X:Cx} {e:Expr} {te:TE}
end
end L2
namespace Hw
open PySem L2
theorem DY (xs:List Str):(xs.map V.str).all gj=true:=by rw [List.all_map,List.all_eq_true];intro _ _;rfl
theorem Dr.ne {H:Hp} {d l:Addr} (h:Dr H d) (n:H l=none):l≠d:=let ⟨_,_,e⟩:=h;(aF e n).symm
end Hw
namespace Hw
open PySem L2
theorem e9:(10:Int) ^ Int.toNat 9=1000000000:=by decide
end Hw
namespace Hw
open PySem L2
def Small (i:Int):Prop:=-(2 ^ 60) < i∧i < 2 ^ 60
end Hw
namespace Hw
open PySem L2
section
variable {C:Addr} {H H':Hp} {tl pq q0 q1 hq du u0 u1 sl sa sb:Addr} {xs:List Str} {ps0 t0 t1:Ps} {h0 h1:Int}
end
theorem bR {α β:Type} {F:α→β→Prop}:∀ {xs:List α} {ys:List β} {a:α} {b:β},Paired F xs ys→F a b→Paired F (xs++[a]) (ys++[b])
 | _,_,_,_,.nil,h=>.cons h .nil
 | _,_,_,_,.cons r t,h=>.cons r (bR t h)
def pk {α:Type} (i:Nat) (a b:α):α:=match i with | 0=>a | _=>b
theorem mK.keys {ps ts:Ps} (g:mK ps ts) {t:Str} (h:t∈keys ts):t∈keys ps:=by
 obtain ⟨p,hp,rfl⟩:=List.mem_map.mp h
 have e:eO ts (ind p.1)=p.2:=by
  have up:=g.1.up
  have nz:=g.1.nz
  clear g h
  induction ts with
  | nil=>cases hp
  | cons q r ih =>
   rcases List.mem_cons.mp hp with z | z
   ·subst z
    exact Canon.head ⟨up,nz⟩
   ·have l:lt q.1 p.1=true:=(List.pairwise_cons.mp up).1 p z
    rw [eO,ih z (List.pairwise_cons.mp up).2 fun s hs=>nz s (List.mem_cons_of_mem _ hs)]
    simp [ind,CG l]
 refine Classical.byContradiction fun n=>?_
 have z:eO ps (ind p.1)=0:=oM fun q hq e'=>n (by rw [← e'];exact List.mem_map.mpr ⟨q,hq,rfl⟩)
 rw [g.2] at e
 rw [z] at e
 exact g.1.nz p hp e.symm
end Hw
namespace Hw
open PySem L2
theorem bf {α β:Type} {F:α→β→Prop}:∀ {vs:List α} {ps:List β},Paired F vs ps→∀ {i:Nat} {v:α},vs[i]?=some v→∃ p,ps[i]?=some p∧F v p
 | _,_,.nil,_,_,e=>by simp at e
 | _,_,.cons r t,0,_,e=>by simp at e;subst e;exact ⟨_,rfl,r⟩
 | _,_,.cons r t,i+1,_,e=>bf t (i:=i) (by simpa using e)
theorem J0 (K:PySem.W.Frag):PySem.W.kitOne K (.type "str") (.type "str")=some true:=by
 unfold PySem.W.kitOne
 rw [if_pos (by simp)]
end Hw
namespace Hw
open PySem L2
abbrev Sb:=List (Str×Ps×Int)
def Rl (P:Addr→Ps×Int→Prop) (kvs:List (Key×V)) (S:Sb):Prop:=Paired (fun (kv:Key×V) (s:Str×Ps×Int)=>kv.1=Sum.inr s.1∧∃ u,kv.2=V.ref u∧P u s.2) kvs S
def Lt3 (ts:Ps):Prop:=ts.length≤3∧∀ p∈ts,Small p.2
end Hw
namespace Hw
open PySem L2
structure Nn (o:HO):Prop where
 t:∀ xs,o≠.tup xs
 i:∀ C dx fs,o≠.ins C dx fs
theorem LK {xs:List V}:Nn (.lst xs):=⟨fun _ z=>(by cases z),fun _ _ _ z=>(by cases z)⟩
section
variable {H H':Hp} {z:Addr} {o:HO}
theorem cA.tupS (b:cA z H H') (hz:H z=some o) (so:Nn o):∀ a xs,H a=some (.tup xs)→H' a=some (.tup xs):=fun a xs e=>b a _ e fun q=>by rw [q,hz] at e;exact so.t xs (Option.some.inj e)
end
section
variable {H0 H H':Hp} {d tl ro:Addr} {xs:List Str} {t0:Ps} {n0:Int}
end
end Hw
namespace Hw
open PySem L2
inductive Cd where
 | cmp (a:Ps) (n:Int) (s:Str) (b:Ps) (m:Int)
 | neg (c:Cd)
 | con (k:Bool) (cs:List Cd)
structure Cz where
 s:Addr
 c:Addr
 t:Addr
 e:Addr
 o:Addr
structure aQ (H H':Hp):Prop where
 t:∀ a xs,H a=some (.tup xs)→H' a=some (.tup xs)
 i:∀ a C dx fs,H a=some (.ins C dx fs)→H' a=some (.ins C dx fs)
theorem aQ.of {H H':Hp} (s:aP H H'):aQ H H':=⟨fun _ _ e=>s _ _ e,fun _ _ _ _ e=>s _ _ e⟩
theorem aQ.soft {H H':Hp} {z:Addr} {o:HO} (b:cA z H H') (hz:H z=some o) (so:Nn o):aQ H H' :=
 ⟨b.tupS hz so,fun a C dx fs e=>b _ _ e fun q=>by rw [q,hz] at e;exact so.i _ _ _ (Option.some.inj e)⟩
theorem cJ.aN {H H':Hp} {C p:Addr} {ts:Ps} {n:Int} (h:cJ C H p ts n) (k:aQ H H'):cJ C H' p ts n:=let ⟨dx,t,e,⟨vs,et,r⟩,l⟩:=h;⟨dx,t,k.i _ _ _ _ e,⟨vs,k.t _ _ et,r.keep k.t⟩,l⟩
end Hw
namespace Hw
open PySem L2
end Hw
namespace L2
open PySem PySem.Spec PyProof.Rows Hw
section
variable {X:Cx} {k:Nat} {m:Str} {pos apos:Pos} {o e:Expr} {es:List Expr} {ta:TE} {t:TA} {Z:Cz} {ps:List Str} {sp:Nat→Sp}
end
end L2
namespace Hw
open PySem L2
theorem DX {P:Program} {w:World} {K:PySem.W.Frag} {mg:Str→Option Value} {base:Heap} {k:Nat} {f:Addr} {fd:FuncData} {ps:List Str} {sp:Sp} (h:∀ vs H Q E,¬ sp vs H Q E):cL P w K mg base iB k f fd ps sp :=
 ⟨fun vs H Q E z=>(h vs H Q E z).elim,fun A outer s H args us vs Q E _ _ _ _ z=>(h vs H Q E z).elim⟩
end Hw
namespace Hw
open PySem L2
theorem aA {α β:Type} {R:α→β→Prop}:∀ {xs:List α} {ys:List β},Paired R xs ys→xs.length=ys.length
 | _,_,.nil=>rfl
 | _,_,.cons _ t=>congrArg (·+1) (aA t)
end Hw
namespace L2
open PySem PySem.Spec PyProof.Rows Hw
section
variable {X:Cx} {K:PySem.W.Frag}
theorem o9 (hc:X.calm=true):jG X (.builtin "all") (fun xs H Q=>∃ (p:Addr) (bs:List Bool),xs=[.ref p]∧bz X.K H p (bs.map V.bl)∧Q (.bl (bs.all id)) H):=by
 intro pins s σ H xs us Q I r h
 obtain ⟨p,bs,rfl,hq,q⟩:=h
 obtain ⟨u,rfl,ru⟩:=vals1 r
 cases ru
 obtain ⟨its,rv,pl,hz⟩:=I.list hq
 have lp:p < s.heap.objs.size:=let ⟨o,_,e,_⟩:=pl;Heap.lt_size e
 have hl:=rv.length
 rw [List.length_map] at hl
 refine call_all_walk (wpAny_pyIter_list pl.isList ?_)
 have W:=Walks.list (prog:=X.prog) (w:=X.w) (A:=X.A.in1) (I.ok.hd hc) s.heap.objs.size p (Nat.ne_of_lt lp) its.toArray
 refine ⟨s.heap.objs.size,_,_,_,_,_,(fun i=>(bs[i]?).getD true),rfl,W,⟨⟨_,Heap.get?_push_size _ rfl,rfl,rfl⟩,pl.isList.at fun o e=>Heap.get?_push_of_some _ e⟩,fun i v s' Q' E' hv hQ=>?_,fun h' tk hk=>?_⟩
 ·have hv:its.toArray[i]?=some v:=hv
  have hv:its[i]?=some v:=by simpa using hv
  have hil:i < its.length:=(List.getElem?_eq_some_iff.mp hv).1
  obtain ⟨u,hu,ru⟩:=rv.get (i:=i) (x:=.bl ((bs[i]?).getD true)) (by rw [List.getElem?_map,List.getElem?_eq_getElem (by omega)];rfl)
  rw [hv] at hu
  cases hu
  cases ru
  exact wpAny_truthy_bool hQ
 ·have kp:∀ b o,s.heap.get? b=some o→h'.get? b=some o:=fun b o e =>
   hk b o (fun hI=>absurd (Heap.lt_size e) (by rw [List.mem_singleton.mp hI];exact Nat.lt_irrefl _)) (Heap.get?_push_of_some _ e)
  have e:((List.range its.toArray.size).all fun i=>(bs[i]?).getD true)=bs.all id:=by rw [List.size_toArray,← hl];exact LSm.range_all bs
  rw [e]
  exact ⟨.bl (bs.all id),H,I.kept (t':=tk) kp,rfl,q⟩
end
end L2
namespace Hw
open PySem L2
theorem cM {p:Prop} [Decidable p] {F G:Prop} (h:p) (f:F):if decide p=true then F else G:=by rw [if_pos (decide_eq_true h)];exact f
theorem cN {p:Prop} [Decidable p] {F G:Prop} (h:¬ p) (f:G):if decide p=true then F else G:=by rw [if_neg (by simpa using h)];exact f
theorem Il {i j:Int}:decide (V.int i=V.int j)=decide (i=j):=by
 by_cases h:i=j
 ·subst h;simp
 ·rw [decide_eq_false h,decide_eq_false fun e=>h (V.int.inj e)]
end Hw
namespace Hw
open PySem L2
theorem vY {H:Hp} {x dx:Addr} {o o':HO} (hx:H x=none) (hdx:H dx=none):aP H (upd (upd H dx o) x o'):=fun b u z=>by
 rw [aL (aF z hx),aL (aF z hdx)]
 exact z
end Hw
namespace Hw
open PySem L2
def Gs (xs:List Str) (a:Ps) (n:Int):Prop:=Canon a∧Lt3 a∧(∀ p∈a,p.1∈xs)∧Small n
theorem Dr.soft {H H':Hp} {d:Addr} (h:Dr H d) (b:cA d H H'):aQ H H':=let ⟨x,y,e⟩:=h;aQ.soft b e LK
end Hw
namespace Hw
open PySem L2
end Hw
namespace Hw
open PySem L2
theorem E4 {b:Bool} {F G:Prop} (h:b=true) (f:F):if b=true then F else G:=by rw [if_pos h];exact f
theorem yR {b:Bool} {F G:Prop} (h:b=false) (g:G):if b=true then F else G:=by rw [h];exact dO g
end Hw
namespace L2
open PySem PySem.Spec PyProof.Rows Hw
section
variable {X:Cx} {x:Str} {D:Addr} {kvs:List (Key×V)} {i:Expr} {ty:TE} {p pos:Pos}
end
end L2
namespace Hw
open PySem L2
end Hw
namespace Hw
open PySem L2
end Hw
namespace L2
open PySem PySem.Spec PyProof.Rows Hw
section
variable {X:Cx}
end
end L2
namespace Hw
open PySem L2
abbrev Cs:=List (List (Ps×Int))
end Hw
namespace Hw
open PySem L2
end Hw
namespace Hw
open PySem L2
theorem cu {α β:Type} {F:α→β→Prop}:∀ {xs xs':List α} {ys ys':List β},Paired F xs ys→Paired F xs' ys'→Paired F (xs++xs') (ys++ys')
 | _,_,_,_,.nil,h=>h
 | _,_,_,_,.cons r t,h=>.cons r (cu t h)
end Hw
namespace Hw
open PySem L2
end Hw
namespace Hw
open PySem L2
end Hw
namespace L2
open PySem PySem.Spec PyProof.Rows Hw
section
variable {X:Cx}
def Jz (K:PySem.W.Frag):R2:=fun x y H Q=>∃ a b xs,x=.ref a∧y=.ref b∧bz K H a xs∧bz K H b []∧Q (.bl (decide (xs=[]))) H
theorem Dy (hu:X.A.units < cLine):mJ X (compareOp .Eq) (Jz X.K):=by
 intro pins s σ H x y v u Q I rx ry h
 obtain ⟨a,b,xs,rfl,rfl,ha,hb,q⟩:=h
 cases rx
 cases ry
 obtain ⟨us,r1,p1,_⟩:=I.list ha
 obtain ⟨vs,r2,p2,_⟩:=I.list hb
 cases r2
 have l1:=r1.length
 by_cases hx:xs=[]
 ·rw [decide_eq_true hx] at q
  subst hx
  cases r1
  exact SeqAt.RcAt.lists (A:=X.A) (e:=fun _=>true) p1.isList p2.isList rfl hu (fun j h1 h2=>absurd h2 (by simp)) _ _ _ _ ⟨.bl true,H,I,rfl,q⟩
 ·rw [decide_eq_false hx] at q
  have:us≠[]:=fun z=>hx (by rw [z] at l1;exact List.length_eq_zero_iff.mp l1)
  refine SeqAt.RcAt.lists_lengths (A:=X.A) p1.isList p2.isList ?_ hu _ _ _ _ ⟨.bl false,H,I,rfl,q⟩
  cases us with
  | nil=>exact absurd rfl this
  | cons _ _=>simp
end
end L2
namespace Hw
open PySem L2
end Hw
namespace Hw
open PySem L2
theorem tW {α:Type} [DecidableEq α]:∀ {l m:List α},l.Nodup→(∀ x∈l,x∈m)→l.length≤m.length
 | [],m,_,_=>Nat.zero_le _
 | a::r,m,h,hs=>by
  have ha:a∈m:=hs a (List.mem_cons_self ..)
  have hn:=List.nodup_cons.mp h
  have ih:=tW (m:=m.erase a) hn.2 fun x hx=>by
   have hne:x≠a:=fun e=>hn.1 (e ▸ hx)
   exact (List.mem_erase_of_ne hne).mpr (hs x (List.mem_cons_of_mem _ hx))
  rw [List.length_erase_of_mem ha] at ih
  have:0 < m.length:=List.length_pos_of_mem ha
  show r.length+1≤m.length
  omega
theorem oZ {ts:Ps} (c:Canon ts):(keys ts).Nodup:=by
 unfold keys List.Nodup
 rw [List.pairwise_map]
 exact c.up.imp fun {p q} h e=>by rw [e,nC] at h;cases h
end Hw
namespace Hw
open PySem L2
theorem yk {P:Program} {w:World} {K:PySem.W.Frag} {mg:Str→Option Value} {base:Heap} {x:Str} {ps:List Str} {sp:Nat→Sp} {lv:Nat→Nat} {f:Addr} {fd:FuncData}
  (hm:mg x=some (.ref f)) (hk:PySem.W.keepIn K (.ref f)=true) (hb:Binds K fd ps []) (h0:∀ vs H Q E,¬ sp 0 vs H Q E)
  (hs:∀ n,Dn P w K mg base (lv n) x ps (sp n)→cL P w K mg base iB (lv (n+1)) f fd ps (sp (n+1))):∀ n,Dn P w K mg base (lv n) x ps (sp n)
 | 0=>⟨f,fd,DX h0,hm,hk,hb⟩
 | n+1=>⟨f,fd,hs n (yk hm hk hb h0 hs n),hm,hk,hb⟩
end Hw
namespace L2
open PySem PySem.Spec PyProof.Rows
section
variable {X:Cx} {tg:Expr}
end
end L2
namespace PySem
open L2
theorem JY (t:SetTable) (es:Array (Int×Value)) (h:Int) (x:Value):(layNew t es h x).2.1.led=t.led:=by
 unfold layNew
 split
 ·dsimp only
  rename_i slot wd _
  have e:((t.put slot).1).led=t.led:=rfl
  have o:∀ (u:SetTable) (n:Nat),(u.orStandIn n).led=u.led:=fun u n=>by
   unfold SetTable.orStandIn
   split <;> rfl
  exact (o _ _).trans e
 ·rfl
theorem Dt (t:SetTable) (es:Array (Int×Value)) (k:Nat):(relayAll t es k).2.1.led=t.led∧(t.plain=false→(relayAll t es k).2.1.plain=false):=by
 unfold relayAll
 split
 ·rename_i t' order hr
  dsimp only
  have e:t'.led=t.led∧t'.plain=t.plain:=by
   unfold SetTable.relaid SetTable.laid at hr
   simp only [Option.bind_eq_bind,Option.bind_eq_some_iff,Option.pure_def,Option.some.injEq,Prod.mk.injEq] at hr
   obtain ⟨owner,_,rfl,_⟩:=hr
   exact ⟨rfl,rfl⟩
  split
  ·exact ⟨e.1,fun z=>e.2.trans z⟩
  ·exact ⟨rfl,fun _=>rfl⟩
 ·exact ⟨rfl,fun _=>rfl⟩
def strOf:Value→Str
 | .str z _=>z
 | _=>Str.empty
def kN (prog:Program) (w:World) (h:Heap) (a:Addr) (zs:List Str):Prop :=
 ∃ o es ep t,h.get? a=some o∧o.ExactSet∧o.data=.set es ep t∧ElemsOf (bY prog w) es.toList∧(∀ e∈es.toList,∃ z k,e.2=Value.str z k)∧es.toList.map (fun e=>strOf e.2)=zs∧zs.Nodup ∧
  es.size < scanBound∧t.fits es.size=true∧t.led=!w.params.followText "set-order"∧(t.plain=false∨es.size=0)
section
variable {prog:Program} {w:World} {A:Around} {E:Value→Shared→Prop} {s:Shared}
theorem kN.store {h:Heap} {a:Addr} {o:Obj} {es:Array (Int×Value)} {ep:Nat} {t:SetTable} (ho:h.get? a=some o) (hex:o.ExactSet) (hd:o.data=.set es ep t) {es':Array (Int×Value)} {t':SetTable}
  (h1:ElemsOf (bY prog w) es'.toList) (h2:∀ e∈es'.toList,∃ z k,e.2=Value.str z k) (h3:(es'.toList.map fun e=>strOf e.2).Nodup) (h4:es'.size < scanBound) (h5:t'.fits es'.size=true) (h6:t'.led=!w.params.followText "set-order") (h7:t'.plain=false) :
  (h.update a (Obj.putSet es' t')).get? a=some { o with data:=.set es' (ep+1) t' }∧kN prog w (h.update a (Obj.putSet es' t')) a (es'.toList.map fun e=>strOf e.2):=by
 have hg:(h.update a (Obj.putSet es' t')).get? a=some { o with data:=.set es' (ep+1) t' }:=by
  have:=Heap.get?_update_self (Obj.putSet es' t') ho (by rw [putSet_of es' t' hd];rfl)
  rw [putSet_of es' t' hd] at this;exact this
 exact ⟨hg,_,es',ep+1,t',hg,hex,rfl,h1,h2,rfl,h3,h4,h5,h6,.inl h7⟩
theorem G1 {x z:Str} {k:Tok}:(bY prog w).is (Sum.inr x) (.str z k)=decide (z=x):=by
 by_cases e:z=x
 ·subst e
  rw [iI,decide_eq_true rfl]
 ·rw [decide_eq_false e]
  cases q:(bY prog w).is (Sum.inr x) (.str z k) with
  | false=>rfl
  | true=>exact absurd (Sum.inr.inj ((bY prog w).inj _ _ _ q (iI prog w z k))) fun z=>e z.symm
theorem Jv {a:Addr} {zs:List Str} {x:Str} {k:Tok} {Q:Bool→Shared→Prop} (hS:kN prog w s.heap a zs) (hroom:zs.length+1 < scanBound)
  (h:∀ h' zs',Heap.SameBut a s.heap h'→kN prog w h' a zs'→(x∈zs→zs'=zs)→(x ∉ zs→List.Perm zs' (zs++[x]))→Q (!decide (x∈zs)) { s with heap:=h' }) :
  wpAny (model prog w) A (setAddHashed a (.str x k) ((bY prog w).hash (Sum.inr x))) Q E s:=by
 obtain ⟨o,es,ep,t,ho,hex,hd,hel,hst,hzs,hnd,hb,hf,G5,hpl⟩:=id hS
 have hn:es.size=zs.length:=by rw [← hzs,List.length_map,Array.length_toList]
 have hsc:(Value.str x k).scannable=true:=rfl
 have hkey:=iI prog w x k
 unfold setAddHashed setAddHashedIn
 refine wpAny_holding (wpAny_bind (wpAny_setState_of ho hd hf ?_))
 dsimp only
 rw [byScan_of hsc hb hel]
 simp only [↓reduceIte]
 unfold setAddByScan
 refine wpAny_bind ?_
 refine wpAny_bind (wpAny_rule ?_)
 refine wpAny_bind (wpAny_setScan_of hkey ho hd hf hel ?_)
 have mem:x∈zs↔∃ e∈es.toList,(bY prog w).is (Sum.inr x) e.2=true:=by
  rw [← hzs,List.mem_map]
  constructor
  ·rintro ⟨e,he,q⟩
   obtain ⟨z,k',e2⟩:=hst e he
   refine ⟨e,he,?_⟩
   rw [e2] at q ⊢
   rw [G1]
   exact decide_eq_true q
  ·rintro ⟨e,he,q⟩
   obtain ⟨z,k',e2⟩:=hst e he
   refine ⟨e,he,?_⟩
   rw [e2] at q ⊢
   rw [G1] at q
   exact of_decide_eq_true q
 cases hr:List.findIdx? (fun e=>(bY prog w).is (Sum.inr x) e.2) es.toList with
 | some j =>
  dsimp only
  obtain ⟨hj,hpj,_⟩:=List.findIdx?_eq_some_iff_getElem.mp hr
  have hm:x∈zs:=mem.mpr ⟨es.toList[j],List.getElem_mem hj,hpj⟩
  refine wpAny_pure (wpAny_pure ?_)
  have e:s={ s with heap:=s.heap }:=by cases s;rfl
  have:=h s.heap zs (Heap.SameBut.refl a s.heap) hS (fun _=>rfl) (fun z=>absurd hm z)
  rw [decide_eq_true hm] at this
  rw [e];exact this
 | none =>
  dsimp only
  have hm:x ∉ zs:=fun z=>by
   obtain ⟨e,he,q⟩:=mem.mp z
   have:=List.findIdx?_eq_none_iff.mp hr e he
   rw [q] at this;exact Bool.noConfusion this
  have hgw:∀ (b:Bool) {s₁:Shared} {Q':Unit→Shared→Prop},Q' () s₁→wpAny (model prog w) A (match b with | true=>rule "set.scan.the-table-gave-way" | false=>pure ()) Q' E s₁ :=
   fun b s₁ Q' hq=>by cases b <;> first | exact wpAny_pure hq | exact wpAny_rule hq
  have ur:=layNew_perm t es ((bY prog w).hash (Sum.inr x)) (.str x k)
  have CQ:=layNew_fits t es ((bY prog w).hash (Sum.inr x)) (.str x k)
  have hl:=JY t es ((bY prog w).hash (Sum.inr x)) (.str x k)
  generalize hL:layNew t es ((bY prog w).hash (Sum.inr x)) (.str x k)=L at ur CQ hl ⊢
  obtain ⟨es1,t1,wasDummy,a8u⟩:=L
  dsimp only at ur CQ hl ⊢
  rw [Array.toList_push] at ur
  have hel1:ElemsOf (bY prog w) es1.toList:=(hel.push hkey hsc).perm ur
  have PM:∀ e∈es1.toList,∃ z k,e.2=Value.str z k:=fun e he=>by
   rcases List.mem_append.mp (ur.mem_iff.mp he) with q | q
   ·exact hst e q
   ·rw [List.mem_singleton.mp q];exact ⟨_,_,rfl⟩
  have hz1:List.Perm (es1.toList.map fun e=>strOf e.2) (zs++[x]):=by
   have:=ur.map fun e=>strOf e.2
   rw [List.map_append,hzs] at this
   exact this
  have PZ:(es1.toList.map fun e=>strOf e.2).Nodup:=hz1.nodup_iff.mpr (by
   rw [List.nodup_append]
   refine ⟨hnd,by simp,fun u hu v hv e=>?_⟩
   rw [List.mem_singleton.mp hv] at e
   exact hm (e ▸ hu))
  have hb1:es1.size < scanBound:=by
   rw [← Array.length_toList,ur.length_eq,List.length_append,Array.length_toList]
   simpa [hn] using hroom
  refine wpAny_bind (hgw _ ?_)
  have hend:∀ h' zs',Heap.SameBut a s.heap h'→kN prog w h' a zs'→List.Perm zs' (zs++[x])→Q true { s with heap:=h' }:=by
   intro h' zs' J4 hS' hp
   have:=h h' zs' J4 hS' (fun z=>absurd z hm) (fun _=>hp)
   rw [decide_eq_false hm] at this
   exact this
  have tail:∀ t2:SetTable,t2.fits es1.size=true→t2.led=t.led→t2.plain=false→wpAny (model prog w) A (do
    storeSet a es1 t2
    if (!wasDummy && t2.tooFull)=true then do
      (match (relayAll t2 es1 (SetTable.grown es1.size)).2.2 with | true=>rule "set.scan.the-table-gave-way" | false=>pure ())
      storeSet a (relayAll t2 es1 (SetTable.grown es1.size)).1 (relayAll t2 es1 (SetTable.grown es1.size)).2.1
      pure (some true)
     else pure (some true)) (fun r s'=>wpAny (model prog w) A (match r with | some added=>pure added | none=>setAddHashedIn a (.str x k) ((bY prog w).hash (Sum.inr x)) 99999) Q E s') E s:=by
   intro t2 hf2 hl2 hp2
   refine wpAny_bind (wpAny_storeSet_of ho hd ?_ (fits_of_scanBound hb1))
   obtain ⟨IY,qU⟩:=kN.store (prog:=prog) (w:=w) ho hex hd hel1 PM PZ hb1 hf2 (hl2.trans G5) hp2
   have PN:=Heap.SameBut.update s.heap a (Obj.putSet es1 t2)
   split
   ·have hp:=relayAll_perm t2 es1 (SetTable.grown es1.size)
    have hfr:=relayAll_fits t2 es1 (SetTable.grown es1.size)
    have hlr:=Dt t2 es1 (SetTable.grown es1.size)
    generalize hRl:relayAll t2 es1 (SetTable.grown es1.size)=Rl at hp hfr hlr ⊢
    obtain ⟨es2,t3,a4K⟩:=Rl
    dsimp only at hp hfr hlr ⊢
    have hsz:es2.size=es1.size:=by rw [← Array.length_toList,hp.length_eq,Array.length_toList]
    refine wpAny_bind (hgw _ ?_)
    refine wpAny_bind (wpAny_storeSet_of IY rfl ?_ (fits_of_scanBound (by rw [hsz];exact hb1)))
    obtain ⟨_,Zu⟩:=kN.store (prog:=prog) (w:=w) IY hex rfl (hel1.perm hp) (fun e he=>PM e (hp.mem_iff.mp he)) ((hp.map _).nodup_iff.mpr PZ) (by rw [hsz];exact hb1) hfr (hlr.1.trans (hl2.trans G5)) (hlr.2 hp2)
    exact wpAny_pure (wpAny_pure (hend _ _ (PN.trans (Heap.SameBut.update _ a _)) Zu ((hp.map _).trans hz1)))
   ·exact wpAny_pure (wpAny_pure (hend _ _ PN qU hz1))
  split
  ·refine wpAny_bind ?_
   rw [hashByValue_scannable 8 hsc]
   refine wpAny_pure ?_
   exact tail { t1 with plain:=false } (SetTable.fits_plain_off CQ) hl rfl
  ·rename_i hpp
   refine wpAny_bind (wpAny_pure ?_)
   simp only [↓reduceIte]
   exact tail t1 CQ hl (by simpa using hpp)
end
end PySem
namespace PySem
open L2 PyProof.Rows
section
variable {prog:Program} {w:World} {A:Around} {R:Result→Shared→Prop} {I:Addr} {fp wr:List Addr} {G:Array GenState→Array GenState→Prop} {n:Nat} {P:Nat→Value→Prop} {St:Nat→Shared→Prop}
theorem kN.at {h h':Heap} {a:Addr} {zs:List Str} (x:kN prog w h a zs) (k:∀ o,h.get? a=some o→h'.get? a=some o):kN prog w h' a zs:=by
 obtain ⟨o,es,ep,t,ho,r⟩:=x
 exact ⟨o,es,ep,t,k o ho,r⟩
theorem FP (W:WalksS prog w A.in1 I fp wr G n P St) (S:Addr) (hSf:S ∉ fp) (ss:List Str) (hlen:ss.length=n) (hval:∀ i v,i < n→P i v→∃ t,v=.str (ss.getD i Str.empty) t) (hb:n+1 < scanBound) :
  ∀ (k i:Nat) (s:Shared) (zs:List Str),n - i=k→i≤n→St i s→kN prog w s.heap S zs→zs.length≤i→(∀ x,x∈zs↔x∈ss.take i) →
   (∀ s' zs',Moved (S::wr) G s s'→kN prog w s'.heap S zs'→zs'.length≤n→(∀ x,x∈zs'↔x∈ss)→R (.ok (.ret .none)) s') →
   codeAny (model prog w) A (.builtin "set.update.loop" ⟨[.ref S,.ref I],[]⟩) R s:=by
 have hSw:S ∉ wr:=fun h=>hSf (W.sub _ h)
 have hsub:∀ b∈wr,b∈S::wr:=fun b hb=>List.mem_cons_of_mem _ hb
 intro k
 induction k with
 | zero =>
  intro i s zs hk hi hst hS hl hm hR
  have hin:i=n:=by omega
  subst hin
  refine codeAny_builtin F.entry_set_update_loop ?_
  rw [Around.under_plainId F.plain_set_update_loop _]
  show wpAny _ A.in1 (pyNext (.ref I) >>= _) _ _ s
  refine wpAny_bind (W.done s _ _ hst fun s' P0=>?_)
  show wpAny _ A.in1 (ret Value.none) _ _ s'
  refine wpAny_pure (hR s' zs (P0.mono hsub) (hS.at fun o ho=>P0.heap S _ hSw ho) hl fun x=>?_)
  rw [hm x,← hlen,List.take_length]
 | succ k ih =>
  intro i s zs hk hi hst hS hl hm hR
  have hlt:i < n:=by omega
  refine codeAny_builtin F.entry_set_update_loop ?_
  rw [Around.under_plainId F.plain_set_update_loop _]
  show wpAny _ A.in1 (pyNext (.ref I) >>= _) _ _ s
  refine wpAny_bind (W.item i s _ _ hlt hst fun v s' hP Za P0=>?_)
  obtain ⟨t,rfl⟩:=hval i v hlt hP
  have hS':kN prog w s'.heap S zs:=hS.at fun o ho=>P0.heap S _ hSw ho
  show wpAny _ A.in1 (holding [Value.str (ss.getD i Str.empty) t] (setAdd S (.str (ss.getD i Str.empty) t)) >>= _) _ _ s'
  refine wpAny_bind (wpAny_holding ?_)
  unfold setAdd
  refine wpAny_holding ?_
  refine wpAny_bind ((bY prog w).pyHash (k:=Sum.inr (ss.getD i Str.empty)) (iI _ _ _ _) ?_)
  refine Jv (s:={ s' with toks:=s'.toks+1 }) hS' (by omega) fun h' zs' J4 Zu hin hout=>?_
  have hx:ss[i]?=some (ss.getD i Str.empty):=by
   rw [List.getD_eq_getElem?_getD,List.getElem?_eq_getElem (by omega)]
   rfl
  have hmem:∀ x,x∈zs'↔x∈ss.take (i+1):=fun x=>by
   rw [List.take_add_one,hx,List.mem_append]
   by_cases q:ss.getD i Str.empty∈zs
   ·rw [hin q,hm x]
    constructor
    ·exact .inl
    ·rintro (z | z)
     ·exact z
     ·have:x=ss.getD i Str.empty:=by simpa using z
      rw [this];exact (hm _).mp q
   ·rw [(hout q).mem_iff,List.mem_append,hm x]
    simp
  have hl':zs'.length≤i+1:=by
   by_cases q:ss.getD i Str.empty∈zs
   ·rw [hin q];omega
   ·rw [(hout q).length_eq,List.length_append,List.length_singleton];omega
  refine wpAny_pure ⟨plainId_quiet F.plain_set_update_loop _,ih (i+1) _ zs' (by omega) hlt (W.frame _ s' _ _ Za (Nat.le_succ _) fun b hb o e=>?_) Zu hl' hmem fun s'' Uy Zl Zv Zn hm2=>?_⟩
  ·rw [J4.2 b (fun h:b=S=>hSf (by rw [← h];exact hb))];exact e
  ·refine hR s'' Uy (Moved.trans W.gtrans ((P0.mono hsub).then_heap (Nat.le_succ _) fun b o hb e=>?_) Zl) Zv Zn hm2
   rw [J4.2 b (fun h:b=S=>hb (by rw [h];exact List.mem_cons_self))];exact e
end
section
variable {prog:Program} {w:World} {A:Around} {E:Value→Shared→Prop} {s:Shared}
theorem uF (a:Value) {Q₁:Value→Shared→Prop}
  (h:Q₁ (.ref s.heap.objs.size) { s with heap:=s.heap.push { cls:=.type "set",dict:=none,data:=.set #[] 0 (.fresh 0 0 (!w.params.followText "set-order")) } }) :
  codeAny (model prog w) A (.call (.builtin "set.__new__") ⟨[.type "set",a],[]⟩) (wants Q₁ E) s:=by
 refine codeAny_of_tree ?_
 show wpAny _ A.in1 (do checkBuiltinCall "set.__new__" ⟨[.type "set",a],[]⟩;again (.builtin "set.__new__" ⟨[.type "set",a],[]⟩)) _ _ s
 refine wpAny_bind (wpAny_of_eq (F.newCall_set_1 a) (wpAny_pure ⟨plainId_quiet F.plain_set_new _,codeAny_builtin F.entry_set_new ?_⟩))
 rw [Around.under_plainId F.plain_set_new _]
 unfold Builtin.«set.__new__» Builtin.Frozenset.newClass
 have hsub:=sub_set_self
 obtain ⟨hp,g,d,tk,os⟩:=s
 dsimp only
 wp_walk
 refine wpAny_askSetting (wpAny_pure ?_)
 dsimp only
 simp only [newObj]
 refine wpAny_bind (wpAny_alloc (wpAny_pure ?_))
 exact wpAny_pure h
theorem StrsAre.LD:∀ {vs:List Value} {ss:List Str},StrsAre vs ss→∀ (i:Nat) (v:Value),vs[i]?=some v→∃ t,v=.str (ss.getD i Str.empty) t:=by
 intro vs ss h
 induction h with
 | nil=>intro i v e;simp at e
 | cons x t hr ih =>
  intro i v e
  cases i with
  | zero=>simp at e;exact ⟨t,e.symm⟩
  | succ i =>
   simp only [List.getElem?_cons_succ] at e
   obtain ⟨t',e'⟩:=ih i v e
   exact ⟨t',by rw [e'];rfl⟩
set_option maxHeartbeats 3200000 in
theorem vo {l:Addr} {items:Array Value} {ss:List Str} {Q:Value→Shared→Prop} (hh:A.handled=none) (hl:s.heap.IsList l items) (hi:StrsAre items.toList ss) (hb:items.size+1 < scanBound)
  (h:∀ (h':Heap) (tk:Nat) (zs:List Str),kN prog w h' s.heap.objs.size zs→(∀ x,x∈zs↔x∈ss)→zs.length≤items.size →
   (∀ b o,b < s.heap.objs.size→s.heap.get? b=some o→h'.get? b=some o)→Q (.ref s.heap.objs.size) { s with heap:=h',toks:=tk }) :
  wpAny (model prog w) A (call (.type "set") [.ref l]) Q E s:=by
 have hlen:ss.length=items.size:=by rw [← StrsAre.length hi,Array.length_toList]
 obtain ⟨c,tl,a7X⟩:=F.called_set.mro
 have hmade:=F.called_set.made
 have hsub:=F.called_set.sub
 refine wpAny_call (codeAny_of_tree ?_)
 show wpAny _ _ (callAny (.type "set") _) _ _ _
 refine wpAny_pure ⟨Code.quiet_builtin _ (by decide +kernel),codeAny_builtin F.entry_type_call ?_⟩
 rw [Around.under_plain (weight_type_call_type "set" [.ref l] []) rfl]
 have h1:=F.called_set.notType
 have h2:=F.called_set.canCreate
 have hct:=F.typeCall_set_1 (.ref l)
 repeat (any_goals (first | assumption | wp_step))
 refine codeAny_mono (uF (.ref l) (E:=E) (Q₁:=fun obj s₁=>obj=.ref s.heap.objs.size∧s₁={ s with heap:=s.heap.push { cls:=.type "set",dict:=none,data:=.set #[] 0 (.fresh 0 0 (!w.params.followText "set-order")) } }) ⟨rfl,rfl⟩) fun r s₁ hr=>?_
 cases r with
 | error e=>exact hr
 | ok fl =>
  cases fl with
  | ret obj =>
   obtain ⟨rfl,rfl⟩:=hr
   have hS:(s.heap.push { cls:=.type "set",dict:=none,data:=.set #[] 0 (.fresh 0 0 (!w.params.followText "set-order")) }).get? s.heap.objs.size=some { cls:=.type "set",dict:=none,data:=.set #[] 0 (.fresh 0 0 (!w.params.followText "set-order")) }:=Heap.get?_push_size _ rfl
   have hT:Shared.TypeIs { s with heap:=s.heap.push { cls:=.type "set",dict:=none,data:=.set #[] 0 (.fresh 0 0 (!w.params.followText "set-order")) } } (.ref s.heap.objs.size) "set":=⟨_,hS,rfl⟩
   have hli:=F.called_set.init.lookup
   have hbi:=F.called_set.init.bind (.ref s.heap.objs.size)
   repeat (any_goals (first | assumption | wp_step))
   refine codeAny_mono (codeAny_call_builtin (R:=wants (fun r s₂=>r=.none∧∃ h' tk zs,s₂={ s with heap:=h',toks:=tk }∧kN prog w h' s.heap.objs.size zs∧(∀ x,x∈zs↔x∈ss)∧zs.length≤items.size ∧
     (∀ b o,b < s.heap.objs.size→s.heap.get? b=some o→h'.get? b=some o)) E) F.called_set.init.plain F.entry_set_init (check_set_init_1 hT ?_)) fun r₂ s₂ hr₂=>?_
   ·obtain ⟨ol,hol,hcl,nl,hdl⟩:=hl
    obtain ⟨a6X,O7,a3Q,LZ⟩:=ol
    simp only at hcl hdl
    subst hcl;subst hdl
    have Zg:(s.heap.push { cls:=.type "set",dict:=none,data:=.set #[] 0 (.fresh 0 0 (!w.params.followText "set-order")) }).get? l=some { cls:=.type "list",dict:=O7,data:=.seq items nl,slots:=LZ }:=Heap.get?_push_of_some _ hol
    have a7M:=F.sub_list_set
    have a7N:=F.sub_list_frozenset
    have hne:(Value.type "list" == Value.type "dict")=false:=by decide
    have hl1:(s.heap.push { cls:=.type "set",dict:=none,data:=.set #[] 0 (.fresh 0 0 (!w.params.followText "set-order")) }).IsList l items:=⟨_,Zg,rfl,nl,rfl⟩
    unfold Builtin.«set.__init__» noKeywords Builtin.Frozenset.updateFrom
    generalize hPI:pyIter=PI
    wp_walk
    subst hPI
    refine wpAny_pyIter_list hl1 ?_
    refine wpAny_bind (wpAny_runValue ?_)
    have hlS:l < s.heap.objs.size:=Heap.lt_size hol
    have hh3:A.in1.in1.in1.handled=none:=by simp [hh]
    have Zj:l≠(s.heap.push { cls:=.type "set",dict:=none,data:=.set #[] 0 (.fresh 0 0 (!w.params.followText "set-order")) }).objs.size:=by rw [Heap.size_push];exact Nat.ne_of_lt (Nat.lt_succ_of_lt hlS)
    have hSf:s.heap.objs.size ∉ [(s.heap.push { cls:=.type "set",dict:=none,data:=.set #[] 0 (.fresh 0 0 (!w.params.followText "set-order")) }).objs.size,l]:=by
     rw [Heap.size_push];simp only [List.mem_cons,List.mem_singleton,List.not_mem_nil,or_false,not_or]
     exact ⟨Nat.ne_of_lt (Nat.lt_succ_self _),Nat.ne_of_gt hlS⟩
    refine FP ((Walks.list hh3 _ l Zj items).toS) s.heap.objs.size hSf ss hlen (fun i v _ hv=>StrsAre.LD hi i v (by rw [Array.getElem?_toList];exact hv)) hb (items.size - 0) 0 _ [] (by omega) (Nat.zero_le _)
     ⟨⟨_,Heap.get?_push_size _ rfl,rfl,rfl⟩,(hl1.push _)⟩ ?hS0 (Nat.le_refl _) (fun x=>by simp) ?hR
    case hS0 =>
     have hget:((s.heap.push { cls:=.type "set",dict:=none,data:=.set #[] 0 (.fresh 0 0 (!w.params.followText "set-order")) }).push { cls:=.type "list_iterator",data:=.fields #[.ref l,.int 0 0] }).get? s.heap.objs.size=some { cls:=.type "set",dict:=none,data:=.set #[] 0 (.fresh 0 0 (!w.params.followText "set-order")) }:=Heap.get?_push_of_some _ hS
     exact ⟨_,#[],0,_,hget,⟨rfl,rfl,rfl⟩,rfl,(fun e he=>by simp at he),(fun e he=>by simp at he),rfl,.nil,by decide,by rfl,rfl,.inr rfl⟩
    case hR =>
     intro s' zs hm hS' PJ hmem
     obtain ⟨h',g',d',tk',os'⟩:=s'
     have eg:g'=s.gens:=hm.gens
     have ed:d'=s.drawn:=hm.drawn
     have eo:os'=s.os:=hm.os
     subst eg;subst ed;subst eo
     show wpAny _ _ _ _ _ _
     refine wpAny_pure ?_
     show wpAny _ _ (ret Value.none) _ _ _
     refine wpAny_pure ⟨rfl,h',tk',zs,rfl,hS',hmem,PJ,fun b o hb e=>?_⟩
     have hb1:b≠s.heap.objs.size:=Nat.ne_of_lt hb
     have hb2:b≠(s.heap.push { cls:=.type "set",dict:=none,data:=.set #[] 0 (.fresh 0 0 (!w.params.followText "set-order")) }).objs.size:=by rw [Heap.size_push];exact Nat.ne_of_lt (Nat.lt_succ_of_lt hb)
     exact hm.heap b o (by simp only [List.mem_cons,List.mem_singleton,List.not_mem_nil,or_false,not_or];exact ⟨hb1,hb2⟩) (Heap.get?_push_of_some _ (Heap.get?_push_of_some _ e))
   ·cases r₂ with
    | error e=>exact hr₂
    | ok fl₂ =>
     cases fl₂ with
     | ret r =>
      obtain ⟨rfl,h',tk,zs,rfl,hS',hmem,PJ,hk'⟩:=hr₂
      repeat (any_goals (first | assumption | wp_step))
      exact h _ _ zs hS' hmem PJ hk'
     | _=>exact hr₂.elim
  | _=>exact hr.elim
end
end PySem
namespace PySem
open L2 PyProof.Rows
namespace F
theorem qW:entryFor table "set.__iter__"=some Builtin.«frozenset.__iter__»:=entryFor_alias (id':="frozenset.__iter__") (by kernel_rfl) rfl (by decide +kernel) (by kernel_rfl)
theorem nv:Manifest.owners.lookup (String.ofList ['r','o','t','a','r','e','t','i','_','t','e','s'].reverse)=some Manifest.sig_set_iterator:=by kernel_rfl
theorem bg:Slot "set_iterator" "__next__" "set_iterator.__next__" :=
 .of (owner:="set_iterator") (n:="__next__") (by rw [typeLookup_type,builtinLookup_eq_fast];kernel_rfl) (by decide +kernel) (by decide +kernel) (by decide +kernel)
  (by first | exact .inl (by decide +kernel) | exact .inr (by decide +kernel)) (by rw [isSubtype_type];kernel_rfl)
theorem eV:entryFor table "set_iterator.__next__"=some Builtin.«set_iterator.__next__»:=entryFor_of_tree (by kernel_rfl)
theorem eN (a:Value):argsOk "set_iterator.__next__" ⟨[a],[]⟩:=by
 unfold argsOk;rw [signature?_of (id:="set_iterator.__next__") (n:=['_','_','t','x','e','n','_','_']) (o:=['r','o','t','a','r','e','t','i','_','t','e','s']) (by kernel_rfl) nv];kernel_rfl
theorem gE:Slot "set_iterator" "__iter__" "set_iterator.__iter__" :=
 .of (owner:="set_iterator") (n:="__iter__") (by rw [typeLookup_type,builtinLookup_eq_fast];kernel_rfl) (by decide +kernel) (by decide +kernel) (by decide +kernel)
  (by first | exact .inl (by decide +kernel) | exact .inr (by decide +kernel)) (by rw [isSubtype_type];kernel_rfl)
theorem jX:entryFor table "set_iterator.__iter__"=some Builtin.«dict_keyiterator.__iter__» :=
 entryFor_alias (id':="dict_keyiterator.__iter__") (by kernel_rfl) rfl (by decide +kernel) (by kernel_rfl)
theorem jN (a:Value):argsOk "set_iterator.__iter__" ⟨[a],[]⟩:=by unfold argsOk;kernel_rfl
end F
def pB (h:Heap) (I:Addr) (first:Value) (i:Nat) (a:Addr) (n ep:Nat):Prop :=
 ∃ o,h.get? I=some o∧o.cls=.type "set_iterator"∧o.data=.fields #[first,.int i 0,.ref a,.int n 0,.int ep 0]
def jq (h:Heap) (a:Addr) (es:Array (Int×Value)) (ep:Nat) (t:SetTable):Prop:=∃ o,h.get? a=some o∧o.data=.set es ep t∧t.fits es.size=true
theorem pB.typeIs {s:Shared} {I a:Addr} {first:Value} {i n ep:Nat} (x:pB s.heap I first i a n ep):s.TypeIs (.ref I) "set_iterator":=let ⟨o,ho,hc,_⟩:=x;⟨o,ho,hc⟩
section
variable {prog:Program} {w:World} {A:Around} {E:Value→Shared→Prop} {s:Shared} {I a tp:Addr} {i n ep:Nat} {es:Array (Int×Value)} {t:SetTable}
theorem pW {first:Value} {Q:Value→Shared→Prop} (hit:pB s.heap I first i a n ep) (h:Q (.ref I) s):wpAny (model prog w) A (pyIter (.ref I)) Q E s:=by
 refine wpAny_pyIter_slot hit.typeIs F.gE (wpAny_call_entry F.gE hit.typeIs F.jX ?_ (F.jN _))
 show wpAny _ _ (ret (.ref I)) _ _ s
 exact wpAny_pure ⟨_,rfl,"set_iterator",_,hit.typeIs,F.bg.lookup,h⟩
end
end PySem
namespace PySem
open L2 PyProof.Rows
section
variable {prog:Program} {w:World} {A:Around} {E:Value→Shared→Prop} {s:Shared} {I a tp:Addr} {i n ep:Nat} {es:Array (Int×Value)} {t:SetTable}
theorem pT {es:Array (Int×Value)} {n:Nat} (hn:es.size=n):(((es.size:Nat):Int) != ((n:Nat):Int))=false:=by rw [hn];simp
theorem L8 {Q:Option Value→Shared→Prop} {ps:List Value} {k p:Nat} {tk:Tok} {ot:Obj} {e:Int×Value} (hit:pB s.heap I (.ref tp) i a n ep) (hs:jq s.heap a es ep t) (hn:es.size=n) (ht:s.heap.get? tp=some ot) (hd:ot.data=.seq ps.toArray k)
  (hp:ps[i]?=some (.int p tk)) (he:es[p]?=some e) (hQ:∀ h',pB h' I (.ref tp) (i+1) a n ep→Heap.SameBut I s.heap h'→Q (some e.2) { s with heap:=h' }):wpAny (model prog w) A (pyNext (.ref I)) Q E s:=by
 obtain ⟨o,ho,hc,hdo⟩:=id hit
 obtain ⟨os,hos,hds,hf⟩:=hs
 unfold pyNext
 refine wpAny_bind (wpAny_attempt (wpAny_callSpecial?_slot (name:=Str.ofString "__next__") hit.typeIs F.bg
  (wpAny_call_entry F.bg hit.typeIs F.eV ?_ (F.eN _))))
 show wpAny _ _ (fieldsOf (.ref I) >>= _) _ _ s
 refine wpAny_bind (wpAny_fieldsOf ho hdo ?_)
 dsimp only
 refine wpAny_bind (wpAny_setEntries_of hos hds hf ?_)
 rw [pT hn]
 simp only [Bool.false_eq_true,if_false]
 refine wpAny_bind (wpAny_seqItems ht hd ?_)
 dsimp only
 have PY:ps.toArray[(i:Int).toNat]?=some (.int p tk):=by rw [Int.toNat_natCast];simpa using hp
 rw [PY]
 dsimp only
 unfold setNextDrawn
 refine wpAny_bind (wpAny_bind (wpAny_setState_of hos hds hf ?_))
 dsimp only
 simp only [Int.toNat_natCast,bne_self_eq_false,Bool.false_eq_true,if_false,he]
 refine wpAny_pure ?_
 refine wpAny_bind (wpAny_setField ho hdo (by simp) (wpAny_pure ⟨_,rfl,wpAny_pure (hQ _ ?_ (Heap.SameBut.update ..))⟩))
 exact ⟨_,Heap.get?_update_self _ ho (Obj.isFreed_of_fields (Obj.data_mapFields hdo _)),(Obj.cls_mapFields ..).trans hc,by rw [Obj.data_mapFields hdo];simp [rawInt]⟩
theorem QE {Q:Option Value→Shared→Prop} {ps:List Value} {k:Nat} {ot:Obj} (hh:A.handled=none) (hit:pB s.heap I (.ref tp) i a n ep) (hs:jq s.heap a es ep t) (hn:es.size=n) (ht:s.heap.get? tp=some ot) (hd:ot.data=.seq ps.toArray k)
  (hp:ps[i]?=none) (hQ:∀ h',(∀ b o,b≠I→s.heap.get? b=some o→h'.get? b=some o)→Q none { s with heap:=h' }):wpAny (model prog w) A (pyNext (.ref I)) Q E s:=by
 obtain ⟨o,ho,hc,hdo⟩:=id hit
 obtain ⟨os,hos,hds,hf⟩:=hs
 unfold pyNext
 refine wpAny_bind (wpAny_attempt (wpAny_callSpecial?_slot (name:=Str.ofString "__next__") hit.typeIs F.bg
  (wpAny_call_entry F.bg hit.typeIs F.eV ?_ (F.eN _))))
 show wpAny _ _ (fieldsOf (.ref I) >>= _) _ _ s
 refine wpAny_bind (wpAny_fieldsOf ho hdo ?_)
 dsimp only
 refine wpAny_bind (wpAny_setEntries_of hos hds hf ?_)
 rw [pT hn]
 simp only [Bool.false_eq_true,if_false]
 refine wpAny_bind (wpAny_seqItems ht hd ?_)
 dsimp only
 have PY:ps.toArray[(i:Int).toNat]?=none:=by rw [Int.toNat_natCast];simpa using hp
 rw [PY]
 dsimp only
 refine wpAny_bind (wpAny_setField ho hdo (by simp) ?_)
 have IY:=Heap.get?_update_self (Obj.mapFields (·.setIfInBounds 0 (rawInt 0))) ho (Obj.isFreed_of_fields (Obj.data_mapFields hdo _))
 refine wpAny_bind (wpAny_setField IY (Obj.data_mapFields hdo _) (by simp) ?_)
 show wpAny _ _ (newExc (.type "StopIteration") [] >>= _) _ _ _
 refine wpAny_bind ?_
 simp only [newExc,newTuple]
 refine wpAny_bind (wpAny_newObj_type ?_ (by size_fits))
 refine wpAny_bind (m:=firstArgMember _ _) (wpAny_of_eq (a:=Value.none) (by first | rfl | (simp only [firstArgMember];rfl)) ?_)
 refine wpAny_newObj_type ?_ (by size_fits)
 simp only [raiseNew]
 refine wpAny_bind (wpAny_handled ?_)
 rw [show A.in1.handled=none from hh]
 refine wpAny_bind (wpAny_pure (wpAny_throw ?_))
 refine wpAny_bind (wpAny_isInstance (T:="StopIteration") (b:=true) ⟨_,Heap.get?_push_size _ rfl,rfl⟩ isSubtype_stop ?_)
 refine wpAny_pure (hQ _ fun b o' hb e=>?_)
 exact Heap.get?_push_of_some _ (Heap.get?_push_of_some _ ((Heap.get?_update_other _ _ (Ne.symm hb)).trans ((Heap.get?_update_other _ _ (Ne.symm hb)).trans e)))
theorem xQ {Q:Option Value→Shared→Prop} {sl:Nat} {r:Option (Value×Nat)} (hh:A.handled=none) (hit:pB s.heap I (.int sl 0) i a n ep) (hs:jq s.heap a es ep t) (hn:es.size=n)
  (hr:∀ (A':Around) (E':Value→Shared→Prop) (Q':Option (Value×Nat)→Shared→Prop),Q' r s→wpAny (model prog w) A' (setNext a sl i ep) Q' E' s)
  (hQ:∀ x nx h',r=some (x,nx)→pB h' I (.int nx 0) (i+1) a n ep→Heap.SameBut I s.heap h'→Q (some x) { s with heap:=h' })
  (hE:r=none→∀ h',(∀ b o,b≠I→s.heap.get? b=some o→h'.get? b=some o)→Q none { s with heap:=h' }):wpAny (model prog w) A (pyNext (.ref I)) Q E s:=by
 obtain ⟨o,ho,hc,hdo⟩:=id hit
 obtain ⟨os,hos,hds,hf⟩:=hs
 unfold pyNext
 refine wpAny_bind (wpAny_attempt (wpAny_callSpecial?_slot (name:=Str.ofString "__next__") hit.typeIs F.bg
  (wpAny_call_entry F.bg hit.typeIs F.eV ?_ (F.eN _))))
 show wpAny _ _ (fieldsOf (.ref I) >>= _) _ _ s
 refine wpAny_bind (wpAny_fieldsOf ho hdo ?_)
 dsimp only
 refine wpAny_bind (wpAny_setEntries_of hos hds hf ?_)
 rw [pT hn]
 simp only [Bool.false_eq_true,if_false,Int.toNat_natCast]
 refine wpAny_bind (hr _ _ _ ?_)
 cases r with
 | some q =>
  obtain ⟨x,nx⟩:=q
  dsimp only
  refine wpAny_bind (wpAny_setField ho hdo (by simp) ?_)
  have IY:=Heap.get?_update_self (Obj.mapFields (·.setIfInBounds 0 (rawInt nx))) ho (Obj.isFreed_of_fields (Obj.data_mapFields hdo _))
  refine wpAny_bind (wpAny_setField IY (Obj.data_mapFields hdo _) (by simp) (wpAny_pure ⟨_,rfl,wpAny_pure (hQ x nx _ rfl ?_ ((Heap.SameBut.update ..).trans (Heap.SameBut.update ..)))⟩))
  exact ⟨_,Heap.get?_update_self _ IY (Obj.isFreed_of_fields (Obj.data_mapFields (Obj.data_mapFields hdo _) _)),((Obj.cls_mapFields ..).trans (Obj.cls_mapFields ..)).trans hc,by rw [Obj.data_mapFields (Obj.data_mapFields hdo _)];simp [rawInt]⟩
 | none =>
  dsimp only
  refine wpAny_bind (wpAny_setField ho hdo (by simp) ?_)
  show wpAny _ _ (newExc (.type "StopIteration") [] >>= _) _ _ _
  refine wpAny_bind ?_
  simp only [newExc,newTuple]
  refine wpAny_bind (wpAny_newObj_type ?_ (by size_fits))
  refine wpAny_bind (m:=firstArgMember _ _) (wpAny_of_eq (a:=Value.none) (by first | rfl | (simp only [firstArgMember];rfl)) ?_)
  refine wpAny_newObj_type ?_ (by size_fits)
  simp only [raiseNew]
  refine wpAny_bind (wpAny_handled ?_)
  rw [show A.in1.handled=none from hh]
  refine wpAny_bind (wpAny_pure (wpAny_throw ?_))
  refine wpAny_bind (wpAny_isInstance (T:="StopIteration") (b:=true) ⟨_,Heap.get?_push_size _ rfl,rfl⟩ isSubtype_stop ?_)
  refine wpAny_pure (hE rfl _ fun b o' hb e=>?_)
  exact Heap.get?_push_of_some _ (Heap.get?_push_of_some _ ((Heap.get?_update_other _ _ (Ne.symm hb)).trans e))
end
end PySem
namespace PySem
open L2 PyProof.Rows
theorem nF {α:Type}:∀ {l:List α} {i:Nat} (h:i < l.length),List.Perm (l[i]::l.eraseIdx i) l
 | x::r,0,_=>.refl _
 | x::r,i+1,h=>by
  have hi:i < r.length:=by simpa using h
  show List.Perm (r[i]::x::r.eraseIdx i) (x::r)
  exact (List.Perm.swap ..).trans (.cons _ (nF hi))
theorem vU {α:Type} (next:Nat→Nat):∀ (n k:Nat) (l:List α) (out:Array α),l.length=n→List.Perm (pickOrder.go next n k l out).toList (out.toList++l)
 | 0,k,l,out,h=>by
  have:l=[]:=List.length_eq_zero_iff.mp h
  subst this
  unfold pickOrder.go
  simp
 | n+1,k,l,out,h=>by
  unfold pickOrder.go
  have hi:next k % l.length < l.length:=Nat.mod_lt _ (by omega)
  rw [List.getElem?_eq_getElem hi]
  dsimp only
  refine (vU next n (k+1) (l.eraseIdx (next k % l.length)) (out.push l[next k % l.length]) (by rw [List.length_eraseIdx_of_lt hi];omega)).trans ?_
  rw [Array.toList_push,List.append_assoc]
  refine List.Perm.append_left _ ?_
  show List.Perm (l[next k % l.length]::l.eraseIdx (next k % l.length)) l
  exact nF hi
theorem gI {α:Type} (next:Nat→Nat) (xs:Array α):List.Perm (pickOrder next xs).toList xs.toList:=by
 unfold pickOrder
 have:=vU next xs.size 0 xs.toList #[] (by simp)
 simpa using this
section
variable {M:Model} {A:Around} {E:Value→Shared→Prop} {s:Shared}
theorem uV {src:Source} {n:Nat} {Q:Nat→Shared→Prop} (hn:n≠0) (h:∀ i d,i < n→Q i { s with drawn:=d }):wpAny M A (choose src n) Q E s:=by
 intro Γ p hΓ
 unfold choose
 rw [Sem.wp_choose]
 refine ⟨hn,?_⟩
 simp only [Sem.wp_pure]
 exact h _ _ (Nat.mod_lt _ (Nat.pos_of_ne_zero hn))
theorem wm {α:Type}:∀ (n:Nat) (xs:List α) (s:Shared) (Q:List α→Shared→Prop),xs.length=n→(∀ ys d,List.Perm ys xs→Q ys { s with drawn:=d })→wpAny M A (drawOrder n xs) Q E s
 | 0,xs,s,Q,hl,h=>by
  have:xs=[]:=List.length_eq_zero_iff.mp hl
  subst this
  unfold drawOrder
  have e:s={ s with drawn:=s.drawn }:=by cases s;rfl
  rw [e]
  exact wpAny_pure (h [] _ .nil)
 | n+1,xs,s,Q,hl,h=>by
  cases xs with
  | nil=>cases hl
  | cons x0 r0 =>
   unfold drawOrder
   refine wpAny_bind (uV (by rw [hl];omega) fun i d hi=>?_)
   rw [List.getElem?_eq_getElem hi]
   dsimp only
   refine wpAny_bind (wm n _ _ _ (by rw [List.length_eraseIdx_of_lt hi,hl];omega) fun ys d' hp=>wpAny_pure ?_)
   exact h _ d' ((List.Perm.cons _ hp).trans (nF hi))
end
section
variable {prog:Program} {w:World} {A:Around} {E:Value→Shared→Prop} {s:Shared} {I a tp:Addr} {i n ep:Nat} {es:Array (Int×Value)} {t:SetTable}
theorem vO {Q:Option (Value×Nat)→Shared→Prop} {sl:Nat} (hT:w.params.followText "set-order"=true) (hs:jq s.heap a es ep t)
  (h:Q (((pickOrder (w.params.setOrder a ep) es)[i]?).map fun e=>(e.2,sl)) s):wpAny (model prog w) A (setNext a sl i ep) Q E s:=by
 obtain ⟨o,ho,hd,hf⟩:=hs
 unfold setNext
 refine wpAny_bind (wpAny_setState_of ho hd hf ?_)
 dsimp only
 unfold setsByText
 refine wpAny_bind (wpAny_bind (wpAny_askSetting (wpAny_pure ?_)))
 show wpAny _ _ (if (w.params.followText "set-order")=true then _ else _) _ _ _
 rw [hT]
 simp only [if_true,bne_self_eq_false,Bool.false_eq_true,if_false]
 unfold setWalk
 refine wpAny_bind (wpAny_bind (wpAny_setState_of ho hd hf ?_))
 dsimp only
 unfold setsByText
 refine wpAny_bind (wpAny_bind (wpAny_askSetting (wpAny_pure ?_)))
 show wpAny _ _ (if (w.params.followText "set-order")=true then _ else _) _ _ _
 rw [hT]
 simp only [if_true]
 refine wpAny_bind (wpAny_askSetting (wpAny_pure (wpAny_pure ?_)))
 exact h
theorem vP {Q:Option (Value×Nat)→Shared→Prop} {sl:Nat} (hT:w.params.followText "set-order"=false) (hs:jq s.heap a es ep t) (hl:t.led=true) (hn:es.size≤1)
  (h:Q (match es[SetTable.below t.place sl]?,t.place[SetTable.below t.place sl]? with | some (_,x),some j=>some (x,j+1) | _,_=>none) s):wpAny (model prog w) A (setNext a sl i ep) Q E s:=by
 obtain ⟨o,ho,hd,hf⟩:=hs
 unfold setNext
 refine wpAny_bind (wpAny_setState_of ho hd hf ?_)
 dsimp only
 unfold setsByText
 refine wpAny_bind (wpAny_bind (wpAny_askSetting (wpAny_pure ?_)))
 show wpAny _ _ (if (w.params.followText "set-order")=true then _ else _) _ _ _
 rw [hT]
 simp only [Bool.false_eq_true,if_false]
 show wpAny _ _ (if ((!t.plain && decide (es.size > 1))=true) then _ else _) _ _ _
 rw [show decide (es.size > 1)=false from decide_eq_false (by omega),Bool.and_false]
 simp only [Bool.false_eq_true,if_false]
 refine wpAny_bind ?_
 show wpAny _ _ (if ((!t.led && !es.isEmpty)=true) then _ else _) _ _ _
 rw [hl]
 simp only [Bool.not_true,Bool.false_and,Bool.false_eq_true,if_false]
 exact wpAny_pure (wpAny_pure h)
end
end PySem
namespace PySem
open L2 PyProof.Rows
section
variable {prog:Program} {w:World} {A:Around} {E:Value→Shared→Prop} {s:Shared} {I a tp:Addr} {i n ep:Nat} {es:Array (Int×Value)} {t:SetTable}
theorem jq.at {h h':Heap} (x:jq h a es ep t) (k:∀ o,h.get? a=some o→h'.get? a=some o):jq h' a es ep t:=let ⟨o,ho,r⟩:=x;⟨o,k o ho,r⟩
theorem pB.at {h h':Heap} {first:Value} (x:pB h I first i a n ep) (k:∀ o,h.get? I=some o→h'.get? I=some o):pB h' I first i a n ep:=let ⟨o,ho,r⟩:=x;⟨o,k o ho,r⟩
theorem Jg (hT:w.params.followText "set-order"=true) (hh:A.handled=none) (hne:a≠I) (hn:es.size=n) :
  Walks prog w A I [I,a] [I] n (fun i v=>((pickOrder (w.params.setOrder a ep) es).toList.map (·.2))[i]?=some v) (fun i h=>(∃ sl:Nat,pB h I (.int sl 0) i a n ep)∧jq h a es ep t) where
 sub:=fun b hb=>by simp at hb;simp [hb]
 frame:=fun _ _ _ st hk=>⟨let ⟨sl,x⟩:=st.1;⟨sl,x.at fun o e=>hk I (by simp) o e⟩,st.2.at fun o e=>hk a (by simp) o e⟩
 item:=fun i s Q E hi st hQ=>by
  obtain ⟨⟨sl,x⟩,tb⟩:=st
  have hp:(pickOrder (w.params.setOrder a ep) es).size=n:=by rw [← Array.length_toList,(gI _ es).length_eq,Array.length_toList,hn]
  have hg:(pickOrder (w.params.setOrder a ep) es)[i]?=some ((pickOrder (w.params.setOrder a ep) es)[i]'(by omega)):=by simp [hp,hi]
  refine xQ hh x tb hn (fun A' E' Q' q=>vO hT tb q) (fun v nx h' e x' sb=>?_) (fun e=>?_)
  ·rw [hg] at e
   cases e
   refine hQ _ h' s.toks ?_ ⟨⟨_,x'⟩,tb.at fun o e=>(sb.2 a hne).trans e⟩ fun b o hb e=>(sb.2 b (fun h=>hb (by simp [h]))).trans e
   rw [List.getElem?_map,Array.getElem?_toList,hg]
   rfl
  ·rw [hg] at e
   cases e
 done:=fun s Q E st hQ=>by
  obtain ⟨⟨sl,x⟩,tb⟩:=st
  have hp:(pickOrder (w.params.setOrder a ep) es).size=n:=by rw [← Array.length_toList,(gI _ es).length_eq,Array.length_toList,hn]
  have hg:(pickOrder (w.params.setOrder a ep) es)[n]?=none:=by simp [hp]
  refine xQ hh x tb hn (fun A' E' Q' q=>vO hT tb q) (fun v nx h' e x' sb=>?_) (fun e h' kp=>?_)
  ·rw [hg] at e
   cases e
  ·exact hQ h' s.toks fun b o hb e=>kp b o (fun h=>hb (by simp [h])) e
 self:=fun _ _ _ _ st hQ=>let ⟨⟨_,x⟩,_⟩:=st;pW x hQ
theorem RE {α:Type} {l:Array α} (h:l.size=1):∃ j,l=#[j]:=by
 obtain ⟨l⟩:=l
 match l,h with
 | [j],_=>exact ⟨j,rfl⟩
theorem Dh (j:Nat):SetTable.below #[j] 0=0:=by simp [SetTable.below,SetTable.below.go]
theorem below_1 (j:Nat):SetTable.below #[j] (j+1)=1:=by simp [SetTable.below,SetTable.below.go]
def ND (t:SetTable):Nat→Nat
 | 0=>0
 | _+1=>t.place.getD 0 0+1
theorem Jh (hT:w.params.followText "set-order"=false) (hh:A.handled=none) (hne:a≠I) (hn:es.size=n) (h1:n≤1) (hl:t.led=true) (hf:t.fits es.size=true) :
  Walks prog w A I [I,a] [I] n (fun i v=>(es.toList.map (·.2))[i]?=some v) (fun i h=>pB h I (.int (ND t i) 0) i a n ep∧jq h a es ep t) where
 sub:=fun b hb=>by simp at hb;simp [hb]
 frame:=fun _ _ _ st hk=>⟨st.1.at fun o e=>hk I (by simp) o e,st.2.at fun o e=>hk a (by simp) o e⟩
 item:=fun i s Q E hi st hQ=>by
  obtain ⟨x,tb⟩:=st
  have i0:i=0:=by omega
  have n1:n=1:=by omega
  subst i0;subst n1
  have hp:t.place.size=1:=by simp only [SetTable.fits,Bool.and_eq_true,beq_iff_eq] at hf;omega
  obtain ⟨j,hj⟩:=RE hp
  refine xQ hh x tb hn (fun A' E' Q' q=>vP hT tb hl (by omega) q) (fun v nx h' e x' sb=>?_) (fun e=>?_)
  ·have hz:ND t 0=0:=rfl
   rw [hz,hj,Dh] at e
   have h0:es[0]?=some (es[0]'(by omega)):=by simp [hn]
   rw [h0] at e
   simp at e
   obtain ⟨e1,e2⟩:=e
   refine hQ _ h' s.toks ?_ ⟨?_,tb.at fun o e=>(sb.2 a hne).trans e⟩ fun b o hb e=>(sb.2 b (fun h=>hb (by simp [h]))).trans e
   ·rw [List.getElem?_map,Array.getElem?_toList,h0,← e1]
    rfl
   ·have:ND t 1=nx:=by show t.place.getD 0 0+1=nx;rw [hj,← e2];rfl
    rw [this]
    exact x'
  ·have hz:ND t 0=0:=rfl
   rw [hz,hj,Dh] at e
   have h0:es[0]?=some (es[0]'(by omega)):=by simp [hn]
   rw [h0] at e
   simp at e
 done:=fun s Q E st hQ=>by
  obtain ⟨x,tb⟩:=st
  have hp:t.place.size=n:=by simp only [SetTable.fits,Bool.and_eq_true,beq_iff_eq] at hf;omega
  refine xQ hh x tb hn (fun A' E' Q' q=>vP hT tb hl (by omega) q) (fun v nx h' e x' sb=>?_) (fun e h' kp=>?_)
  ·exfalso
   have:n=0∨n=1:=by omega
   rcases this with z | z
   ·subst z
    have h0:es=#[]:=by simpa using hn
    rw [h0] at e
    simp at e
   ·subst z
    obtain ⟨j,hj⟩:=RE hp
    have hz:ND t 1=j+1:=by show t.place.getD 0 0+1=j+1;rw [hj];rfl
    rw [hz,hj,below_1] at e
    have h0:es[1]?=none:=by simp [hn]
    rw [h0] at e
    simp at e
  ·exact hQ h' s.toks fun b o hb e=>kp b o (fun h=>hb (by simp [h])) e
 self:=fun _ _ _ _ st hQ=>pW st.1 hQ
theorem Ji {ps:List Nat} (hh:A.handled=none) (hne:a≠I) (htp:tp≠I) (hn:es.size=n) (hps:List.Perm ps (List.range n)) :
  Walks prog w A I [I,tp,a] [I] n (fun i v=>((ps.filterMap fun p=>es[p]?).map (·.2))[i]?=some v) (fun i h=>pB h I (.ref tp) i a n ep∧(∃ ot k,h.get? tp=some ot∧ot.data=.seq (ps.map fun p:Nat=>rawInt p).toArray k)∧jq h a es ep t) where
 sub:=fun b hb=>by simp at hb;simp [hb]
 frame:=fun _ _ _ st hk=>⟨st.1.at fun o e=>hk I (by simp) o e,let ⟨ot,k,e,d⟩:=st.2.1;⟨ot,k,hk tp (by simp) _ e,d⟩,st.2.2.at fun o e=>hk a (by simp) o e⟩
 item:=fun i s Q E hi st hQ=>by
  obtain ⟨x,⟨ot,k,et,dt⟩,tb⟩:=st
  have hpl:ps.length=n:=by rw [hps.length_eq,List.length_range]
  have J6:ps[i]?=some (ps[i]'(by omega)):=List.getElem?_eq_getElem _
  have hlt:ps[i]'(by omega) < n:=List.mem_range.mp (hps.mem_iff.mp (List.getElem_mem _))
  have he:es[ps[i]'(by omega)]?=some (es[ps[i]'(by omega)]'(by omega)):=by simp [hn,hlt]
  have hall:∀ q:List Nat,(∀ p∈q,p < n)→(q.filterMap fun p=>es[p]?)=q.map fun p=>es.getD p (0,.none):=by
   intro q
   induction q with
   | nil=>intro _;rfl
   | cons p r ih =>
    intro hq
    have h1:=hq p (List.mem_cons_self ..)
    rw [List.filterMap_cons_some (b:=es.getD p (0,.none)) (by simp [hn,h1]),ih fun p hp=>hq p (List.mem_cons_of_mem _ hp)]
    rfl
  refine L8 x tb hn et dt (p:=ps[i]'(by omega)) (tk:=0) (by rw [List.getElem?_map,J6];rfl) he fun h' x' sb=>?_
  refine hQ _ h' s.toks ?_ ⟨x',⟨ot,k,(sb.2 tp htp).trans et,dt⟩,tb.at fun o e=>(sb.2 a hne).trans e⟩ fun b o hb e=>(sb.2 b (fun h=>hb (by simp [h]))).trans e
  rw [hall ps (fun p hp=>List.mem_range.mp (hps.mem_iff.mp hp)),List.map_map,List.getElem?_map,J6]
  simp [hn,hlt]
 done:=fun s Q E st hQ=>by
  obtain ⟨x,⟨ot,k,et,dt⟩,tb⟩:=st
  have hpl:ps.length=n:=by rw [hps.length_eq,List.length_range]
  exact QE hh x tb hn et dt (by rw [List.getElem?_map,List.getElem?_eq_none (by omega)];rfl) fun h' kp=>hQ h' s.toks fun b o hb e=>kp b o (fun h=>hb (by simp [h])) e
 self:=fun _ _ _ _ st hQ=>pW st.1 hQ
end
end PySem
namespace PySem
open L2 PyProof.Rows
theorem strs_map:∀ {L:List (Int×Value)},(∀ e∈L,∃ z k,e.2=Value.str z k)→StrsAre (L.map (·.2)) (L.map fun e=>strOf e.2)
 | [],_=>.nil
 | e::r,h=>by
  obtain ⟨z,k,q⟩:=h e (List.mem_cons_self ..)
  show StrsAre (e.2::r.map (·.2)) (strOf e.2::r.map fun e=>strOf e.2)
  rw [q]
  exact .cons z k (strs_map fun e he=>h e (List.mem_cons_of_mem _ he))
section
variable {prog:Program} {w:World} {A:Around} {E:Value→Shared→Prop} {s:Shared} {a:Addr}
theorem GZ {zs:List Str} {Q:Value→Shared→Prop} (hS:kN prog w s.heap a zs)
  (hQ:∀ (I:Addr) (fp:List Addr) (St:Nat→Heap→Prop) (vs:List Value) (zs':List Str) (h':Heap) (d:Drawn),(∀ A':Around,A'.handled=none→Walks prog w A' I fp [I] zs.length (fun i v=>vs[i]?=some v) St)→St 0 h'→StrsAre vs zs'→List.Perm zs' zs →
   (∀ b o,s.heap.get? b=some o→h'.get? b=some o)→s.heap.objs.size≤I→(∀ b∈fp,b=a∨s.heap.objs.size≤b)→Q (.ref I) { s with heap:=h',drawn:=d }):wpAny (model prog w) A (pyIter (.ref a)) Q E s:=by
 obtain ⟨o,es,ep,t,ho,hex,hd,hel,hst,hzs,hnd,hb,hf,G5,hpl⟩:=hS
 have hn:es.size=zs.length:=by rw [← hzs,List.length_map,Array.length_toList]
 have hTy:s.TypeIs (.ref a) "set":=⟨o,ho,hex.1⟩
 have hlt:a < s.heap.objs.size:=Heap.lt_size ho
 refine wpAny_pyIter_slot hTy F.slot_set_iter (wpAny_call_entry F.slot_set_iter hTy F.qW ?_ (F.args_set_iter_1 _))
 show wpAny _ _ (Builtin.Frozenset.sizeOf a >>= _) _ _ s
 unfold Builtin.Frozenset.sizeOf
 refine wpAny_bind (wpAny_bind (wpAny_setEntries_of ho hd hf (wpAny_pure ?_)))
 unfold setDrawn
 refine wpAny_bind ?_
 refine wpAny_bind (wpAny_setState_of ho hd hf ?_)
 dsimp only
 unfold setsByText
 refine wpAny_bind (wpAny_bind (wpAny_askSetting (wpAny_pure (wpAny_pure ?_))))
 show wpAny _ _ (if (!(w.params.followText "set-order") && (!t.plain && decide (es.size > 1)))=true then _ else _) _ _ _
 cases hT:w.params.followText "set-order" with
 | true =>
  simp only [Bool.not_true,Bool.false_and,Bool.false_eq_true,if_false]
  refine wpAny_bind (wpAny_pure ?_)
  unfold setEpoch
  refine wpAny_bind (wpAny_bind (wpAny_setState_of ho hd hf (wpAny_pure ?_)))
  refine wpAny_bind (wpAny_newObj_type (wpAny_pure ⟨_,rfl,"set_iterator",_,⟨_,Heap.get?_push_size _ rfl,rfl⟩,F.bg.lookup,?_⟩))
  have e:∀ h':Heap,({ s with heap:=h' }:Shared)={ s with heap:=h',drawn:=s.drawn }:=fun _=>by cases s;rfl
  rw [e]
  refine hQ _ [s.heap.objs.size,a] _ _ _ _ _ (fun A' hA=>Jg (ep:=ep) (t:=t) hT hA (Nat.ne_of_lt hlt) hn) ⟨⟨0,_,Heap.get?_push_size _ rfl,rfl,by simp [rawInt,hn]⟩,o,Heap.get?_push_of_some _ ho,hd,hf⟩ (strs_map fun e he=>hst e ((gI _ es).mem_iff.mp he)) ?_ (fun b o e=>Heap.get?_push_of_some _ e) (Nat.le_refl _) (fun b hb=>?_)
  ·rw [← hzs]
   exact (gI _ es).map _
  ·rcases List.mem_cons.mp hb with z | z
   ·exact .inr (by rw [z];exact Nat.le_refl _)
   ·exact .inl (List.mem_singleton.mp z)
 | false =>
  simp only [Bool.not_false,Bool.true_and]
  by_cases h1:es.size≤1
  ·rw [show decide (es.size > 1)=false from decide_eq_false (by omega),Bool.and_false]
   simp only [Bool.false_eq_true,if_false]
   refine wpAny_bind (wpAny_pure ?_)
   unfold setEpoch
   refine wpAny_bind (wpAny_bind (wpAny_setState_of ho hd hf (wpAny_pure ?_)))
   refine wpAny_bind (wpAny_newObj_type (wpAny_pure ⟨_,rfl,"set_iterator",_,⟨_,Heap.get?_push_size _ rfl,rfl⟩,F.bg.lookup,?_⟩))
   have e:∀ h':Heap,({ s with heap:=h' }:Shared)={ s with heap:=h',drawn:=s.drawn }:=fun _=>by cases s;rfl
   rw [e]
   rw [hT] at G5
   refine hQ _ [s.heap.objs.size,a] _ _ _ _ _ (fun A' hA=>Jh (ep:=ep) (t:=t) hT hA (Nat.ne_of_lt hlt) hn (by omega) G5 hf) ⟨⟨_,Heap.get?_push_size _ rfl,rfl,by simp [rawInt,hn,ND]⟩,o,Heap.get?_push_of_some _ ho,hd,hf⟩ (strs_map hst) (by rw [hzs]) (fun b o e=>Heap.get?_push_of_some _ e) (Nat.le_refl _) (fun b hb=>?_)
   rcases List.mem_cons.mp hb with z | z
   ·exact .inr (by rw [z];exact Nat.le_refl _)
   ·exact .inl (List.mem_singleton.mp z)
  ·have hp:t.plain=false:=hpl.resolve_right (by omega)
   rw [show decide (es.size > 1)=true from decide_eq_true (by omega),hp]
   simp only [Bool.not_false,Bool.and_self,if_true]
   refine wpAny_bind (wm _ _ _ _ (List.length_range ..) fun ps d hps=>?_)
   have Ze:ps.length=es.size:=by rw [hps.length_eq,List.length_range]
   refine wpAny_bind (wpAny_newTuple ?_ (by rw [List.length_map,Ze];exact fits_of_scanBound hb))
   unfold setEpoch
   refine wpAny_bind (wpAny_bind (wpAny_setState_of (Heap.get?_push_of_some _ ho) hd hf (wpAny_pure ?_)))
   refine wpAny_bind (wpAny_newObj_type (wpAny_pure ⟨_,rfl,"set_iterator",_,⟨_,Heap.get?_push_size _ rfl,rfl⟩,F.bg.lookup,?_⟩))
   dsimp only
   rw [Heap.size_push]
   have hall:∀ q:List Nat,(∀ p∈q,p < es.size)→∀ e∈(q.filterMap fun p=>es[p]?),e∈es.toList:=fun q _ e he=>by
    obtain ⟨p,_,z⟩:=List.mem_filterMap.mp he
    exact Array.mem_toList_iff.mpr (Array.mem_of_getElem? z)
   have hpe:List.Perm (ps.filterMap fun p=>es[p]?) es.toList:=by
    refine (hps.filterMap _).trans ?_
    have:=List.filterMap_getElem?_range_length es.toList
    rw [Array.length_toList] at this
    have e2:(fun p:Nat=>es[p]?)=fun p:Nat=>es.toList[p]?:=by funext p;rw [Array.getElem?_toList]
    rw [e2,this]
   refine hQ (s.heap.objs.size+1) [s.heap.objs.size+1,s.heap.objs.size,a] _ _ _ _ d (fun A' hA=>Ji (ep:=ep) (t:=t) (tp:=s.heap.objs.size) hA (Nat.ne_of_lt (Nat.lt_succ_of_lt hlt)) (Nat.ne_of_lt (Nat.lt_succ_self _)) hn (by rw [← hn];exact hps)) ⟨⟨_,Heap.get?_push_at (by rw [Heap.size_push]) rfl,rfl,by simp [rawInt,hn]⟩,⟨_,_,Heap.get?_push_of_some _ (Heap.get?_push_size _ rfl),rfl⟩,o,Heap.get?_push_of_some _ (Heap.get?_push_of_some _ ho),hd,hf⟩ (strs_map fun e he=>hst e (hpe.mem_iff.mp he)) ?_ (fun b o e=>Heap.get?_push_of_some _ (Heap.get?_push_of_some _ e)) (Nat.le_succ _) (fun b hb=>?_)
   ·rw [← hzs]
    exact hpe.map _
   ·rcases List.mem_cons.mp hb with z | z
    ·exact .inr (by rw [z];exact Nat.le_succ _)
    ·rcases List.mem_cons.mp z with z | z
     ·exact .inr (by rw [z];exact Nat.le_refl _)
     ·exact .inl (List.mem_singleton.mp z)
end
end PySem
namespace PySem
open L2 PyProof.Rows
section
variable {prog:Program} {w:World} {A:Around} {E:Value→Shared→Prop} {s:Shared} {a:Addr} {zs:List Str}
theorem G6 {Q:Bool→Shared→Prop} (hT:s.TypeIs (.ref a) "set") (h:Q false s):wpAny (model prog w) A (Builtin.List.listLengthHint (.ref a)) Q E s:=by
 unfold Builtin.List.listLengthHint
 refine wpAny_bind (wpAny_specialOf hT PySem.F.slot_set_len.lookup ?_)
 generalize hid:("set.__len__":String)=id0
 wp_delta
 rw [show splitId id0=some ("set","__len__") from by subst hid;decide +kernel]
 subst hid
 refine wpAny_bind (wpAny_isInstance (T:="set") (b:=true) hT (by rw [isSubtype_type];kernel_rfl) ?_)
 refine wpAny_ite_split (fun hab=>absurd hab (by decide)) (fun _=>?_)
 refine wpAny_ite_split (fun _=>?_) (fun hab=>absurd (by decide +kernel) hab)
 refine wpAny_bind (wpAny_typeOf hT ?_)
 exact wpAny_pure h
theorem G0 {vs:List Value} {acc:Array Value} (h:ItemsOf (fun i v=>vs[i]?=some v) acc vs.length):acc.toList=vs:=by
 apply List.ext_getElem?
 intro i
 rw [Array.getElem?_toList]
 by_cases hi:i < acc.size
 ·rw [Array.getElem?_eq_getElem hi,h.2 i acc[i] (by simp [hi])]
 ·have h1:=h.1
  rw [Array.getElem?_eq_none (by omega),List.getElem?_eq_none (by omega)]
theorem Kf {R:Result→Shared→Prop} (hh:A.handled=none) (hS:kN prog w s.heap a zs) (S:Addr) (hSa:S≠a) (res:Value) (c₀:Nat) (hL:s.heap.get? S=some { cls:=.type "list",data:=.seq #[] c₀ })
  (hR:∀ h' tk d acc' c' zs',(∀ b o,b≠S→s.heap.get? b=some o→h'.get? b=some o)→h'.get? S=some { cls:=.type "list",dict:=none,data:=.seq acc' c',slots:=#[] }→StrsAre acc'.toList zs'→List.Perm zs' zs →
   R (.ok (.ret res)) { s with heap:=h',toks:=tk,drawn:=d }) (hn:zs.length≤sizeLine) :
  wpAny (model prog w) A.in1 (Builtin.List.listExtendWith (.ref S) (.ref a) res)
   (fun fin s'=>match fin with | .done f=>R (.ok f) s' | .again c'=>c'.quiet=true∧codeAny (model prog w) A c' R s') (fun e s'=>R (.error e) s') s:=by
 have hTy:s.TypeIs (.ref a) "set":=let ⟨o,_,_,_,ho,hex,_⟩:=hS;⟨o,ho,hex.1⟩
 have hSl:S < s.heap.objs.size:=Heap.lt_size hL
 unfold Builtin.List.listExtendWith
 refine wpAny_bind (wpAny_typeOf (T:="set") hTy ?_)
 have h1:Builtin.List.listSameRef (.ref S) (.ref a)=false:=by simp [Builtin.List.listSameRef,hSa]
 have nl:(Value.type "set" == Value.type "list")=false:=by decide
 have nt:(Value.type "set" == Value.type "tuple")=false:=by decide
 simp only [h1,nl,nt,Bool.or_false,Bool.false_eq_true,if_false]
 refine wpAny_bind (GZ hS fun I fp St vs zs' hI d W st hvs hp kp hIl hfp=>?_)
 have hvl:vs.length=zs.length:=by rw [StrsAre.length hvs,hp.length_eq]
 have hSf:S ∉ fp:=fun hm=>(hfp S hm).elim hSa fun z=>absurd hSl (Nat.not_lt.mpr z)
 have key:∀ (h:Heap) (c₁ tk:Nat),St 0 h→(∀ b o,b≠S→s.heap.get? b=some o→h.get? b=some o) →
   h.get? S=some { cls:=.type "list",data:=.seq #[] c₁ }→codeAny (model prog w) A (.builtin "list.extend.loop" ⟨[.ref S,.ref I,res],[]⟩) R { s with heap:=h,toks:=tk,drawn:=d }:=by
  intro h c₁ tk hst hk hS₁
  refine codeAny_extend_loopS (W A.in1 hh).toS hn S hSf res zs.length 0 _ #[] c₁ rfl (Nat.zero_le _) hst hS₁ (ItemsOf.nil _) fun s' acc' c' hm hS' hacc=>?_
  rw [Moved.eq_with hm]
  refine hR s'.heap s'.toks d acc' c' zs' (fun b o hb e=>hm.heap b o (fun hmem=>?_) (hk b o hb e)) hS' ?_ hp
  ·rcases List.mem_cons.mp hmem with e' | hmem
   ·exact hb e'
   ·exact absurd (Heap.lt_size e) (by rw [List.mem_singleton.mp hmem];exact Nat.not_lt.mpr hIl)
  ·rw [G0 (by rw [hvl];exact hacc)]
   exact hvs
 have hS₁:=kp S _ hL
 refine wpAny_bind (wpAny_holding (G6 (let ⟨o,ho,hc⟩:=hTy;⟨o,kp _ _ ho,hc⟩) ?_))
 refine wpAny_ite_split (fun _=>?_) (fun _=>wpAny_pure ⟨plainId_quiet PySem.F.plain_extend_loop _,key _ c₀ _ st (fun b o _ e=>kp b o e) hS₁⟩)
 refine wpAny_bind (wpAny_rule ?_)
 refine wpAny_bind ?_
 show wpAny _ _ (updateSeq S (·.push .none) >>= fun _=>updateSeq S (·.pop)) _ _ _
 refine wpAny_bind (wpAny_updateSeq hS₁ rfl ?_)
 have hS₂:=Heap.get?_update_self (Obj.mapSeq (·.push Value.none)) hS₁ rfl
 refine wpAny_updateSeq (hz:=by seq_fits) hS₂ rfl ?_
 have hS₃:=Heap.get?_update_self (Obj.mapSeq (·.pop)) hS₂ rfl
 refine wpAny_pure ⟨plainId_quiet PySem.F.plain_extend_loop _,key _ _ _ ?_ (fun b o hb e=>?_) hS₃⟩
 ·refine (W A.in1 hh).frame 0 _ _ st fun b hb o e=>?_
  have hbS:b≠S:=fun h=>hSf (h ▸ hb)
  exact (Heap.get?_update_other _ _ (Ne.symm hbS)).trans ((Heap.get?_update_other _ _ (Ne.symm hbS)).trans e)
 ·exact (Heap.get?_update_other _ _ (Ne.symm hb)).trans ((Heap.get?_update_other _ _ (Ne.symm hb)).trans (kp b o e))
theorem Iv {R:List Value→Shared→Prop} (hh:A.handled=none) (hS:kN prog w s.heap a zs) (hn:zs.length≤sizeLine)
  (h:∀ (h':Heap) (tk:Nat) (d:Drawn) (acc:Array Value) (zs':List Str),(∀ b o,s.heap.get? b=some o→h'.get? b=some o)→StrsAre acc.toList zs'→List.Perm zs' zs→R acc.toList { s with heap:=h',toks:=tk,drawn:=d }) :
  wpAny (model prog w) A (collect (.ref a)) R E s:=by
 have hlt:a < s.heap.objs.size:=let ⟨o,_,_,_,ho,_⟩:=hS;Heap.lt_size ho
 unfold collect
 refine wpAny_bind (wpAny_runValue (codeAny_builtin entry_proto_collect' ?_))
 rw [Around.under_plainId PySem.F.plain_proto_collect _]
 show wpAny _ A.in1 (newList [] >>= fun l=>again (.builtin "list.__iadd__" ⟨[l,.ref a],[]⟩)) _ _ s
 refine wpAny_bind (wpAny_newObj_type ?_)
 refine wpAny_pure ⟨plainId_quiet PySem.F.plain_list_iadd _,codeAny_builtin entry_list_iadd' ?_⟩
 rw [Around.under_plainId PySem.F.plain_list_iadd _]
 have hS₁:(s.heap.push { cls:=.type "list",data:=.seq ([]:List Value).toArray }).get? s.heap.objs.size=some { cls:=.type "list",data:=.seq #[] }:=Heap.get?_push_size _ rfl
 show wpAny _ A.in1 (Builtin.List.listExtendWith (.ref s.heap.objs.size) (.ref a) (.ref s.heap.objs.size)) _ _ _
 have key:=Kf (A:=A) (s:={ s with heap:=s.heap.push { cls:=.type "list",data:=.seq ([]:List Value).toArray } })
  (R:=fun (q:Result) (s':Shared)=>∃ (h':Heap) (tk:Nat) (d:Drawn) (acc':Array Value) (c':Nat) (zs':List Str),q=.ok (.ret (.ref s.heap.objs.size))∧s'={ s with heap:=h',toks:=tk,drawn:=d } ∧
   (∀ b o,s.heap.get? b=some o→h'.get? b=some o)∧h'.get? s.heap.objs.size=some { cls:=.type "list",dict:=none,data:=.seq acc' c',slots:=#[] }∧StrsAre acc'.toList zs'∧List.Perm zs' zs)
  hh (hS.at fun o e=>Heap.get?_push_of_some _ e) s.heap.objs.size (Nat.ne_of_gt hlt) (.ref s.heap.objs.size) 0 hS₁
  (fun h' tk d acc' c' zs' hk hS' hacc hp=>⟨h',tk,d,acc',c',zs',rfl,rfl,fun b o e=>hk b o (Nat.ne_of_lt (Heap.lt_size e)) (Heap.get?_push_of_some _ e),hS',hacc,hp⟩) hn
 refine wpAny_mono key (fun fin s' x=>?_) fun e s' x=>?_
 ·cases fin with
  | done f =>
   obtain ⟨h',tk,d,acc',c',zs',e,rfl,hk,hS',hacc,hp⟩:=x
   cases e
   show wpAny _ A (load s.heap.objs.size >>= _) _ _ _
   refine wpAny_bind (wpAny_load hS' ?_)
   exact wpAny_pure (h h' tk d acc' zs' hk hacc hp)
  | again c₁ =>
   refine ⟨x.1,codeAny_mono x.2 fun q s₂ y=>?_⟩
   obtain ⟨h',tk,d,acc',c',zs',rfl,rfl,hk,hS',hacc,hp⟩:=y
   show wpAny _ A (load s.heap.objs.size >>= _) _ _ _
   refine wpAny_bind (wpAny_load hS' ?_)
   exact wpAny_pure (h h' tk d acc' zs' hk hacc hp)
 ·obtain ⟨_,_,_,_,_,_,e',_⟩:=x
  cases e'
end
end PySem
namespace L2
open PySem PySem.Spec PyProof.Rows Hw
def Jw (P:Program) (w:World) (a:Addr) (ss:List Str):HO:=.ext fun h=>∃ zs,kN P w h a zs∧(∀ x,x∈zs↔x∈ss)∧zs.length < 64
section
variable {X:Cx}
theorem Inv.drew {pins:List (Addr×Obj)} {σ:St} {H:Hp} {s:Shared} (I:Inv X pins σ H s) (d:Drawn):Inv X pins σ H { s with drawn:=d }:=⟨I.ok,I.os,I.bare,I.base,I.loc,I.cell,I.free,I.kQ,I.pin,I.hok,I.len⟩
theorem Ew (hc:X.calm=true):jG X (.type "set") (fun xs H Q=>∃ (p:Addr) (ss:List Str),xs=[.ref p]∧bz X.K H p (ss.map V.str)∧ss.length < 64∧∀ q,H q=none→Q (.ref q) (upd H q (Jw X.prog X.w q ss))):=by
 intro pins s σ H xs us Q I r h
 obtain ⟨p,ss,rfl,hq,hl,q⟩:=h
 obtain ⟨u,rfl,rx⟩:=vals1 r
 cases rx
 obtain ⟨its,r',pl,hz⟩:=I.list hq
 have hlen:=r'.length
 rw [List.length_map] at hlen
 refine vo (I.ok.hd hc) pl.isList (ss:=ss) (by simpa using qG r') (by simp only [List.size_toArray];unfold scanBound;omega) fun h' tk zs hS hm PJ kp=>?_
 simp only [List.size_toArray] at PJ
 have L:=I.GV (h':=h') (a:=s.heap.objs.size) (o:=Jw X.prog X.w s.heap.objs.size ss) (t':=tk) (fun b u e=>kp b u (Heap.lt_size e) e) (fun b u e=>Nat.ne_of_lt (Heap.lt_size e))
  ⟨⟨zs,hS,hm,by omega⟩,let ⟨o,_,_,_,ho,_⟩:=hS;⟨o,ho⟩,fun h1 h2 ⟨zs,x,y⟩ k=>⟨zs,x.at k,y⟩⟩
 exact ⟨.ref s.heap.objs.size,_,L.2,rfl,q _ L.1⟩
theorem yv (hc:X.calm=true):jG X (.builtin "sorted") (fun xs H Q=>∃ (p:Addr) (ss:List Str),xs=[.ref p]∧H p=some (Jw X.prog X.w p ss) ∧
  ∀ (l:Addr) (ys:List Str),H l=none→(∀ x,x∈ys↔x∈ss)→ys.Nodup→ys.length < 64→ys.Pairwise (fun a b=>Hw.lt b a=false)→Q (.ref l) (upd H l (.lst (ys.map V.str)))):=by
 intro pins s σ H xs us Q I r h
 obtain ⟨p,ss,rfl,hp,q⟩:=h
 obtain ⟨u,rfl,ru⟩:=vals1 r
 cases ru
 obtain ⟨⟨zs,hS,hm,h64⟩,_,_⟩:=I.hok p _ hp
 have hnd:zs.Nodup:=let ⟨_,_,_,_,_,_,_,_,_,_,n,_⟩:=hS;n
 have s64:64≤sizeLine:=by rw [sizeLine_eq];decide
 refine Calls.call_function_entry kind_sorted plain_sorted entry_sorted (args_sorted1 _) ?_
 unfold Builtin.«sorted»
 refine wpAny_bind (m:=checkCount "sorted" 1 1 _) (wpAny_pure (wpAny_bind (Iv (A:=X.A.in1) (I.ok.hd hc) hS (by omega) fun h' tk d acc zs' kp hS' Lb=>?_)))
 have hla:acc.toList.length < 64:=by rw [StrsAre.length hS',Lb.length_eq];exact h64
 refine wpAny_bind (wpAny_newList ?_ (by omega))
 have ho:(h'.push (seqObj "list" acc.toList.toArray 0)).get? h'.objs.size=some (seqObj "list" acc.toList.toArray 0):=Heap.get?_push_size _ rfl
 refine wpAny_bind (wpAny_holding (wpAny_call_entry slot_list_sort ⟨_,ho,rfl⟩ entry_list_sort (list_sort_treeK (s:={ s with heap:=h'.push (seqObj "list" acc.toList.toArray 0),toks:=tk,drawn:=d }) strKind_oneLt ho hS'.keysOf (fun v1 v2 rest e=>keyKind_strs (by rw [← e];exact hS')) hla fun st' a1 a2=>⟨_,rfl,?_⟩) (args_list_sort _)))
 obtain ⟨ss',b1,b2,b3⟩:=sorted_out_str hS' a1 a2
 obtain ⟨e,he⟩:=sortedHeap_at (out:=(arrOf st').map (·.2)) ho
 have hss:(ss'.map V.str).length≤sizeLine:=by
  have h2:(ss'.map V.str).length=acc.toList.length:=by rw [List.length_map,b2.length_eq,← StrsAre.length hS']
  omega
 have L:=I.GV (h':=sortedHeap (h'.push (seqObj "list" acc.toList.toArray 0)) h'.objs.size acc.toList ((arrOf st').map (·.2))) (a:=h'.objs.size) (o:=.lst (ss'.map V.str)) (t':=tk)
  (fun b u q=>by
   have l:=Heap.lt_size (kp b u q)
   rw [sortedHeap_old (Nat.ne_of_lt l) (by rw [Heap.size_push];exact Nat.lt_succ_of_lt l)]
   exact Heap.get?_push_of_some _ (kp b u q))
  (fun b u q=>Nat.ne_of_lt (Heap.lt_size (kp b u q)))
  ⟨hss,((arrOf st').map (·.2)).toList,e,mV b1,by rw [Array.toArray_toList];exact he⟩
 have hall:=b2.trans Lb
 exact wpAny_pure ⟨_,rfl,.ref h'.objs.size,_,L.2.drew d,rfl,q _ ss' L.1 (fun x=>(hall.mem_iff).trans (hm x)) (hall.nodup_iff.mpr hnd) (by rw [hall.length_eq];exact h64) (oh _ b3)⟩
end
end L2
namespace Hw
open PySem L2
section
variable {Z:Cz} {H0 H H':Hp} {d tl sd hd p pf:Addr} {xs:List Str} {vt:V} {c c':Cd} {kvs kh:List (Key×V)} {S:Sb}
end
theorem aQ.trans {H H1 H2:Hp} (a:aQ H H1) (b:aQ H1 H2):aQ H H2:=⟨fun c xs e=>b.t _ _ (a.t _ _ e),fun c C dx fs e=>b.i _ _ _ _ (a.i _ _ _ _ e)⟩
end Hw
namespace Hw
open PySem L2
end Hw
namespace L2
open PySem PySem.Spec PyProof.Rows Hw
section
variable {X:Cx}
def eqB (b:Bool) (u:Value):Bool:=match u with | .bool c=>c == b | _=>false
end
end L2
namespace Hw
open PySem L2
theorem zd {ys:List Str} (h:ys.Pairwise (fun a b=>lt b a=false)) (n:ys.Nodup):ys.Pairwise (fun a b=>lt a b=true):=by
 unfold List.Nodup at n
 exact (h.and n).imp fun {a b} ⟨h1,h2⟩=>by
  rcases uc a b with z | z | z
  ·exact z
  ·exact absurd z h2
  ·rw [h1] at z;cases z
theorem vR:∀ {xs ys:List Str},xs.Pairwise (fun a b=>lt a b=true)→ys.Pairwise (fun a b=>lt a b=true)→(∀ x,x∈xs↔x∈ys)→xs=ys
 | [],[],_,_,_=>rfl
 | [],y::_,_,_,h=>absurd ((h y).mpr (List.mem_cons_self ..)) (fun z=>nomatch z)
 | x::_,[],_,_,h=>absurd ((h x).mp (List.mem_cons_self ..)) (fun z=>nomatch z)
 | x::xs,y::ys,p,q,h=>by
  obtain ⟨px,p'⟩:=List.pairwise_cons.mp p
  obtain ⟨qy,q'⟩:=List.pairwise_cons.mp q
  have e:x=y:=by
   rcases List.mem_cons.mp ((h x).mp (List.mem_cons_self ..)) with z | z
   ·exact z
   ·rcases List.mem_cons.mp ((h y).mpr (List.mem_cons_self ..)) with u | u
    ·exact u.symm
    ·have:=lt_trans (px y u) (qy x z)
     rw [nC] at this;cases this
  subst e
  have t:xs=ys:=vR p' q' fun z=>by
   constructor
   ·intro hz
    rcases List.mem_cons.mp ((h z).mp (List.mem_cons_of_mem _ hz)) with u | u
    ·subst u
     have:=px z hz
     rw [nC] at this;cases this
    ·exact u
   ·intro hz
    rcases List.mem_cons.mp ((h z).mpr (List.mem_cons_of_mem _ hz)) with u | u
    ·subst u
     have:=qy z hz
     rw [nC] at this;cases this
    ·exact u
  rw [t]
end Hw
namespace Hw
open PySem L2
end Hw
namespace Hw
open PySem L2
end Hw
namespace L2
open PySem PySem.Spec PyProof.Rows Hw
section
variable {X:Cx}
end
end L2
namespace Hw
open PySem L2
end Hw
namespace L2
open PySem PySem.Spec PyProof.Rows Hw
section
variable {X:Cx}
end
end L2
namespace Hw
open PySem L2
inductive Rw where
 | any (x:Str)
 | lt (x:Str) (a:Ps) (n:Int)
 | hold (c:Cd)
theorem gi {H:Hp} {l:Addr} {xs ys:List V} (h:H l=some (.lst xs)):aQ H (upd H l (.lst ys)) :=
 ⟨fun a zs e=>by rw [aL (vW e h (by intro w;cases w))];exact e,fun a C dx fs e=>by rw [aL (vW e h (by intro w;cases w))];exact e⟩
theorem qH {H:Hp} {a b:Addr} {o:HO} (h:upd H a o b=none):H b=none:=by
 by_cases e:b=a
 ·subst e;rw [ah] at h;cases h
 ·rw [aL e] at h;exact h
end Hw
namespace PySem
open Sem (wp)
section
variable {prog:Program} {w:World} {A:Around} {E:Value→Shared→Prop} {s:Shared}
theorem JS {j t:Addr} {i:Nat} {its:Array Value} {x:Value} {Q:Value→Shared→Prop} (hj:s.heap.IsTupleIter j t i) (ht:s.heap.IsTuple t its) (hx:its[i]?=some x)
  (hQ:∀ h',h'.IsTupleIter j t (i+1)→Heap.SameBut j s.heap h'→Q x { s with heap:=h' }):wpAny (model prog w) A (Builtin.SmallTypes.nextOf (.ref j)) Q E s:=by
 obtain ⟨oj,ej,cj,dj⟩:=id hj
 obtain ⟨ot,et,_,nt,dt⟩:=ht
 unfold Builtin.SmallTypes.nextOf
 refine wpAny_bind (wpAny_callSpecial?_slot (name:=Str.ofString "__next__") hj.typeIs F.slot_tuple_iterator_next (wpAny_call_entry F.slot_tuple_iterator_next hj.typeIs F.entry_tuple_iterator_next ?_ (F.args_tuple_iterator_next_1 _)))
 show wpAny _ _ (field (Value.ref j) 0 >>= _) _ _ s
 refine wpAny_bind (wpAny_field ej dj (x:=.ref t) rfl ?_)
 show wpAny _ _ (if (Value.ref t == Value.none)=true then _ else _) _ _ _
 rw [if_neg (by intro z;cases z)]
 show wpAny _ _ (field (Value.ref j) 1 >>= _) _ _ s
 refine wpAny_bind (wpAny_field ej dj (x:=.int i 0) rfl ?_)
 show wpAny _ _ (seqItems? (Value.ref t) >>= _) _ _ s
 refine wpAny_bind (wpAny_seqItems et dt ?_)
 simp only [hx,Int.toNat_natCast]
 refine wpAny_bind (wpAny_setField ej dj (by simp) (wpAny_pure ⟨x,rfl,wpAny_pure (hQ _ ⟨_,Heap.get?_update_self _ ej (Obj.isFreed_of_fields (Obj.data_mapFields dj _)),(Obj.cls_mapFields ..).trans cj,?_⟩ (Heap.SameBut.update ..))⟩))
 rw [Obj.data_mapFields dj]
 simp [rawInt]
theorem zu {j t:Addr} {i:Nat} {its:Array Value} {Q:Value→Shared→Prop} (hh:A.handled=none) (hj:s.heap.IsTupleIter j t i) (ht:s.heap.IsTuple t its) (hx:its[i]?=none)
  (hE:∀ h' e,Heap.ExtBut j s.heap h'→(∃ o,h'.get? e=some o∧o.cls=.type "StopIteration")→E (.ref e) { s with heap:=h' }):wpAny (model prog w) A (Builtin.SmallTypes.nextOf (.ref j)) Q E s:=by
 obtain ⟨oj,ej,cj,dj⟩:=id hj
 obtain ⟨ot,et,_,nt,dt⟩:=ht
 unfold Builtin.SmallTypes.nextOf
 refine wpAny_bind (wpAny_callSpecial?_slot (name:=Str.ofString "__next__") hj.typeIs F.slot_tuple_iterator_next (wpAny_call_entry F.slot_tuple_iterator_next hj.typeIs F.entry_tuple_iterator_next ?_ (F.args_tuple_iterator_next_1 _)))
 show wpAny _ _ (field (Value.ref j) 0 >>= _) _ _ s
 refine wpAny_bind (wpAny_field ej dj (x:=.ref t) rfl ?_)
 show wpAny _ _ (if (Value.ref t == Value.none)=true then _ else _) _ _ _
 rw [if_neg (by intro z;cases z)]
 show wpAny _ _ (field (Value.ref j) 1 >>= _) _ _ s
 refine wpAny_bind (wpAny_field ej dj (x:=.int i 0) rfl ?_)
 show wpAny _ _ (seqItems? (Value.ref t) >>= _) _ _ s
 refine wpAny_bind (wpAny_seqItems et dt ?_)
 simp only [hx,Int.toNat_natCast]
 refine wpAny_bind (wpAny_rule (wpAny_bind (wpAny_setField ej dj (by simp) ?_)))
 show wpAny _ _ (newExc (Value.type "StopIteration") [] >>= _) _ _ _
 refine wpAny_bind ?_
 simp only [newExc,newTuple]
 refine wpAny_bind (wpAny_newObj_type ?_ (by size_fits))
 refine wpAny_bind (m:=firstArgMember _ _) (wpAny_of_eq (a:=Value.none) (by first | rfl | (simp only [firstArgMember] <;> rfl)) ?_)
 refine wpAny_newObj_type ?_ (by size_fits)
 simp only [raiseNew]
 refine wpAny_bind (wpAny_handled ?_)
 first
  | rw [show A.in1.handled=none from hh]
  | rw [hh]
 refine wpAny_bind (wpAny_pure (wpAny_throw (hE _ _ (((Heap.SameBut.update ..).extBut.push _).push _) ⟨_,Heap.get?_push_size _ rfl,rfl⟩)))
theorem Ku {B:Around} (hh:B.handled=none) (j t:Addr) (hne:t≠j) (its:Array Value) :
  Draws prog w B j [j,t] its.size (fun i v=>its[i]?=some v) (fun i h=>h.IsTupleIter j t i∧h.IsTuple t its) where
 live:=fun _ _ st=>let ⟨o,ho,_⟩:=st.1;⟨o,ho⟩
 frame:=fun _ _ _ st hk=>⟨let ⟨o,ho,r⟩:=st.1;⟨o,hk j (by simp) o ho,r⟩,let ⟨o,ho,r⟩:=st.2;⟨o,hk t (by simp) o ho,r⟩⟩
 item:=fun i s Q E hi st hQ=>JS st.1 st.2 (x:=its[i]) (by simp [hi]) fun h' a b=>hQ _ h' s.toks (by simp [hi]) ⟨a,st.2.extBut b.extBut hne⟩ b
 done:=fun s Q E st hE=>zu hh st.1 st.2 (by simp) hE
set_option maxHeartbeats 4000000 in
theorem Ib (t:Addr) (its:Array Value) (n:Nat) (dd:Option Addr) (sl:Array (Option Value)) :
  Meets (Builtin.«enumerate.__new__» ⟨[.type "enumerate",.ref t],[]⟩) (fun _ R s=>s.heap.get? t=some { cls:=.type "tuple",dict:=dd,data:=.seq its n,slots:=sl } ∧
   R (.ok (.ret (.ref (s.heap.push { cls:=.type "tuple_iterator",data:=.fields #[.ref t,.int 0 0] }).objs.size)))
    { s with heap:=(s.heap.push { cls:=.type "tuple_iterator",data:=.fields #[.ref t,.int 0 0] }).push { cls:=.type "enumerate",data:=.fields #[.none,.bool false,.ref s.heap.objs.size,rawInt 0,.none,.none] } }) :=
 .of_wp fun prog w A R s h=>by
  obtain ⟨hp,g,d,tk,os⟩:=s
  obtain ⟨hl,h⟩:=h
  have hsub:=sub_enumerate
  have hT:Heap.IsTuple (Shared.heap ⟨hp,g,d,tk,os⟩) t its:=⟨_,hl,rfl,n,rfl⟩
  wp_walk using AutoSeq1.wpAny_loadPart' hl
  refine wpAny_stack_any fun st=>wpAny_pure ?_
  split
  ·rename_i c _ _ _ _ _
   cases (c == Value.type "enumerate") <;> (wp_walk using AutoSeq1.wpAny_loadPart' hl,wpAny_pyIter_tuple hT;exact ⟨_,rfl,h⟩)
  ·wp_walk using AutoSeq1.wpAny_loadPart' hl,wpAny_pyIter_tuple hT
   exact ⟨_,rfl,h⟩
theorem Ex {t:Addr} {its:Array Value} {Q:Value→Shared→Prop} (hT:s.heap.IsTuple t its)
  (h:∀ h',IsEnum h' (s.heap.objs.size+1) s.heap.objs.size 0 .none→h'.IsTupleIter s.heap.objs.size t 0→h'.objs.size=s.heap.objs.size+2→(∀ b o,s.heap.get? b=some o→h'.get? b=some o)→Q (.ref (s.heap.objs.size+1)) { s with heap:=h' }) :
  wpAny (model prog w) A (call (.type "enumerate") [.ref t]) Q E s:=by
 obtain ⟨⟨c,dd,dt,sl⟩,hl,hc,n,hd⟩:=hT
 replace hc:c=.type "tuple":=hc
 replace hd:dt=.seq its n:=hd
 subst hc hd
 refine callType_new F.called_enumerate (by decide) (F.typeCall_enumerate_1 _) (F.newCall_enumerate_1 _) (fun obj=>F.args_object_init_2 obj _) F.entry_enumerate_new (Ib t its n dd sl) ⟨hl,?_⟩
 have hz:(s.heap.push { cls:=.type "tuple_iterator",data:=.fields #[.ref t,.int 0 0] }).objs.size=s.heap.objs.size+1:=Heap.size_push ..
 show _∧_
 rw [hz]
 have he:IsEnum ((s.heap.push { cls:=.type "tuple_iterator",data:=.fields #[.ref t,.int 0 0] }).push { cls:=.type "enumerate",data:=.fields #[.none,.bool false,.ref s.heap.objs.size,rawInt 0,.none,.none] }) (s.heap.objs.size+1) s.heap.objs.size 0 .none:=by
  have q:=Heap.get?_push_size (s.heap.push { cls:=.type "tuple_iterator",data:=.fields #[.ref t,.int 0 0] }) (o:={ cls:=.type "enumerate",data:=.fields #[.none,.bool false,.ref s.heap.objs.size,rawInt 0,.none,.none] }) rfl
  rw [hz] at q
  exact q
 exact ⟨⟨_,he,rfl⟩,h _ he ⟨_,Heap.get?_push_of_some _ (Heap.get?_push_size _ rfl),rfl,rfl⟩ (by rw [Heap.size_push,hz]) fun b o x=>Heap.get?_push_of_some _ (Heap.get?_push_of_some _ x)⟩
end
end PySem
namespace L2
open PySem PySem.Spec PyProof.Rows Hw
section
variable {X:Cx}
theorem JH:mJ X (compareOp .IsNot) (fun x y H Q=>∃ b,x=.bl b∧y=.bl true∧Q (.bl (!b)) H):=by
 intro pins s σ H x y v u Q I rx ry h
 obtain ⟨b,rfl,rfl,q⟩:=h
 cases rx
 cases ry
 refine isnot_bool (cC I q ?_)
 cases b <;> rfl
def vz (H:Hp) (a:Addr) (xs:List V):Prop:=H a=some (.lst xs)∨H a=some (.tup xs)
theorem Inv.Jl {pins:List (Addr×Obj)} {σ:St} {H:Hp} {s:Shared} {h':Heap} {t':Nat} {a b:Addr} (I:Inv X pins σ H s) (k:∀ c o,c≠a→c≠b→s.heap.get? c=some o→h'.get? c=some o) (fa:kY X pins H a) (fb:kY X pins H b):Inv X pins σ H { s with heap:=h',toks:=t' }:=by
 have na:∀ c u,H c=some u→c≠a:=fun c u e z=>by rw [z,fa.1] at e;cases e
 have nb:∀ c u,H c=some u→c≠b:=fun c u e z=>by rw [z,fb.1] at e;cases e
 have k2:∀ c o,c ∉ [a,b]→s.heap.get? c=some o→h'.get? c=some o:=fun c o hc e=>k c o (fun z=>hc (by simp [z])) (fun z=>hc (by simp [z])) e
 refine I.step (g':=s.gens) (d':=s.drawn) (ch:=[a,b]) (fun c hc=>?_) (fun c o _ _ hc e _=>k2 c o hc e) (fun c o _ _ hc e _=>⟨o.slots,k2 c o hc e⟩) (fun _ _ _ _ n=>n)
  (fun c o hc e=>⟨o,k2 c o hc e⟩) (fun _ _ e=>e) (fun _ _ _ e=>e) (fun c ps e=>⟨#[],by rw [e];simp⟩) (fun m hm=>?_) (fun c u e=>?_) I.bare
 ·obtain ⟨_,a1,_,a3,a4,a5⟩:=fa
  obtain ⟨_,b1,_,b3,b4,b5⟩:=fb
  have e:c=a∨c=b:=by simpa using hc
  rcases e with e | e <;> subst e
  ·exact ⟨a3,a1,a4,a5⟩
  ·exact ⟨b3,b1,b4,b5⟩
 ·obtain ⟨o,es,ep,ho,r⟩:=hm
  exact ⟨o,es,ep,k _ o (Ne.symm fa.2.1) (Ne.symm fb.2.1) ho,r⟩
 ·refine (I.hok c u e).stay (fun d v hd q=>k d v ?_ ?_ q) (fun _ q=>q) fun _ _ q=>q
  ·rcases hd with z | z
   ·rw [z];exact na c u e
   ·exact na d _ z
  ·rcases hd with z | z
   ·rw [z];exact nb c u e
   ·exact nb d _ z
end
def Nm (K:PySem.W.Frag) (k:Bool) (H:Hp) (a:Addr) (xs:List V):Prop:=if k then bz K H a xs else cR K H a xs
def Od (K:PySem.W.Frag) (k:Bool) (a:Addr):It :=
 ⟨fun i H=>∃ xs x,Nm K k H a xs∧xs[i]?=some x,fun i H x H'=>∃ t y,H t=none∧x=.ref t∧(∀ xs,Nm K k H a xs→xs[i]?=some y)∧H'=upd H t (.tup [.int i,y]),fun i H=>∃ xs,Nm K k H a xs∧xs.length≤i⟩
theorem Js {X:Cx} {pins:List (Addr×Obj)} {σ:St} {H:Hp} {s:Shared} {k:Bool} {a:Addr} {xs ys:List V} (I:Inv X pins σ H s) (h:Nm X.K k H a xs) (g:Nm X.K k H a ys):xs=ys:=by
 cases k
 ·exact I.vL h g
 ·exact I.zE h g
def Oc (k:Bool) (j a:Addr) (i:Nat) (h:Heap):Prop:=if k then h.IsListIter j a i else h.IsTupleIter j a i
theorem CN {k:Bool} {j a:Addr} {i:Nat} {h:Heap} (st:Oc k j a i h):∃ o,h.get? j=some o∧∀ v,o.data≠.cell v:=by
 cases k
 ·obtain ⟨o,e,c,d⟩:=(show h.IsTupleIter j a i from st)
  exact ⟨o,e,fun v z=>by rw [d] at z;cases z⟩
 ·obtain ⟨o,e,c,d⟩:=(show h.IsListIter j a i from st)
  exact ⟨o,e,fun v z=>by rw [d] at z;cases z⟩
theorem zM {k:Bool} {j a:Addr} {i:Nat} {h h':Heap} (st:Oc k j a i h) (e:∀ o,h.get? j=some o→h'.get? j=some o):Oc k j a i h':=by
 cases k
 ·obtain ⟨o,q,r⟩:=(show h.IsTupleIter j a i from st)
  exact ⟨o,e o q,r⟩
 ·obtain ⟨o,q,r⟩:=(show h.IsListIter j a i from st)
  exact ⟨o,e o q,r⟩
theorem G3 {X:Cx} {pins:List (Addr×Obj)} {σ:St} {H:Hp} {s:Shared} {k:Bool} {j a:Addr} {xs:List V} (hc:X.calm=true) (I:Inv X pins σ H s) (hq:Nm X.K k H a xs) (nja:a≠j) :
  ∃ its:List Value,Vals xs its∧∃ St:Nat→Heap→Prop,Draws X.prog X.w X.A.in1 j [j,a] its.length (fun i v=>its[i]?=some v) St∧(∀ i,Oc k j a i s.heap→St i s.heap)∧∀ i h,St i h→Oc k j a i h:=by
 have hh:X.A.in1.handled=none:=I.ok.hd hc
 cases k
 ·obtain ⟨its,rv,p,_⟩:=I.tuple (show cR X.K H a xs from hq)
  have D:=Ku (prog:=X.prog) (w:=X.w) (B:=X.A.in1) hh j a nja its.toArray
  refine ⟨its,rv,fun i h=>h.IsTupleIter j a i∧h.IsTuple a its.toArray,?_,fun i st=>⟨st,p⟩,fun i h st=>st.1⟩
  simpa using D
 ·obtain ⟨its,rv,p,_⟩:=I.list (show bz X.K H a xs from hq)
  have D:=Draws.list (prog:=X.prog) (w:=X.w) (A:=X.A.in1) hh j a nja its.toArray
  refine ⟨its,rv,fun i h=>h.IsListIter j a i∧h.IsList a its.toArray,?_,fun i st=>⟨st,p.isList⟩,fun i h st=>st.1⟩
  simpa using D
theorem vK {P:Program} {w:World} {K:PySem.W.Frag} {elts:List Expr} {x1:Nat} {pos:Pos} (k:Bool) (a e j:Addr) (XC:e≠j) (nae:a≠e) (naj:a≠j) :
  Turn P w K (.Tuple elts x1 pos) (Od K k a) [e,j] e (fun i h=>(∃ old,IsEnum h e j i old)∧Oc k j a i h) where
 mem:=by simp
 obj:=fun i h st b hb=>by
  obtain ⟨⟨old,he⟩,hi⟩:=st
  have q:b=e∨b=j:=by simpa using hb
  rcases q with q | q <;> subst q
  ·exact ⟨_,he,fun v z=>by
    have z':Data.fields _=Data.cell v:=z
    cases z'⟩
  ·exact CN hi
 keep:=fun i h h' st q=>⟨let ⟨old,he⟩:=st.1;⟨old,q e (by simp) _ he⟩,zM st.2 fun o z=>q j (by simp) o z⟩
 item:=by
  intro X hP hw hK hc i pins s σ H E I hf st hg
  subst hP hw hK
  obtain ⟨⟨old,he⟩,hi⟩:=st
  obtain ⟨xs,x,hq,hx⟩:=hg
  obtain ⟨its,rv,St,D,d1,d2⟩:=G3 hc I hq naj
  obtain ⟨u,hu,ru⟩:=rv.get hx
  have fe:=hf e (by simp)
  have fj:=hf j (by simp)
  have hlt:i < its.length:=(List.getElem?_eq_some_iff.mp hu).1
  have hel:e < s.heap.objs.size:=Heap.lt_size he
  have hjl:j < s.heap.objs.size:=by obtain ⟨o,z,_⟩:=CN hi;exact Heap.lt_size z
  refine wpAny_pyNext_enum_itemD D he (d1 i hi) hlt XC (by simp [XC,Ne.symm nae]) fun y h1 tk hP out st1 ht hsz hk=>?_
  have hyu:y=u:=Option.some.inj (hP.symm.trans hu)
  subst hyu
  refine ⟨_,rfl,?_⟩
  refine wpAny_letOwnedTupleGo_enum out fun h2 he2 sb=>?_
  have hn:H s.heap.objs.size=none:=I.hok.fresh (Nat.le_refl _)
  have I1:Inv X pins σ (upd H s.heap.objs.size (.tup [.int i,x])) { s with heap:=s.heap.push { cls:=.type "tuple",data:=.seq #[.int i tk,y] },toks:=tk+1 } :=
   I.laid (t':=tk+1) (o:=.tup [.int i,x]) (fun b o q=>Heap.get?_push_of_some _ q) (Nat.le_refl _)
    ⟨by show 2≤sizeLine;rw [sizeLine_eq];omega,[.int i tk,y],.cons ⟨_,rfl⟩ (.cons ru .nil),_,Heap.get?_push_size _ rfl,rfl,_,rfl⟩
  have ne1:s.heap.objs.size≠e:=Nat.ne_of_gt hel
  have ne2:s.heap.objs.size≠j:=Nat.ne_of_gt hjl
  have up:∀ {b:Addr},b≠s.heap.objs.size→kY X pins H b→kY X pins (upd H s.heap.objs.size (.tup [.int i,x])) b:=fun nb f=>⟨by rw [aL nb];exact f.1,f.2⟩
  have I2:Inv X pins σ (upd H s.heap.objs.size (.tup [.int i,x])) { s with heap:=h2,toks:=tk+1 } :=
   Inv.Jl (s:={ s with heap:=s.heap.push { cls:=.type "tuple",data:=.seq #[.int i tk,y] },toks:=tk+1 }) (t':=tk+1) (h':=h2) (a:=e) (b:=j) I1 (fun c o hce hcj q=>by
    refine sb.extBut c o hce ?_
    rcases Heap.get?_push_cases (show (s.heap.push { cls:=.type "tuple",data:=.seq #[.int i tk,y] }).get? c=some o from q) with ⟨e1,e2⟩ | e1
    ·rw [e1,e2];exact ht
    ·exact hk c o hce hcj e1) (up ne1.symm fe) (up ne2.symm fj)
  refine ⟨.ref s.heap.objs.size,_,I2,rfl,⟨_,x,hn,rfl,fun ys hy=>by rw [Js I hy hq];exact hx,rfl⟩,⟨⟨y,by simpa using he2⟩,zM (d2 _ _ st1) fun o z=>sb.extBut j o (Ne.symm XC) z⟩,fun b hb=>?_⟩
  have q:b=e∨b=j:=by simpa using hb
  rcases q with q | q <;> subst q
  ·exact (up ne1.symm fe).1
  ·exact (up ne2.symm fj).1
 done:=by
  intro X hP hw hK hc i pins s σ H E I hf st hg
  subst hP hw hK
  obtain ⟨⟨old,he⟩,hi⟩:=st
  obtain ⟨xs,hq,hx⟩:=hg
  obtain ⟨f0,f1,f2,f3,f4,f5⟩:=hf j (by simp)
  have key:∀ (its:List Value),Vals xs its→(its.toArray)[i]?=none:=fun its rv=>by
   have:=rv.length
   rw [List.getElem?_toArray]
   exact List.getElem?_eq_none_iff.mpr (by omega)
  have fin:∀ h',Heap.ExtBut j s.heap h'→(none:Option Value)=none∧Inv X pins σ H { s with heap:=h' }:=fun h' eb=>⟨rfl,I.turned (t':=s.toks) (fun b o hb z=>eb b o hb z) f0 f1 f3 f4 f5⟩
  have hT:s.TypeIs (.ref e) "enumerate":=⟨_,he,rfl⟩
  unfold pyNext
  refine wpAny_bind (wpAny_attempt (wpAny_callSpecial?_slot (name:=Str.ofString "__next__") hT F.slot_enumerate_next (wpAny_call_entry F.slot_enumerate_next hT F.entry_enumerate_next ?_ (F.args_enumerate_next_1 _))))
  show wpAny _ _ (field (Value.ref e) 2 >>= _) _ _ _
  refine wpAny_bind (wpAny_field he rfl (x:=.ref j) rfl ?_)
  have nx:∀ {Q:Value→Shared→Prop} {E':Value→Shared→Prop},(∀ h' z,Heap.ExtBut j s.heap h'→(∃ o,h'.get? z=some o∧o.cls=.type "StopIteration")→E' (.ref z) { s with heap:=h' })→wpAny (model X.prog X.w) X.A.in1 (Builtin.SmallTypes.nextOf (.ref j)) Q E' s:=fun hE=>by
   cases k
   ·obtain ⟨its,rv,p,_⟩:=I.tuple (show cR X.K H a xs from hq)
    exact zu (I.ok.hd hc) hi p (key its rv) hE
   ·obtain ⟨its,rv,p,_⟩:=I.list (show bz X.K H a xs from hq)
    exact wpAny_nextOf_list_end (I.ok.hd hc) hi p.isList (key its rv) hE
  refine wpAny_bind (nx fun h' x he' hx'=>?_)
  obtain ⟨o,ho,hcl⟩:=hx'
  refine wpAny_bind (wpAny_isInstance (T:="StopIteration") (b:=true) ⟨o,ho,hcl⟩ isSubtype_stop ?_)
  exact wpAny_pure (fin _ he')
 self:=fun _ _ _ _ _ st h=>let ⟨_,e⟩:=st.1;wpAny_pyIter_enum e h
section
variable {X:Cx} {l:Expr} {tl:TE} {p pos:Pos}
def PF (K:PySem.W.Frag) (tl:TA):TI:=fun σ H R=>tl σ H fun vs H1=>∃ a,vs=[.ref a]∧(((∃ xs,bz K H1 a xs)∧R (Od K true a) H1)∨((∃ xs,cR K H1 a xs)∧R (Od K false a) H1))
theorem JF {elts:List Expr} {x1:Nat} {tpos:Pos} {ta:TA} (hg:Gl X "enumerate") (hm:X.mg "enumerate"=none) (hv:bootBuiltins "enumerate"=some (.type "enumerate")) (ha:PA X [l] ta) (hs:starEach [l] X.env=[(false,eval l X.env)]:=by rfl):PI X (.Tuple elts x1 tpos) (.Call (.Name "enumerate" p) [l] [] pos) (PF X.K ta):=by
 intro pins s σ H R I h
 refine Call_ (uf I hg hm hv (PyProof.Rows.callWith_type1 (eY (ha pos pins s σ H _ I h) fun us s1 ⟨vs,H1,I1,r1,q1⟩=>?_) hs rfl))
 obtain ⟨a,rfl,q⟩:=q1
 obtain ⟨u,rfl,ru⟩:=vals1 r1
 cases ru
 have fp:∀ b,s1.heap.objs.size≤b→kY X pins H1 b:=fun b hb=>I1.DW hb (I1.hok.fresh hb)
 have fps:∀ b∈[s1.heap.objs.size+1,s1.heap.objs.size],kY X pins H1 b:=fun b hb=>by
  have z:b=s1.heap.objs.size+1∨b=s1.heap.objs.size:=by simpa using hb
  rcases z with z | z <;> subst z
  ·exact fp _ (Nat.le_succ _)
  ·exact fp _ (Nat.le_refl _)
 rcases q with ⟨⟨xs,hq⟩,q⟩ | ⟨⟨xs,hq⟩,q⟩
 ·obtain ⟨its,rv,pl,hz⟩:=I1.list hq
  have hlt:a < s1.heap.objs.size:=by obtain ⟨o,e,_⟩:=pl.isList;exact Heap.lt_size e
  refine call_enumerate_list pl.isList fun h' e1 e2 e3 kp=>wpAny_pyIter_enum e1 ?_
  exact ⟨_,_,_,_,H1,rfl,I1.kept (t':=s1.toks) kp,vK true a _ _ (Nat.succ_ne_self _) (Nat.ne_of_lt (Nat.lt_succ_of_lt hlt)) (Nat.ne_of_lt hlt),⟨⟨_,e1⟩,e2⟩,fps,q⟩
 ·obtain ⟨its,rv,pl,hz⟩:=I1.tuple hq
  have hlt:a < s1.heap.objs.size:=by obtain ⟨o,e,_⟩:=(show s1.heap.IsTuple a its.toArray from pl);exact Heap.lt_size e
  refine Ex (show s1.heap.IsTuple a its.toArray from pl) fun h' e1 e2 e3 kp=>wpAny_pyIter_enum e1 ?_
  exact ⟨_,_,_,_,H1,rfl,I1.kept (t':=s1.toks) kp,vK false a _ _ (Nat.succ_ne_self _) (Nat.ne_of_lt (Nat.lt_succ_of_lt hlt)) (Nat.ne_of_lt hlt),⟨⟨_,e1⟩,e2⟩,fps,q⟩
end
abbrev Nv (J:It) (g:TG) (tb:TS) (D:Ends) (σ:St) (H:Hp):Prop:=∃ W:Nat→Nat→St→Hp→Prop,(∃ m,W 0 m σ H)∧∀ i m σ H,W i m σ H →
 (J.stop i H∧D.nx σ H)∨(J.go i H∧∃ N:St→Hp→Prop,(∀ σ' H',N σ' H'→∃ m',m' < m∧W (i+1) m' σ' H')∧∀ x H',J.KS i H x H'→g x σ H' fun σ2 H2=>tb { D with nx:=N,ct:=N,bk:=D.nx } σ2 H2)
theorem wk {K:PySem.W.Frag} {k:Bool} {a:Addr} {xs:List V} {g:TG} {tb:TS} {D:Ends} {σ:St} {H:Hp} (Pv:Nat→St→Hp→Prop) (h0:Pv 0 σ H) (hl:∀ i σ H,Pv i σ H→Nm K k H a xs)
  (hs:∀ i x t σ H,xs[i]?=some x→H t=none→Pv i σ H→g (.ref t) σ (upd H t (.tup [.int i,x])) fun σ2 H2=>tb { D with nx:=Pv (i+1),ct:=Pv (i+1),bk:=D.nx } σ2 H2) (hd:∀ σ H,Pv xs.length σ H→D.nx σ H):Nv (Od K k a) g tb D σ H:=by
 refine ⟨fun i m σ H=>m=xs.length - i∧i≤xs.length∧Pv i σ H,⟨xs.length,by simp,Nat.zero_le _,h0⟩,?_⟩
 rintro i m σ H ⟨rfl,hi,p⟩
 have q:=hl i σ H p
 by_cases hlt:i < xs.length
 ·refine .inr ⟨⟨xs,xs[i],q,by simp [hlt]⟩,Pv (i+1),fun σ' H' p'=>⟨xs.length - (i+1),by omega,rfl,hlt,p'⟩,fun x H' y=>?_⟩
  obtain ⟨t,z,ht,ex,hz,eH⟩:=y
  subst ex eH
  exact hs i z t σ H (hz xs q) ht p
 ·have e:i=xs.length:=by omega
  subst e
  exact .inl ⟨⟨xs,q,Nat.le_refl _⟩,hd σ H p⟩
theorem Ht {K:PySem.W.Frag} {a:Addr} {xs:List V} {g:TG} {tb:TS} {D:Ends} {σ:St} {H:Hp} (h:vz H a xs) (Pv:Nat→St→Hp→Prop) (h0:Pv 0 σ H) (hl:∀ i σ H',Pv i σ H'→∀ o,H a=some o→H' a=some o)
  (hs:∀ i x t σ H,xs[i]?=some x→H t=none→Pv i σ H→g (.ref t) σ (upd H t (.tup [.int i,x])) fun σ2 H2=>tb { D with nx:=Pv (i+1),ct:=Pv (i+1),bk:=D.nx } σ2 H2) (hd:∀ σ H,Pv xs.length σ H→D.nx σ H) :
  (((∃ xs,bz K H a xs)∧Nv (Od K true a) g tb D σ H)∨((∃ xs,cR K H a xs)∧Nv (Od K false a) g tb D σ H)):=by
 rcases h with h | h
 ·exact .inl ⟨⟨xs,bz.of h⟩,wk (k:=true) Pv h0 (fun i σ H' p=>bz.of (hl i σ H' p _ h)) hs hd⟩
 ·exact .inr ⟨⟨xs,cR.of h⟩,wk (k:=false) Pv h0 (fun i σ H' p=>cR.of (hl i σ H' p _ h)) hs hd⟩
end L2
namespace Hw
open PySem L2
abbrev Sm:=Ps×Int
def ev (s:Sm) (f:Str→Int):Int:=s.2+eO s.1 f
def Oa (C:Addr) (H:Hp) (v:V) (s:Sm):Prop:=∃ p,v=.ref p∧cJ C H p s.1 s.2
theorem Oa.aN {C:Addr} {H H':Hp} {v:V} {s:Sm} (h:Oa C H v s) (k:aQ H H'):Oa C H' v s:=let ⟨p,e,q⟩:=h;⟨p,e,q.aN k⟩
abbrev vA (C:Addr) (H:Hp):List V→List Sm→Prop:=Paired (Oa C H)
theorem vA.aN {C:Addr} {H H':Hp} {vs:List V} {ss:List Sm} (h:vA C H vs ss) (k:aQ H H'):vA C H' vs ss:=Paired.dX h fun _ _ q=>q.aN k
def Gm (xs:List Str) (s:Sm):Prop:=Canon s.1∧∀ t∈keys s.1,t∈xs
theorem Gm.len {xs:List Str} {s:Sm} (h:Gm xs s) (hx:xs.length≤6):s.1.length≤6:=by
 have:=tW (oZ h.1) h.2
 unfold keys at this
 rw [List.length_map] at this
 omega
theorem qo {xs:List Str} {ps ts:Ps} {n:Int} (g:mK ps ts) (h:∀ t∈keys ps,t∈xs):Gm xs (ts,n):=⟨g.1,fun t ht=>h t (g.keys ht)⟩
theorem uo (a b:Ps):keys (a++b)=keys a++keys b:=List.map_append ..
theorem keys_map (a:Ps) (f:Str×Int→Int):keys (a.map fun p=>(p.1,f p))=keys a:=by unfold keys;rw [List.map_map];rfl
theorem CS {xs:List Str} {a b ts:Ps} {n m:Int} (h:Gm xs (a,n)) (h':Gm xs (b,m)) (g:mK (a++b) ts):Gm xs (ts,n+m)∧∀ f,ev (ts,n+m) f=ev (a,n) f+ev (b,m) f:=by
 refine ⟨qo g fun t ht=>?_,fun f=>?_⟩
 ·rw [uo] at ht
  exact (List.mem_append.mp ht).elim (h.2 t) (h'.2 t)
 ·show n+m+eO ts f=n+eO a f+(m+eO b f)
  rw [g.2,eK];omega
theorem CT {xs:List Str} {a b ts:Ps} {n m:Int} (h:Gm xs (a,n)) (h':Gm xs (b,m)) (g:mK (a++b.map fun p=>(p.1,-p.2)) ts):Gm xs (ts,n - m)∧∀ f,ev (ts,n - m) f=ev (a,n) f - ev (b,m) f:=by
 refine ⟨qo g fun t ht=>?_,fun f=>?_⟩
 ·rw [uo,keys_map b fun p=>-p.2] at ht
  exact (List.mem_append.mp ht).elim (h.2 t) (h'.2 t)
 ·show n - m+eO ts f=n+eO a f - (m+eO b f)
  rw [g.2,eK,rP];omega
theorem zN {xs:List Str} {a ts:Ps} {n k:Int} (h:Gm xs (a,n)) (g:mK (a.map fun p=>(p.1,p.2*k)) ts):Gm xs (ts,n*k)∧∀ f,ev (ts,n*k) f=ev (a,n) f*k:=by
 refine ⟨qo g fun t ht=>?_,fun f=>?_⟩
 ·rw [keys_map a fun p=>p.2*k] at ht
  exact h.2 t ht
 ·show n*k+eO ts f=(n+eO a f)*k
  rw [g.2,lO,Int.add_mul]
theorem yb {xs:List Str} {ts:Ps} {n:Int} (g:mK [] ts):ts=[]∧Gm xs (ts,n)∧∀ f,ev (ts,n) f=n:=by
 have e:ts=[]:=Canon.same g.1 Canon.nil g.2
 subst e
 exact ⟨rfl,⟨Canon.nil,fun _ h=>nomatch h⟩,fun f=>by show n+0=n;omega⟩
theorem jY {a:Ps} {f:Str×Int→Int} (c:Canon a) (h:∀ p∈a,f p≠0):Canon (a.map fun p=>(p.1,f p)):=by
 refine ⟨?_,fun q hq=>?_⟩
 ·rw [List.pairwise_map]
  exact c.up
 ·obtain ⟨p,hp,rfl⟩:=List.mem_map.mp hq
  exact h p hp
theorem KC {a c1 c:Ps} {k:Int} (ca:Canon a) (hk:0 < k) (g1:mK (a.map fun p=>(p.1,p.2*k)) c1) (g2:mK (c1++[]) c):c=a.map fun p=>(p.1,p.2*k):=by
 refine Canon.same g2.1 (jY (f:=fun p=>p.2*k) ca fun p hp z=>?_) fun f=>by rw [g2.2,List.append_nil,g1.2]
 rcases Int.mul_eq_zero.mp z with z | z
 ·exact ca.nz p hp z
 ·omega
def tR (s:Sm):Sm:=(s.1.map fun p=>(p.1,-p.2),-s.2 - 1)
theorem MV (s:Sm) (f:Str→Int):ev (tR s) f=-ev s f - 1:=by
 show -s.2 - 1+eO (s.1.map fun p=>(p.1,-p.2)) f=-(s.2+eO s.1 f) - 1
 rw [rP];omega
theorem ya {xs:List Str} {s:Sm} (h:Gm xs s):Gm xs (tR s):=by
 refine ⟨jY (f:=fun p=>-p.2) h.1 fun p hp z=>h.1.nz p hp (by omega),fun t ht=>h.2 t ?_⟩
 rw [← keys_map s.1 fun p=>-p.2]
 exact ht
inductive Ln where
 | cut (k:Nat) (d:Int)
 | add (ws:List (Int×Nat))
def rm (H:Hp) (v:V) (p:Int×Nat):Prop:=∃ q,v=.ref q∧H q=some (.tup [.int p.1,.int p.2])
theorem _root_.L2.vz.same {H H':Hp} {a:Addr} {xs:List V} (h:vz H a xs) (s:aP H H'):vz H' a xs:=h.elim (fun z=>.inl (s _ _ z)) fun z=>.inr (s _ _ z)
theorem rm.same {H H':Hp} {v:V} {p:Int×Nat} (h:rm H v p) (s:aP H H'):rm H' v p:=let ⟨q,e,z⟩:=h;⟨q,e,s _ _ z⟩
def s0:Sm:=([],0)
def jv (ss:List Sm):List (Int×Nat)→Ps
 | []=>[]
 | p::r=>((ss.getD p.2 s0).1.map fun q=>(q.1,p.1*q.2))++jv ss r
def kL (ss:List Sm):List (Int×Nat)→Int
 | []=>0
 | p::r=>p.1*(ss.getD p.2 s0).2+kL ss r
theorem qw (ss:List Sm) (p:Int×Nat):∀ ws,jv ss (ws++[p])=jv ss ws++((ss.getD p.2 s0).1.map fun q=>(q.1,p.1*q.2))
 | []=>by simp [jv]
 | x::r=>by rw [List.cons_append,jv,jv,qw ss p r,List.append_assoc]
theorem qx (ss:List Sm) (p:Int×Nat):∀ ws,kL ss (ws++[p])=kL ss ws+p.1*(ss.getD p.2 s0).2
 | []=>by simp [kL]
 | x::r=>by rw [List.cons_append,kL,kL,qx ss p r];omega
def Bs (ss:List Sm) (f:Str→Int):List (Int×Nat)→Int
 | []=>0
 | p::r=>p.1*ev (ss.getD p.2 s0) f+Bs ss f r
theorem vZ (k:Int) (a:Ps) (f:Str→Int):eO (a.map fun q=>(q.1,k*q.2)) f=k*eO a f:=by
 have e:(a.map fun q=>(q.1,k*q.2))=a.map fun q=>(q.1,q.2*k):=List.map_congr_left fun q _=>by rw [Int.mul_comm]
 rw [e,lO,Int.mul_comm]
theorem BG (ss:List Sm) (f:Str→Int):∀ ws,kL ss ws+eO (jv ss ws) f=Bs ss f ws
 | []=>rfl
 | p::r=>by
  have ih:=BG ss f r
  rw [kL,jv,Bs,eK,vZ,← ih]
  unfold ev
  rw [Int.mul_add];omega
theorem yg (ss:List Sm) (f:Str→Int):∀ a b,Bs ss f (a++b)=Bs ss f a+Bs ss f b
 | [],b=>by simp [Bs]
 | p::r,b=>by rw [List.cons_append,Bs,Bs,yg ss f r b];omega
def Rt (ss:List Sm):Ln→Prop
 | .cut k d=>1≤d∧d≤5∧∃ s,ss[k]?=some s∧∀ p∈s.1,p.2 % d=0
 | .add ws=>ws≠[]∧ws.length≤6∧∀ p∈ws,1≤p.1∧p.1≤1000∧p.2 < ss.length
def Is (ss:List Sm):Ln→Sm→Prop
 | .cut k d,s=>∃ t,ss[k]?=some t∧s=(t.1.map fun q=>(q.1,q.2 / d),t.2 / d)
 | .add ws,s=>mK (jv ss ws) s.1∧s.2=kL ss ws
theorem Mn {ss:List Sm}:∀ {l:Ln} {s t:Sm},Is ss l s→Is ss l t→s=t
 | .cut k d,s,t,⟨a,e,h⟩,⟨b,e',h'⟩=>by rw [e] at e';cases e';rw [h,h']
 | .add ws,s,t,⟨g,h⟩,⟨g',h'⟩=>Prod.ext (g.same g' fun _=>rfl) (h.trans h'.symm)
theorem fH {ss:List Sm} {k:Nat} {s:Sm} (h:ss[k]?=some s):ss.getD k s0=s:=by rw [List.getD_eq_getElem?_getD,h];rfl
theorem yu {xs:List Str} {ss:List Sm} (hg:∀ s∈ss,Gm xs s):∀ {ws:List (Int×Nat)},(∀ p∈ws,p.2 < ss.length)→∀ t∈keys (jv ss ws),t∈xs
 | [],_,t,h=>nomatch h
 | p::r,hw,t,h=>by
  rw [jv,uo,keys_map _ fun q=>p.1*q.2] at h
  rcases List.mem_append.mp h with h | h
  ·have hp:=hw p (List.mem_cons_self ..)
   rw [fH (List.getElem?_eq_getElem hp)] at h
   exact (hg _ (List.getElem_mem hp)).2 t h
  ·exact yu hg (fun q hq=>hw q (List.mem_cons_of_mem _ hq)) t h
theorem oY {xs:List Str} {ss:List Sm} (hx:xs.length≤6) (hg:∀ s∈ss,Gm xs s):∀ {ws:List (Int×Nat)},(∀ p∈ws,p.2 < ss.length)→(jv ss ws).length≤6*ws.length
 | [],_=>Nat.le_refl _
 | p::r,hw=>by
  have hp:=hw p (List.mem_cons_self ..)
  have ih:=oY hx hg (ws:=r) fun q hq=>hw q (List.mem_cons_of_mem _ hq)
  have h3:=(hg _ (List.getElem_mem hp)).len hx
  rw [jv,List.length_append,List.length_map,fH (List.getElem?_eq_getElem hp),List.length_cons]
  omega
theorem Ik {w d:Int} (hd:1≤d) (hw:w≠0) (hm:w % d=0):w / d≠0:=fun z=>by
 have:=Int.mul_ediv_add_emod w d
 rw [z,hm] at this
 omega
def Ok:List Ln→List Sm→(List Sm→Prop)→Prop
 | [],ss,F=>F ss
 | l::r,ss,F=>Rt ss l∧∀ s,Is ss l s→Ok r (ss++[s]) F
theorem Ok.mono {F G:List Sm→Prop} (h:∀ ss,F ss→G ss):∀ {ls:List Ln} {ss:List Sm},Ok ls ss F→Ok ls ss G
 | [],_,k=>h _ k
 | l::r,_,⟨a,b⟩=>⟨a,fun s q=>Ok.mono h (b s q)⟩
theorem Ok.snoc {F:List Sm→Prop} {l:Ln}:∀ {ls:List Ln} {ss:List Sm},Ok ls ss (fun ss'=>Rt ss' l∧∀ s,Is ss' l s→F (ss'++[s]))→Ok (ls++[l]) ss F
 | [],_,h=>h
 | x::r,_,⟨a,b⟩=>⟨a,fun s q=>Ok.snoc (b s q)⟩
structure kW (K:PySem.W.Frag) (mg:Str→Option Value):Prop where
 all:mg "all"=none
 set:mg "set"=none
 enumerate:mg "enumerate"=none
 bool:mg "bool"=none
 kIB:PySem.W.kitOne K (.type "int") (.type "bool")=some false
 kTL:PySem.W.kitOne K (.type "tuple") (.type "list")=some false
 most:∃ t,mg "MOST_SPLITS"=some (.int 20 t)
theorem J1 (K:PySem.W.Frag):PySem.W.kitOne K (.type "int") (.type "int")=some true:=by unfold PySem.W.kitOne;rw [if_pos (beq_self_eq_true _)]
def xy:Sp:=fun vs H Q _=>∃ i:Int,vs=[.int i]∧Q (.bl true) H
def tw:Sp:=fun vs H Q _=>∃ (q:Addr) (t:Str) (w:Int),vs=[.ref q]∧H q=some (.tup [.str t,.int w])∧w≠0∧Q (.bl true) H
def xu (C:Addr):Sp:=fun vs H Q _=>∃ (p:Addr) (ts:Ps) (n:Int),vs=[.ref p]∧cJ C H p ts n∧Q (.bl (ts.isEmpty && decide (n < 0))) H
def xh:Sp:=fun vs H Q _=>∃ (t:Addr) (ts:Ps),vs=[.ref t]∧Tp H t ts∧ts.length≤1000∧∀ (r:Addr) (H':Hp),aP H H'→Tp H' r (ts.map fun q=>(q.1,-q.2))→Q (.ref r) H'
def xr (C:Addr):Sp:=fun vs H Q _=>∃ (p:Addr) (s:Sm),vs=[.ref p]∧cJ C H p s.1 s.2∧∀ (r:Addr) (H':Hp),aP H H'→cJ C H' r (tR s).1 (tR s).2→Q (.ref r) H'
abbrev Dw:=Sm×Int×Int
def Am (xs:List Str) (x:Dw):Prop:=Gm xs x.1∧1≤x.2.1∧x.2.1≤5∧0≤x.2.2∧x.2.2 < x.2.1
def IK (C:Addr) (H:Hp) (v:V) (x:Dw):Prop:=∃ q p,v=.ref q∧H q=some (.tup [.ref p,.int x.2.1,.int x.2.2])∧cJ C H p x.1.1 x.1.2
theorem IK.aN {C:Addr} {H H':Hp} {v:V} {x:Dw} (h:IK C H v x) (k:aQ H H'):IK C H' v x:=let ⟨q,p,e,eq,s⟩:=h;⟨q,p,e,k.t _ _ eq,s.aN k⟩
abbrev Oe (C:Addr) (H:Hp):List V→List Dw→Prop:=Paired (IK C H)
theorem Oe.aN {C:Addr} {H H':Hp} {vs:List V} {xs:List Dw} (h:Oe C H vs xs) (k:aQ H H'):Oe C H' vs xs:=Paired.dX h fun _ _ q=>q.aN k
def wsum (f:Str→Int):List Int→List Dw→Int
 | w::ws,x::r=>w*ev x.1 f+wsum f ws r
 | _,_=>0
def Wts (ws:List Int) (n:Nat):Prop:=ws.length=n∧∀ w∈ws,1≤w∧w≤3
end Hw
namespace Hw
open PySem L2
theorem gA {K:PySem.W.Frag} {H:Hp} {a:Addr} {xs:List V} {i:Int} {v:V} {Q:VK} (h:vz H a xs) (e:Ai xs i=some v) (q:Q v H):VF K (.ref a) (.int i) H Q:=by
 rcases h with h | h
 ·exact .inl ⟨a,xs,i,v,rfl,rfl,bz.of h,e,q⟩
 ·exact .inr (.inl ⟨a,xs,i,v,rfl,rfl,cR.of h,e,q⟩)
theorem lP {K:PySem.W.Frag} {H:Hp} {a:Addr} {xs:List V} (h:vz H a xs):bz K H a xs∨cR K H a xs:=h.elim (fun z=>.inl (bz.of z)) fun z=>.inr (cR.of z)
theorem ze (i:Nat):(List.replicate i true).map V.bl++[V.bl true]=(List.replicate (i+1) true).map V.bl:=by rw [List.replicate_succ',List.map_append];rfl
theorem Cu (n:Nat):(List.replicate n true).all id=true:=by rw [List.all_eq_true];intro x hx;rw [(List.mem_replicate.mp hx).2];rfl
theorem Ct (i:Nat):((List.replicate i true).map V.bl).length=i:=by rw [List.length_map,List.length_replicate]
theorem uE {K:PySem.W.Frag} {a:Addr} {xs:List V} {g:TG} {tt:TT} {te:TE} {σ0:St} {H:Hp} {R:List V→Hp→Prop} (h:vz H a xs) (Pv:Nat→List V→Hp→Prop) (h0:Pv 0 [] H) (hS:∀ i ys H',Pv i ys H'→∀ o,H a=some o→H' a=some o)
  (hs:∀ i v ys H',xs[i]?=some v→Pv i ys H'→g v σ0 H' fun σ2 H2=>Ext σ0 σ2∧tt σ2 H2 fun b H3=>if b=true then te σ2 H3 fun v H4=>ys.length < sizeLine∧Pv (i+1) (ys++[v]) H4 else Pv (i+1) ys H3)
  (hd:∀ ys H',Pv xs.length ys H'→R ys H'):((∃ xs,bz K H a xs)∧∃ W:Nat→Nat→List V→Hp→Prop,(∃ m,W 0 m [] H)∧mQ (IF K a) g tt te σ0 W R)∨((∃ xs,cR K H a xs)∧∃ W:Nat→Nat→List V→Hp→Prop,(∃ m,W 0 m [] H)∧mQ (Fc K a) g tt te σ0 W R):=by
 rcases h with h | h
 ·exact .inl ⟨⟨xs,bz.of h⟩,iy (xs:=xs) Pv h0 (fun i ys H' _ p=>bz.of (hS i ys H' p _ h)) hs hd⟩
 ·exact .inr ⟨⟨xs,cR.of h⟩,Ae (xs:=xs) Pv h0 (fun i ys H' _ p=>cR.of (hS i ys H' p _ h)) hs hd⟩
theorem CW {K:PySem.W.Frag} {a:Addr} {xs:List V} {g:TG} {tb:TS} {D:Ends} {σ:St} {H:Hp} (h:vz H a xs) (Pv:Nat→St→Hp→Prop) (h0:Pv 0 σ H) (hS:∀ i σ H',Pv i σ H'→∀ o,H a=some o→H' a=some o)
  (hs:∀ i v σ H',xs[i]?=some v→Pv i σ H'→g v σ H' fun σ2 H2=>tb { D with nx:=Pv (i+1),ct:=Pv (i+1),bk:=D.nx } σ2 H2) (hd:∀ σ H',Pv xs.length σ H'→D.nx σ H') :
  ((∃ xs,bz K H a xs)∧KP (IF K a) g tb D σ H)∨((∃ xs,cR K H a xs)∧KP (Fc K a) g tb D σ H):=by
 rcases h with h | h
 ·exact .inl ⟨⟨xs,bz.of h⟩,zS (xs:=xs) Pv h0 (fun i σ H' _ p=>bz.of (hS i σ H' p _ h)) hs hd⟩
 ·exact .inr ⟨⟨xs,cR.of h⟩,CV (xs:=xs) Pv h0 (fun i σ H' _ p=>cR.of (hS i σ H' p _ h)) hs hd⟩
theorem qD {C:Addr} {H:Hp} {us:List V} {ss:List Sm} (h:vA C H us ss) {k:Nat} (hk:k < us.length):∃ p s,us[k]?=some (.ref p)∧ss[k]?=some s∧cJ C H p s.1 s.2:=by
 have e:=List.getElem?_eq_getElem hk
 obtain ⟨s,es,p,ep,S⟩:=bf h e
 rw [ep] at e
 exact ⟨p,s,e,es,S⟩
theorem J2 {ts:Ps} (c:Canon ts):(keys ts).Pairwise fun a b=>lt a b=true:=by
 unfold keys
 rw [List.pairwise_map]
 exact c.up
end Hw
namespace Hw
open PySem L2
theorem uJ {α:Type} {xs:List α} {v:α} (h:0 < xs.length) (e:xs[xs.length - 1]?=some v):Ai xs (-1)=some v:=by
 have:xs=xs.dropLast++[v]:=by
  have hn:xs≠[]:=fun z=>by rw [z] at h;cases h
  rw [List.getElem?_eq_getElem (by omega)] at e
  have e':xs.getLast hn=v:=by rw [List.getLast_eq_getElem];exact Option.some.inj e
  rw [← e']
  exact (List.dropLast_concat_getLast hn).symm
 rw [this]
 exact IC _ _
end Hw
namespace Hw
open PySem L2
theorem tV {d t:Addr} {H H':Hp} (b:cA d H H') (hd:Dr H' d) (h:H' t=none):H t=none:=by
 cases e:H t with
 | none=>rfl
 | some o =>
  by_cases z:t=d
  ·obtain ⟨_,_,q⟩:=hd
   rw [z,q] at h
   cases h
  ·rw [b _ _ e z] at h
   cases h
theorem RD {α:Type} (x:α) (ys:List α):Ai (x::ys) 0=some x:=aK (j:=0) rfl
theorem qM {α:Type} {xs:List α} {j:Nat} {v:α} (h:xs[j]?=some v):Ai xs (0+(j:Int))=some v:=by rw [Int.zero_add];exact aK h
theorem wsum_snoc (f:Str→Int) (w:Int) (x:Dw):∀ {a:List Int} {b:List Dw},a.length=b.length→wsum f (a++[w]) (b++[x])=wsum f a b+w*ev x.1 f
 | [],[],_=>by show w*ev x.1 f+0=0+w*ev x.1 f;omega
 | [],_::_,h=>nomatch h
 | _::_,[],h=>nomatch h
 | p::a,q::b,h=>by
  show p*ev q.1 f+wsum f (a++[w]) (b++[x])=p*ev q.1 f+wsum f a b+w*ev x.1 f
  rw [wsum_snoc f w x (Nat.succ.inj h)]
  omega
end Hw
namespace L2
open PySem PySem.Spec PyProof.Rows Hw
theorem CJ {X:Cx} {K:PySem.W.Frag} (h:X.K=K):Fb X (VF K):=h ▸ aX
end L2
namespace Hw
open PySem L2
theorem wj {ps ts:Ps} (c:Canon ps) (g:mK ps ts):ts=ps:=Canon.same g.1 c g.2
end Hw
namespace Hw
open PySem L2
end Hw
namespace Hw
open PySem L2
theorem _root_.L2.Ext.three {x y z:V} {r:L2.St}:Ext (none::none::none::r) (some x::some y::some z::r):=⟨rfl,fun i v h=>by
 match i with
 | 0=>cases h
 | 1=>cases h
 | 2=>cases h
 | i+3=>exact h⟩
def oH (x:Dw):Sm:=(x.1.1.map fun p=>(p.1,p.2*x.2.1),x.1.2*x.2.1+x.2.2)
theorem MD {xs:List Str} {x:Dw} (h:Am xs x):Gm xs (oH x):=by
 obtain ⟨g,h1,_⟩:=h
 refine ⟨jY (f:=fun p=>p.2*x.2.1) g.1 fun p hp z=>?_,fun t ht=>g.2 t ?_⟩
 ·rcases Int.mul_eq_zero.mp z with z | z
  ·exact g.1.nz p hp z
  ·omega
 ·rw [← keys_map x.1.1 fun p=>p.2*x.2.1]
  exact ht
theorem mul_one {x:Dw} (h:x.2.1=1) (h0:0≤x.2.2) (h1:x.2.2 < x.2.1):oH x=x.1:=by
 obtain ⟨⟨a,n⟩,d,r⟩:=x
 have h:d=1:=h
 have h1:r < d:=h1
 have h0:0≤r:=h0
 subst h
 have hr:r=0:=by omega
 subst hr
 show ((a.map fun p=>(p.1,p.2*1)),n*1+0)=(a,n)
 have e:(a.map fun p=>(p.1,p.2*1))=a:=by
  have:(fun p:Str×Int=>(p.1,p.2*1))=id:=by funext p;simp
  rw [this,List.map_id]
 rw [e];simp
theorem Ky {ss:List Sm} {k:Nat} {x:Dw} {s:Sm} (h1:1≤x.2.1) (h0:0≤x.2.2) (hl:x.2.2 < x.2.1) (e:ss[k]?=some (oH x)) (h:Is ss (.cut k x.2.1) s):s=x.1:=by
 obtain ⟨t,et,rfl⟩:=h
 rw [e] at et
 cases et
 obtain ⟨⟨a,n⟩,d,r⟩:=x
 have h1:1≤d:=h1
 have hl:r < d:=hl
 have h0:0≤r:=h0
 show (((a.map fun p=>(p.1,p.2*d)).map fun q=>(q.1,q.2 / d)),(n*d+r) / d)=(a,n)
 have hd:d≠0:=by omega
 have e1:((a.map fun p=>(p.1,p.2*d)).map fun q=>(q.1,q.2 / d))=a:=by
  rw [List.map_map]
  have:((fun q:Str×Int=>(q.1,q.2 / d)) ∘ fun p:Str×Int=>(p.1,p.2*d))=id:=by
   funext p
   show (p.1,p.2*d / d)=p
   rw [Int.mul_ediv_cancel _ hd]
  rw [this,List.map_id]
 have e2:(n*d+r) / d=n:=by
  rw [Int.add_comm,Int.add_mul_ediv_right _ _ hd,Int.ediv_eq_zero_of_lt h0 hl];omega
 rw [e1,e2]
theorem LP {ss:List Sm} {k:Nat} {x:Dw} {xs:List Str} (h:Am xs x) (e:ss[k]?=some (oH x)):Rt ss (.cut k x.2.1) :=
 ⟨h.2.1,h.2.2.1,oH x,e,fun p hp=>by
  obtain ⟨q,_,rfl⟩:=List.mem_map.mp hp
  exact Int.mul_emod_left _ _⟩
abbrev Ed:=Sm×List Int
def Al (C d en:Addr) (H:Hp) (v:V) (e:Ed):Prop:=∃ q r wl,v=.ref q∧H q=some (.tup [.ref r,.ref wl])∧cJ C H r e.1.1 e.1.2∧H wl=some (.lst (e.2.map V.int))∧wl≠d∧wl≠en
theorem Al.keep {C d en:Addr} {H H':Hp} {v:V} {e:Ed} (h:Al C d en H v e) (k:aQ H H') (b:∀ b o,H b=some o→b≠d→b≠en→H' b=some o):Al C d en H' v e :=
 let ⟨q,r,wl,e1,e2,e3,e4,e5,e6⟩:=h
 ⟨q,r,wl,e1,k.t _ _ e2,e3.aN k,b _ _ e4 e5 e6,e5,e6⟩
theorem Al.same {C d en:Addr} {H H':Hp} {v:V} {e:Ed} (h:Al C d en H v e) (s:aP H H'):Al C d en H' v e:=h.keep (aQ.of s) fun b o z _ _=>s _ _ z
def IJ (xs:List Str) (ds:List Dw) (more:Sm) (e:Ed):Prop:=Gm xs e.1∧Wts e.2 ds.length∧∃ c,c < 0∧∀ f,ev e.1 f=c - ev more f - wsum f e.2 ds
def Ar (H:Hp) (v:V) (p:Nat×Int):Prop:=∃ a,v=.ref a∧H a=some (.tup [.str "cut",.int p.1,.int p.2])
theorem Ar.aN {H H':Hp} {v:V} {p:Nat×Int} (h:Ar H v p) (k:aQ H H'):Ar H' v p:=let ⟨a,e,q⟩:=h;⟨a,e,k.t _ _ q⟩
def BE (l:List (Nat×Int)):List Ln:=l.map fun p=>.cut p.1 p.2
def BP (H:Hp) (v:V) (ws:List (Int×Nat)):Prop:=∃ a b t us,v=.ref a∧H a=some (.tup [.ref b])∧H b=some (.tup [.str "add",.ref t])∧H t=some (.tup us)∧Paired (rm H) us ws
theorem rm.aN {H H':Hp} {v:V} {p:Int×Nat} (h:rm H v p) (s:aQ H H'):rm H' v p:=let ⟨q,e,z⟩:=h;⟨q,e,s.t _ _ z⟩
theorem BP.aN {H H':Hp} {v:V} {ws:List (Int×Nat)} (h:BP H v ws) (k:aQ H H'):BP H' v ws:=let ⟨a,b,t,us,e,e1,e2,e3,p⟩:=h;⟨a,b,t,us,e,k.t _ _ e1,k.t _ _ e2,k.t _ _ e3,Paired.dX p fun _ _ z=>z.aN k⟩
def RJ (xs:List Str) (ds:List Dw) (SS:List Sm) (i m:Nat) (gn:List Nat) (ss':List Sm):Prop :=
 ∃ ad,ss'=SS++ad∧ad.length=m∧(∀ s∈ad,Gm xs s)∧∀ j x,j < i→ds[j]?=some x→∃ k,gn[j]?=some k∧ss'[k]?=some x.1
def iN:List Int→List Nat→List (Int×Nat)
 | w::ws,k::r=>(w,k)::iN ws r
 | _,_=>[]
theorem nR:∀ {a:List Int} {b:List Nat},a.length=b.length→(iN a b).length=a.length
 | [],[],_=>rfl
 | [],_::_,h=>nomatch h
 | _::_,[],h=>nomatch h
 | x::a,y::b,h=>by show (iN a b).length+1=a.length+1;rw [nR (Nat.succ.inj h)]
theorem rV:∀ {a:List Int} {b:List Nat} {p:Int×Nat},p∈iN a b→p.1∈a∧p.2∈b
 | x::a,y::b,p,h=>by
  rcases List.mem_cons.mp (show p∈(x,y)::iN a b from h) with e | e
  ·rw [e];exact ⟨List.mem_cons_self ..,List.mem_cons_self ..⟩
  ·have:=rV e
   exact ⟨List.mem_cons_of_mem _ this.1,List.mem_cons_of_mem _ this.2⟩
 | [],_,_,h=>nomatch h
 | _::_,[],_,h=>nomatch h
theorem Cb (f:Str→Int) (ss:List Sm):∀ {ws:List Int} {gn:List Nat} {ds:List Dw},ws.length=ds.length→(∀ (j:Nat) (x:Dw),ds[j]?=some x→∃ k,gn[j]?=some k∧ss[k]?=some x.1)→Bs ss f (iN ws gn)=wsum f ws ds
 | [],_,[],_,_=>by unfold iN;rfl
 | [],_,_::_,h,_=>nomatch h
 | _::_,_,[],h,_=>nomatch h
 | w::ws,gn,x::ds,h,hp=>by
  obtain ⟨k,e1,e2⟩:=hp 0 x rfl
  cases gn with
  | nil=>cases e1
  | cons k' gn =>
   cases e1
   show w*ev (ss.getD k s0) f+Bs ss f (iN ws gn)=w*ev x.1 f+wsum f ws ds
   rw [fH e2,Cb f ss (Nat.succ.inj h) fun j y hy=>hp (j+1) y hy]
end Hw
namespace Hw
open PySem L2
theorem fP {α:Type} {a b:List α} {k:Nat} {x:α} (h:a[k]?=some x):(a++b)[k]?=some x:=by
 rw [List.getElem?_append_left (List.getElem?_eq_some_iff.mp h).1];exact h
end Hw
namespace Hw
open PySem L2
theorem Pz {n j:Nat} (h:j < n):GY n (0+(j:Int))=some j:=by
 rw [Int.zero_add]
 unfold GY
 rw [if_pos (by omega),if_pos (by omega)];simp
def zi (k:Nat):V:=V.int (k:Int)
theorem Of {gn:List Nat} {j k:Nat} (h:gn[j]?=some k):(gn.map zi)[j]?=some (V.int (k:Int)):=by rw [List.getElem?_map,h];rfl
theorem Cc:∀ {a:List Int} {b:List Nat} {j:Nat} {w:Int} {k:Nat},a[j]?=some w→b[j]?=some k→(iN a b)[j]?=some (w,k)
 | _::_,_::_,0,_,_,h,g=>by cases h;cases g;rfl
 | _::a,_::b,j+1,_,_,h,g=>Cc (a:=a) (b:=b) (j:=j) h g
 | [],_,_,_,_,h,_=>by simp at h
 | _::_,[],_,_,_,_,g=>by simp at g
theorem FQ (l:List V) (x y:V):(l++[x]).set l.length y=l++[y]:=by
 rw [List.set_append_right _ _ (Nat.le_refl _)]
 simp
end Hw
namespace Hw
open PySem L2
theorem FL {K:PySem.W.Frag} {H H':Hp} {a:Addr} {xs:List V} (h:bz K H a xs) (s:aP H H'):bz K H' a xs:=by
 rcases h with (h | ⟨o,h⟩) | h
 ·exact .inl (.inl (s _ _ h))
 ·exact .inl (.inr ⟨o,s _ _ h⟩)
 ·exact .inr h
end Hw
namespace L2
open PySem PySem.Spec PyProof.Rows
section
variable {X:Cx}
def OT (K:PySem.W.Frag):List V→Hp→VK→Prop:=fun vs H Q=>∃ (x:V) (t:Value) (tp:Addr) (b:Bool) (c1 c2:String),vs=[x,.ref tp]∧kU K H x t∧cR K H tp [.ty c1,.ty c2]∧PySem.W.kitAny K t [.type c1,.type c2]=some b∧Q (.bl b) H
theorem mw:jG X (.builtin "isinstance") (OT X.K):=by
 intro pins s σ H xs us Q I r h
 obtain ⟨x,t,tp,b,c1,c2,rfl,ty,ht,e,q⟩:=h
 obtain ⟨w1,w2,rfl,rx,r2⟩:=vals2 r
 cases r2
 obtain ⟨its,r',pl,hz⟩:=I.tuple ht
 obtain ⟨u1,u2,rfl,q1,q2⟩:=vals2 r'
 cases q1
 cases q2
 obtain ⟨⟨cls,dd,data,sl⟩,ho,hc,n,hd⟩:=pl
 simp only at hc hd
 subst hc hd
 have h:∀ tk,EP X pins σ Q (.bool b) { s with toks:=tk }:=fun tk=>⟨.bl b,H,I.tok _,rfl,q⟩
 cases ty with
 | gc=>cases (show w1=Value.none from rx);exact PySem.W.kia_tup PySem.W.kitx_none I.lU True.intro ho e (fun z=>nomatch z) h
 | bl y=>cases (show w1=Value.bool y from rx);exact PySem.W.kia_tup PySem.W.kitx_bool I.lU True.intro ho e (fun z=>nomatch z) h
 | int i=>obtain ⟨t,q⟩:=(show ∃ t,w1=Value.int i t from rx);cases q;exact PySem.W.kia_tup PySem.W.kitx_int I.lU True.intro ho e (fun z=>nomatch z) h
 | str y=>obtain ⟨t,q⟩:=(show ∃ t,w1=Value.str y t from rx);cases q;exact PySem.W.kia_tup PySem.W.kitx_str I.lU True.intro ho e (fun z=>nomatch z) h
 | Le y=>obtain ⟨t,q⟩:=(show ∃ t,w1=Value.float y t from rx);cases q;exact PySem.W.kia_tup PySem.W.kitx_float I.lU True.intro ho e (fun z=>nomatch z) h
 | @lst a xs ea =>
  cases (show w1=Value.ref a from rx)
  obtain ⟨_,_,n,_,h1⟩:=(show dh X.prog X.w H s.heap a (.lst xs) from I.hok a _ ea)
  exact PySem.W.kia_tup PySem.W.kitx_list I.lU ⟨_,h1,rfl⟩ ho e (fun z=>nomatch z) h
 | @zQ a ob xs ea =>
  cases (show w1=Value.ref a from rx)
  obtain ⟨_,_,_,n,_,h1⟩:=(show dh X.prog X.w H s.heap a (.zQ ob (.lst xs)) from I.hok a _ ea)
  exact PySem.W.kia_tup PySem.W.kitx_list I.lU ⟨_,h1,rfl⟩ ho e (fun z=>nomatch z) h
 | @tup a xs ea =>
  cases (show w1=Value.ref a from rx)
  obtain ⟨_,_,_,p⟩:=(show dh X.prog X.w H s.heap a (.tup xs) from I.hok a _ ea)
  obtain ⟨o,h1,h2,_⟩:=p
  exact PySem.W.kia_tup PySem.W.kitx_tuple I.lU ⟨o,h1,h2⟩ ho e (fun z=>nomatch z) h
 | @dK a kvs ea =>
  cases (show w1=Value.ref a from rx)
  obtain ⟨_,_,vs,_,p⟩:=(show dh X.prog X.w H s.heap a (.dK kvs) from I.hok a _ ea)
  obtain ⟨o,es,ep,h1,h2,_⟩:=p
  exact PySem.W.kia_tup PySem.W.kitx_dict I.lU ⟨o,h1,h2.1⟩ ho e (fun z=>nomatch z) h
 | @dT a kvs ea =>
  cases (show w1=Value.ref a from rx)
  obtain ⟨_,_,xs,_,o,es,ep,h1,h2,_⟩:=(show dh X.prog X.w H s.heap a (.dT kvs) from I.hok a _ ea)
  exact PySem.W.kia_tup PySem.W.kitx_dict I.lU ⟨o,h1,h2.1⟩ ho e (fun z=>nomatch z) h
 | @ins a C dx fs ea cl ha hn htk hm =>
  cases (show w1=Value.ref a from rx)
  obtain ⟨mA,O,_⟩:=oR I.hok ea
  obtain ⟨od,J,_⟩:=O.look
  exact PySem.W.kia_tup (PySem.W.kitx_own (cl.get _) cl.hd ha hn htk hm) I.lU J ho e (fun z=>nomatch z) h
end
end L2
namespace Hw
open PySem L2
inductive Ov where
 | sc (v:V)
 | sm (s:Sm)
 | sq (xs:List Ov)
mutual
def bW (C:Addr) (H:Hp):V→Ov→Prop
 | v,.sc u=>v=u∧gj u=true
 | v,.sm s=>Oa C H v s
 | v,.sq xs=>∃ a us,v=.ref a∧vz H a us∧gM C H us xs
def gM (C:Addr) (H:Hp):List V→List Ov→Prop
 | [],[]=>True
 | u::us,x::xs=>bW C H u x∧gM C H us xs
 | _::_,[]=>False
 | [],_::_=>False
end
theorem kB {C:Addr} {H:Hp}:∀ {us:List V} {xs:List Ov},gM C H us xs↔Paired (bW C H) us xs
 | [],[]=>by unfold gM;exact ⟨fun _=>.nil,fun _=>trivial⟩
 | u::us,x::xs=>by
  unfold gM
  refine ⟨fun h=>.cons h.1 (kB.mp h.2),fun h=>?_⟩
  cases h with
  | cons a b=>exact ⟨a,kB.mpr b⟩
 | _::_,[]=>by unfold gM;exact ⟨fun h=>h.elim,fun h=>by cases h⟩
 | [],_::_=>by unfold gM;exact ⟨fun h=>h.elim,fun h=>by cases h⟩
mutual
theorem bW.same {C:Addr} {H H':Hp} (s:aP H H'):∀ {v:V} {o:Ov},bW C H v o→bW C H' v o
 | v,.sc u,h=>by unfold bW at h ⊢;exact h
 | v,.sm t,h=>by unfold bW at h ⊢;exact h.aN (aQ.of s)
 | v,.sq xs,h=>by
  unfold bW at h ⊢
  obtain ⟨a,us,e,q,r⟩:=h
  exact ⟨a,us,e,q.same s,gM.same s r⟩
theorem gM.same {C:Addr} {H H':Hp} (s:aP H H'):∀ {us:List V} {xs:List Ov},gM C H us xs→gM C H' us xs
 | [],[],h=>by unfold gM;trivial
 | u::us,x::xs,h=>by
  unfold gM at h ⊢
  exact ⟨bW.same s h.1,gM.same s h.2⟩
 | _::_,[],h=>by unfold gM at h;exact h.elim
 | [],_::_,h=>by unfold gM at h;exact h.elim
end
def Mp:Ov→Bool
 | .sq _=>true
 | _=>false
def G2:Ov→Bool
 | .sc (.int _)=>true
 | .sc (.bl _)=>true
 | _=>false
def Y4:Ov→Bool
 | .sc (.bl _)=>true
 | _=>false
def DS:Ov→Bool
 | .sm _=>true
 | _=>false
def gJ:Ov→Option Int
 | .sc (.int i)=>some i
 | _=>none
structure mD (K:PySem.W.Frag) (C:Addr):Prop where
 sq:∀ t∈(["NoneType","int","bool","str"]:List String),PySem.W.kitAny K (.type t) [.type "list",.type "tuple"]=some false∧PySem.W.kitAny K (.type t) [.type "tuple",.type "list"]=some false∧PySem.W.kitOne K (.type t) (.ref C)=some false
 sqS:PySem.W.kitAny K (.ref C) [.type "list",.type "tuple"]=some false∧PySem.W.kitAny K (.ref C) [.type "tuple",.type "list"]=some false
 sqL:PySem.W.kitAny K (.type "list") [.type "list",.type "tuple"]=some true∧PySem.W.kitAny K (.type "list") [.type "tuple",.type "list"]=some true
 sqT:PySem.W.kitAny K (.type "tuple") [.type "list",.type "tuple"]=some true∧PySem.W.kitAny K (.type "tuple") [.type "tuple",.type "list"]=some true
 UT:PySem.W.kitOne K (.type "list") (.ref C)=some false∧PySem.W.kitOne K (.type "tuple") (.ref C)=some false∧PySem.W.kitOne K (.ref C) (.ref C)=some true
 int:∀ t∈(["NoneType","str","list","tuple"]:List String),PySem.W.kitOne K (.type t) (.type "int")=some false
 Mv:PySem.W.kitOne K (.type "bool") (.type "int")=some true∧PySem.W.kitOne K (.type "int") (.type "int")=some true∧PySem.W.kitOne K (.ref C) (.type "int")=some false
 Dg:PySem.W.kitOne K (.type "bool") (.type "bool")=some true∧PySem.W.kitOne K (.type "int") (.type "bool")=some false
theorem bW.ty {K:PySem.W.Frag} {mg:Str→Option Value} {C:Addr} {H:Hp} {v:V} {o:Ov} (T:Txt K mg C) (O:mD K C) (h:bW C H v o):∃ t,kU K H v t∧PySem.W.kitAny K t [.type "list",.type "tuple"]=some (Mp o)∧PySem.W.kitAny K t [.type "tuple",.type "list"]=some (Mp o) ∧
  PySem.W.kitOne K t (.type "int")=some (G2 o)∧(G2 o=true→PySem.W.kitOne K t (.type "bool")=some (Y4 o))∧PySem.W.kitOne K t (.ref C)=some (DS o):=by
 cases o with
 | sc u =>
  unfold bW at h
  obtain ⟨rfl,hf⟩:=h
  cases v with
  | gc=>exact ⟨_,.gc,(O.sq "NoneType" (by decide)).1,(O.sq "NoneType" (by decide)).2.1,O.int "NoneType" (by decide),(fun z=>nomatch z),(O.sq "NoneType" (by decide)).2.2⟩
  | bl b=>exact ⟨_,.bl b,(O.sq "bool" (by decide)).1,(O.sq "bool" (by decide)).2.1,O.Mv.1,(fun _=>O.Dg.1),(O.sq "bool" (by decide)).2.2⟩
  | int i=>exact ⟨_,.int i,(O.sq "int" (by decide)).1,(O.sq "int" (by decide)).2.1,O.Mv.2.1,(fun _=>O.Dg.2),(O.sq "int" (by decide)).2.2⟩
  | str x=>exact ⟨_,.str x,(O.sq "str" (by decide)).1,(O.sq "str" (by decide)).2.1,O.int "str" (by decide),(fun z=>nomatch z),(O.sq "str" (by decide)).2.2⟩
  | _=>cases hf
 | sm s =>
  unfold bW at h
  obtain ⟨p,rfl,dx,t,e,_⟩:=h
  exact ⟨_,T.ins e,O.sqS.1,O.sqS.2,O.Mv.2.2,(fun z=>nomatch z),O.UT.2.2⟩
 | sq xs =>
  unfold bW at h
  obtain ⟨a,us,rfl,q,_⟩:=h
  rcases q with q | q
  ·exact ⟨_,.lst q,O.sqL.1,O.sqL.2,O.int "list" (by decide),(fun z=>nomatch z),O.UT.1⟩
  ·exact ⟨_,.tup q,O.sqT.1,O.sqT.2,O.int "tuple" (by decide),(fun z=>nomatch z),O.UT.2.1⟩
def hdS:Ov→Option Str
 | .sc (.str s)=>some s
 | _=>none
def nP (n:Nat):Ov→Option (Int×Nat)
 | .sq [a,b]=>match gJ a,gJ b with
  | some w,some k=>if 1≤w∧0≤k∧k < (n:Int) then some (w,k.toNat) else none
  | _,_=>none
 | _=>none
def gQ (n:Nat):List Ov→Option (List (Int×Nat))
 | []=>some []
 | o::r=>match nP n o,gQ n r with
  | some w,some ws=>some (w::ws)
  | _,_=>none
def mH (ss:List Sm):Ov→Option Ln
 | .sq [h,b]=>if hdS h=some ("add":Str) then (match b with
   | .sq (p::ps)=>(gQ ss.length (p::ps)).map .add
   | _=>none) else none
 | .sq [h,k,d]=>if hdS h=some ("cut":Str) then (match gJ k,gJ d with
   | some k,some d=>if 0≤k∧k < (ss.length:Int)∧1≤d∧((ss.getD k.toNat s0).1.all fun q=>decide (q.2 % d=0))=true then some (.cut k.toNat d) else none
   | _,_=>none) else none
 | _=>none
def nY:Ov→Option (Sm×Ov×Ov)
 | .sq [h,.sm s,x,y]=>if hdS h=some ("split":Str) then some (s,x,y) else none
 | _=>none
open Classical in
noncomputable def PB (ss:List Sm) (l:Ln):Sm:=if h:∃ s,Is ss l s then h.choose else s0
theorem Mq {ss:List Sm} {l:Ln} {s:Sm} (h:Is ss l s):PB ss l=s:=by
 have hx:∃ s,Is ss l s:=⟨s,h⟩
 unfold PB
 rw [dif_pos hx]
 exact Mn hx.choose_spec h
noncomputable def qp (k:List Sm→Sm→Ov→Ov→Bool):List Sm→List Ov→Bool
 | ss,[]=>match ss.getLast? with
  | some s=>s.1.isEmpty && decide (s.2 < 0)
  | none=>false
 | ss,o::r=>match nY o with
  | some (s,x,y)=>r.isEmpty && k ss s x y
  | none=>match mH ss o with
   | some l=>qp k (ss++[PB ss l]) r
   | none=>false
noncomputable def kZ:Nat→List Sm→Ov→Bool
 | 0,ss,.sq xs=>qp (fun _ _ _ _=>false) ss xs
 | n+1,ss,.sq xs=>qp (fun ss s x y=>kZ n (ss++[s]) x && kZ n (ss++[tR s]) y) ss xs
 | _,_,_=>false
end Hw
namespace PySem
open PySem.Spec PyProof.Rows PySem.Calls PyProof.V
section
variable {prog:Program} {w:World} {A:Around} {E:Value→Shared→Prop} {s:Shared}
theorem Ll {it t:Addr} {items:Array Value} (hne:t≠it):∀ (n i:Nat) (s:Shared) (Q:List Value→Shared→Prop),s.heap.IsListIter it t i→s.heap.IsList t items→i+n≤items.size →
  (∀ h',h'.IsListIter it t (i+n)→Heap.SameBut it s.heap h'→Q ((items.toList.drop i).take n) { s with heap:=h' })→wpAny (model prog w) A (draw (.ref it) n) Q E s
 | 0,i,s,Q,hit,_,_,hQ=>by
  show wpAny _ _ (pure []) Q E s
  exact wpAny_pure (by simpa using hQ s.heap hit (Heap.SameBut.refl ..))
 | n+1,i,s,Q,hit,ht,hle,hQ=>by
  have hlt:i < items.size:=by omega
  show wpAny _ _ (pyNext (.ref it) >>= _) Q E s
  refine wpAny_bind (wpAny_pyNext_list_item hit ht (x:=items[i]) (by simp [hlt]) fun h₁ hit₁ hs₁=>?_)
  refine wpAny_bind (wpAny_holding (Ll hne n (i+1) _ _ hit₁ (ht.extBut hs₁.extBut hne) (by omega) fun h₂ hit₂ hs₂=>wpAny_pure ?_))
  have hd:items.toList.drop i=items[i]::items.toList.drop (i+1):=by simp [List.drop_eq_getElem_cons,hlt]
  have:=hQ h₂ (by rw [show i+(n+1)=i+1+n by omega];exact hit₂) (hs₁.trans hs₂)
  rw [hd,List.take_succ_cons] at this
  exact this
theorem Jk {t:Addr} {items:Array Value} {Q:List Value→Shared→Prop} (hh:A.handled=none) (ht:s.heap.IsList t items)
  (hQ:∀ h',Heap.ExtBut s.heap.objs.size s.heap h'→Q items.toList { s with heap:=h' }):wpAny (model prog w) A (unpackItems (.ref t) items.size none) Q E s:=by
 have hlt:t≠s.heap.objs.size:=by obtain ⟨o,ho,_⟩:=ht;exact Nat.ne_of_lt (Heap.lt_size ho)
 unfold unpackItems
 refine wpAny_bind ?_
 ·unfold notIterableAtAll
  refine wpAny_bind (wpAny_specialOf ht.typeIs slot_list_iter.lookup ?_)
  refine wpAny_pure ?_
  simp only [Bool.false_eq_true,if_false]
  refine wpAny_bind (wpAny_holding (wpAny_pyIter_list ht ?_))
  refine wpAny_bind (wpAny_holding (Ll hlt items.size 0 _ _ ⟨_,Heap.get?_push_size _ rfl,rfl,rfl⟩ (ht.at fun o e=>Heap.get?_push_of_some _ e) (by omega) fun h₁ hit₁ hs₁=>?_))
  have hall:List.take items.size (List.drop 0 items.toList)=items.toList:=by
   rw [List.drop_zero];exact List.take_of_length_le (by simp)
  rw [hall]
  rw [if_neg (by simp)]
  have ht₁:h₁.IsList t items:=(ht.at fun o e=>Heap.get?_push_of_some _ e).extBut hs₁.extBut hlt
  refine wpAny_bind (wpAny_holding (wpAny_pyNext_list_end hh hit₁ ht₁ (by simp) fun h₂ he₂=>?_))
  simp only [Option.isSome_none,Bool.false_eq_true,if_false]
  refine wpAny_pure (hQ h₂ fun b o hb e=>he₂ b o hb (hs₁.extBut b o hb (Heap.get?_push_of_some _ e)))
theorem KJ {env:Env} {elts:List Expr} {x1} {pos:Pos} {t:Addr} {items:Array Value} {Q:Unit→Shared→Prop} (hh:A.handled=none) (ht:s.heap.IsList t items)
  (hn:(assignEach elts env).length=items.size) (hstar:(assignEach elts env).findIdx? (·.1)=none)
  (h:∀ h',Heap.ExtBut s.heap.objs.size s.heap h'→wpAny (model prog w) A (assignInOrder ((assignEach elts env).map (·.2)) items.toList) Q E { s with heap:=h' }) :
  wpAny (model prog w) A (assign (.Tuple elts x1 pos) env (.ref t)) Q E s:=by
 rw [assign_Tuple]
 refine wpAny_bind (wpAny_standAt ?_)
 unfold unpack
 rw [hn,hstar]
 exact wpAny_bind (wpAny_holding (Jk hh ht h))
end
end PySem
namespace L2
open PySem PySem.Spec PyProof.Rows
section
variable {X:Cx} {pos:Pos}
def Qa (n:Nat) (t:Jb):TG:=fun v σ H Q=>∃ a xs,v=.ref a∧vz H a xs∧xs.length=n∧t xs σ H Q
theorem JG {es:List Expr} {k:Nat} {t:Jb} {n:Nat} (hc:X.calm=true) (h:Ob X es t)
  (hn:(assignEach es X.env).length=n:=by rfl) (hst:(assignEach es X.env).findIdx? (·.1)=none:=by rfl):PG X (.Tuple es k pos) (Qa n t):=by
 intro pins s σ H v u Q I r hw
 obtain ⟨a,xs,e1,hq,hl,hw⟩:=hw
 subst e1
 cases r
 rcases hq with hq | hq
 ·obtain ⟨its,rv,ht,hz⟩:=I.list (bz.of hq)
  refine KJ (I.ok.hd hc) ht.isList (by simp [hn,← hl,rv.length]) hst fun h' hx=>?_
  have I1:Inv X pins σ H { s with heap:=h' }:=I.kept (t':=s.toks) fun b o e=>hx b o (Nat.ne_of_lt (Heap.lt_size e)) e
  exact h pins _ σ H xs _ Q I1 (by simpa using rv) hw
 ·obtain ⟨its,rv,ht,hz⟩:=I.tuple (cR.of hq)
  refine assign_Tuple_tuple (I.ok.hd hc) ht (by simp [hn,← hl,rv.length]) hst fun h' hx=>?_
  have I1:Inv X pins σ H { s with heap:=h' }:=I.kept (t':=s.toks) fun b o e=>hx b o (Nat.ne_of_lt (Heap.lt_size e)) e
  exact h pins _ σ H xs _ Q I1 (by simpa using rv) hw
def RO (i j:Int):Prop:=i.natAbs < 2 ^ 100000∧j.natAbs < 2 ^ 100000
theorem Iz {i:Int} (h:i.natAbs < 2 ^ 100000):Builtin.Int.intBits i≤2 ^ 20:=by
 unfold Builtin.Int.intBits
 by_cases h0:i.natAbs=0
 ·have:i=0:=Int.natAbs_eq_zero.mp h0
  rw [this]
  decide
 ·have:i.natAbs.log2 < 100000:=(Nat.log2_lt h0).mpr h
  have e:(2:Nat) ^ 20=1048576:=by decide
  rw [e]
  split
  ·omega
  ·omega
theorem rK:mJ X (binaryOp .Mult) (rI RO fun i j=>.int (i*j)):=NJ fun _ _ _ _ _ _ _ hc q=>mul_int q (IntMulOk.of_bits (Iz hc.1) (Iz hc.2))
def RP (_ j:Int):Prop:=0 < j∧j < 2 ^ 100
theorem oA:mJ X (binaryOp .FloorDiv) (rI RP fun i j=>.int (i / j)):=NJ fun i j _ _ _ _ _ hc q=>by
 have h1:(0:Int) < j:=hc.1
 refine floordiv_int (by omega) ?_ (.inl (PyProof.noPylong_of_log2 ?_))
 ·rw [show i.fdiv j=i / j from (Int.fdiv_eq_ediv_of_nonneg i (by omega))]
  exact q
 ·have h2:=hc.2
  have h0:j.natAbs≠0:=by omega
  have:j.natAbs < 2 ^ 100:=by omega
  have:=(Nat.log2_lt h0).mpr this
  omega
end
end L2
namespace Hw
open PySem L2
def jB (o:Ov):Bool:=match gJ o with | some i=>decide (1≤i) | none=>false
def Dj (n:Nat) (o:Ov):Bool:=match gJ o with | some i=>decide (0≤i) && decide (i < (n:Int)) | none=>false
def jE (b:Nat) (s:Sm):Prop:=s.2.natAbs < 2 ^ b∧∀ p∈s.1,p.2.natAbs < 2 ^ b
theorem jE.mono {a b:Nat} {s:Sm} (h:jE a s) (l:a≤b):jE b s:=by
 have:=Nat.pow_le_pow_right (n:=2) (by decide) l
 exact ⟨Nat.lt_of_lt_of_le h.1 this,fun p hp=>Nat.lt_of_lt_of_le (h.2 p hp) this⟩
def LnB:Ln→Prop
 | .cut _ d=>d < 2 ^ 70
 | .add ws=>ws.length≤10∧∀ p∈ws,p.1.natAbs < 2 ^ 70
theorem A9 {M:Nat} {f:Str→Int} (hf:∀ x,f x=0∨f x=1):∀ {ps:Ps},(∀ p∈ps,p.2.natAbs≤M)→(eO ps f).natAbs≤ps.length*M
 | [],_=>Nat.zero_le _
 | p::r,h=>by
  have ih:=A9 hf (ps:=r) fun q hq=>h q (List.mem_cons_of_mem _ hq)
  have hp:=h p (List.mem_cons_self ..)
  show (p.2*f p.1+eO r f).natAbs≤(r.length+1)*M
  have e:(p.2*f p.1).natAbs≤M:=by
   rcases hf p.1 with z | z <;> rw [z]
   ·simp
   ·simpa using hp
  have:=Int.natAbs_add_le (p.2*f p.1) (eO r f)
  rw [Nat.add_mul]
  omega
theorem xV:∀ {ts:Ps} {p:Str×Int},(keys ts).Nodup→p∈ts→eO ts (fun x=>if x=p.1 then 1 else 0)=p.2
 | q::r,p,nd,h=>by
  have Ma:(q.1::keys r).Nodup:=nd
  obtain ⟨n1,n2⟩:=List.nodup_cons.mp Ma
  show q.2*(if q.1=p.1 then 1 else 0)+eO r _=p.2
  rcases List.mem_cons.mp h with e | e
  ·subst e
   have z:eO r (fun x=>if x=p.1 then 1 else 0)=0:=by
    have:∀ {l:Ps},p.1 ∉ keys l→eO l (fun x=>if x=p.1 then 1 else 0)=0:=fun {l}=>by
     induction l with
     | nil=>intro _;rfl
     | cons a l ih =>
      intro hn
      have hn':p.1 ∉ a.1::keys l:=hn
      show a.2*(if a.1=p.1 then 1 else 0)+eO l _=0
      have hz:¬ a.1=p.1:=fun z=>hn' (by rw [← z];exact List.mem_cons_self ..)
      rw [if_neg hz,ih fun z=>hn' (List.mem_cons_of_mem _ z)]
      simp
    exact this n1
   rw [if_pos rfl,z]
   simp
  ·have:p.1∈keys r:=List.mem_map.mpr ⟨p,e,rfl⟩
   have hz:¬ q.1=p.1:=fun z=>n1 (by rw [z];exact this)
   rw [if_neg hz,xV n2 e]
   simp
theorem yc {M:Nat} {ps ts:Ps} (g:mK ps ts) (h:∀ p∈ps,p.2.natAbs≤M):∀ p∈ts,p.2.natAbs≤ps.length*M:=fun p hp=>by
 have e:=xV (oZ g.1) hp
 rw [g.2] at e
 rw [← e]
 refine A9 (fun x=>?_) h
 by_cases z:x=p.1
 ·exact .inr (if_pos z)
 ·exact .inl (if_neg z)
theorem De {b:Nat} {ss:List Sm} (hs:∀ s∈ss,jE b s):∀ {ws:List (Int×Nat)},(∀ p∈ws,p.1.natAbs < 2 ^ 70∧p.2 < ss.length)→(∀ q∈jv ss ws,q.2.natAbs≤2 ^ (b+70))∧(kL ss ws).natAbs≤ws.length*2 ^ (b+70)
 | [],_=>⟨(fun _ h=>nomatch h),Nat.zero_le _⟩
 | p::r,hw=>by
  obtain ⟨i1,i2⟩:=De hs (ws:=r) fun q hq=>hw q (List.mem_cons_of_mem _ hq)
  obtain ⟨h1,h2⟩:=hw p (List.mem_cons_self ..)
  have hm:=hs _ (List.getElem_mem h2)
  have e:=fH (List.getElem?_eq_getElem h2)
  have mul:∀ x:Int,x.natAbs < 2 ^ b→(p.1*x).natAbs≤2 ^ (b+70):=fun x hx=>by
   rw [Int.natAbs_mul,Nat.pow_add,Nat.mul_comm]
   exact Nat.mul_le_mul (Nat.le_of_lt hx) (Nat.le_of_lt h1)
  constructor
  ·intro q hq
   rw [jv,e] at hq
   rcases List.mem_append.mp hq with z | z
   ·obtain ⟨u,hu,rfl⟩:=List.mem_map.mp z
    exact mul _ (hm.2 u hu)
   ·exact i1 q z
  ·rw [kL,e,List.length_cons,Nat.add_mul]
   have:=Int.natAbs_add_le (p.1*(ss[p.2]).2) (kL ss r)
   have:=mul _ hm.1
   omega
theorem Cy (b:Nat) {n:Nat} (h:n≤400):n*2 ^ (b+70) < 2 ^ (b+100):=by
 have e:2 ^ (b+100)=2 ^ 30*2 ^ (b+70):=by rw [← Nat.pow_add];congr 1;omega
 rw [e]
 exact Nat.mul_lt_mul_of_pos_right (Nat.lt_of_le_of_lt h (by decide)) (Nat.pow_pos (by decide))
theorem Mm {xs:List Str} {b:Nat} {ss:List Sm} (hx:xs.length≤6) (hg:∀ s∈ss,Gm xs s) (hs:∀ s∈ss,jE b s):∀ {l:Ln} {s:Sm},LnB l→(∀ ws,l=.add ws→∀ p∈ws,p.2 < ss.length)→(∀ k d,l=.cut k d→1≤d)→Is ss l s→jE (b+100) s
 | .cut k d,s,hb,_,hd,⟨t,et,h⟩=>by
  have S:=hs t (List.mem_of_getElem? et)
  have hp:=Nat.pow_le_pow_right (n:=2) (by decide) (Nat.le_add_right b 100)
  rw [h]
  refine ⟨Nat.lt_of_le_of_lt (Int.natAbs_ediv_le_natAbs _ _) (Nat.lt_of_lt_of_le S.1 hp),fun p PY=>?_⟩
  obtain ⟨q,hq,rfl⟩:=List.mem_map.mp PY
  exact Nat.lt_of_le_of_lt (Int.natAbs_ediv_le_natAbs _ _) (Nat.lt_of_lt_of_le (S.2 q hq) hp)
 | .add ws,s,⟨Zz,hw⟩,hk,_,⟨g,h⟩=>by
  have hk:=hk ws rfl
  obtain ⟨c1,c2⟩:=De hs (ws:=ws) fun p hp=>⟨hw p hp,hk p hp⟩
  have lc:=oY hx hg (ws:=ws) hk
  refine ⟨?_,fun p hp=>?_⟩
  ·rw [h]
   exact Nat.lt_of_le_of_lt c2 (Cy b (by omega))
  ·exact Nat.lt_of_le_of_lt (yc g c1 p hp) (Cy b (by omega))
theorem Cn {b:Nat} {s:Sm} (h:jE b s):jE (b+1) (tR s):=by
 have e:2 ^ (b+1)=2 ^ b+2 ^ b:=by rw [Nat.pow_succ];omega
 have p1:0 < 2 ^ b:=Nat.pow_pos (by decide)
 refine ⟨?_,fun p hp=>?_⟩
 ·show (-s.2 - 1).natAbs < 2 ^ (b+1)
  have:=h.1
  omega
 ·obtain ⟨q,hq,rfl⟩:=List.mem_map.mp hp
  have:=h.2 q hq
  show (-q.2).natAbs < 2 ^ (b+1)
  omega
mutual
def iM:Ov→Prop
 | .sc v=>match v with | .int i=>i.natAbs < 2 ^ 70 | _=>True
 | .sm _=>True
 | .sq xs=>mE xs
def mE:List Ov→Prop
 | []=>True
 | x::xs=>iM x∧mE xs
end
theorem jh {x:Ov}:∀ {xs:List Ov},mE xs→x∈xs→iM x
 | y::r,h,e=>by
  unfold mE at h
  rcases List.mem_cons.mp e with z | z
  ·rw [z];exact h.1
  ·exact jh h.2 z
theorem p8:∀ {xs:List Ov},(∀ x∈xs,iM x)→mE xs
 | [],_=>by unfold mE;trivial
 | y::r,h=>by
  unfold mE
  exact ⟨h y (List.mem_cons_self ..),p8 fun x hx=>h x (List.mem_cons_of_mem _ hx)⟩
theorem AY {i:Int} (h:iM (.sc (.int i))):i.natAbs < 2 ^ 70:=by unfold iM at h;exact h
theorem oF {xs:List Ov} (h:iM (.sq xs)):mE xs:=by unfold iM at h;exact h
structure rA (xs:List Str) (o:Ov):Prop where
 hd:∀ h r,o=.sq (h::r)→∃ u,h=.sc u
 le:∀ ls,o=.sq ls→ls.length≤60∧∀ h ys,ls=[h,.sq ys]→ys.length≤10
 sp:∀ s x y,nY o=some (s,x,y)→Gm xs s∧jE 100 s
 nn:iM o
def Jc (xs:List Str):Nat→Ov→Prop
 | 0,o=>∀ ls,o=.sq ls→ls.length≤9∧∀ l∈ls,rA xs l
 | n+1,o=>∀ ls,o=.sq ls→ls.length≤9∧∀ l∈ls,rA xs l∧∀ s x y,nY l=some (s,x,y)→Jc xs n x∧Jc xs n y
theorem Jc.ln {xs:List Str} {n:Nat} {ls:List Ov} (h:Jc xs n (.sq ls)):ls.length≤9∧∀ l∈ls,rA xs l:=by
 cases n with
 | zero=>exact h ls rfl
 | succ n=>exact ⟨(h ls rfl).1,fun l hl=>((h ls rfl).2 l hl).1⟩
def mX (C:Addr):Sp:=fun vs H Q _=>∃ (v:V) (o:Ov),vs=[v]∧bW C H v o∧∀ H',aP H H'→Q (.bl (Mp o)) H'
def n5 (C:Addr):Sp:=fun vs H Q _=>∃ (v:V) (o:Ov),vs=[v]∧bW C H v o∧Q (.bl (gJ o).isSome) H
def n8 (C:Addr):Sp:=fun vs H Q _=>∃ (v:V) (o:Ov),vs=[v]∧bW C H v o∧Q (.bl (jB o)) H
def xB (C:Addr):Sp:=fun vs H Q _=>∃ (L:Addr) (us:List V) (v:V) (o:Ov),vs=[.ref L,v]∧H L=some (.lst us)∧bW C H v o∧Q (.bl (Dj us.length o)) H
def mW (C:Addr):Sp:=fun vs H Q _=>∃ (L:Addr) (us:List V) (v:V) (o:Ov),vs=[.ref L,v]∧H L=some (.lst us)∧bW C H v o∧∀ H',aP H H'→Q (.bl (nP us.length o).isSome) H'
def pR (C:Addr):Sp:=fun vs H Q _=>∃ (p:Addr) (ts:Ps) (n d:Int),vs=[.ref p,.int d]∧cJ C H p ts n∧1≤d∧∀ H',aP H H'→Q (.bl (ts.all fun q=>decide (q.2 % d=0))) H'
def nZ (C:Addr):Sp:=fun vs H Q _=>∃ (v:V) (o:Ov),vs=[v]∧bW C H v o∧(∀ s,o=.sm s→Canon s.1∧s.1.length≤6)∧∀ H',aP H H'→Q (.bl (DS o)) H'
def m5 (C:Addr):Sp:=fun vs H Q _=>∃ (xs:List Str) (v:V) (o:Ov),vs=[v]∧bW C H v o∧xs.length≤6∧rA xs o∧∀ H',aP H H'→Q (.bl (nY o).isSome) H'
def m6 (C:Addr):Sp:=fun vs H Q _=>∃ (xs:List Str) (L:Addr) (us:List V) (ss:List Sm) (v:V) (o:Ov),vs=[.ref L,v]∧H L=some (.lst us)∧vA C H us ss∧bW C H v o∧rA xs o∧∀ H',aP H H'→Q (.bl (mH ss o).isSome) H'
def pP (C:Addr):Sp:=fun vs H Q _=>∃ (xs:List Str) (L:Addr) (us:List V) (ss:List Sm) (v:V) (o:Ov) (l:Ln) (b:Nat),vs=[.ref L,v]∧H L=some (.lst us)∧vA C H us ss∧xs.length≤6∧(∀ s∈ss,Gm xs s)∧(∀ s∈ss,jE b s)∧b≤99000∧bW C H v o∧rA xs o∧mH ss o=some l ∧
 ∀ (r:Addr) (s:Sm) (H':Hp),aP H H'→Is ss l s→cJ C H' r s.1 s.2→Q (.ref r) H'
def m7 (C:Addr):Sp:=fun vs H Q _=>∃ (p:Addr) (ts:Ps) (n d:Int),vs=[.ref p,.int d]∧cJ C H p ts n∧1≤d∧d < 2 ^ 70∧∀ (r:Addr) (H':Hp),aP H H'→cJ C H' r (ts.map fun q=>(q.1,q.2 / d)) (n / d)→Q (.ref r) H'
structure LsOk (xs:List Str) (ss:List Sm):Prop where
 x6:xs.length≤6
 gm:∀ s∈ss,Gm xs s
 sz:∀ s∈ss,jE (100*ss.length+200) s
def vN (C:Addr) (k:Nat):Sp:=fun vs H Q _=>∃ (n:Nat) (xs:List Str) (L:Addr) (v:V) (o:Ov) (H0:Hp) (us:List V) (ss:List Sm),vs=[.ref L,v,.int (n:Int)]∧n < k∧H L=some (.lst us)∧vA C H us ss∧LsOk xs ss∧ss.length+10*(n+1)≤500 ∧
 H0 L=none∧aP H0 H∧bW C H0 v o∧Jc xs n o∧∀ H',cA L H H'→Q (.bl (kZ n ss o)) H'
def xA (C:Addr) (k:Nat):Sp:=fun vs H Q _=>∃ (n:Nat) (xs:List Str) (L:Addr) (v:V) (o x y:Ov) (us:List V) (ss:List Sm) (s:Sm),vs=[.ref L,v,.int (n:Int)]∧n < k∧H L=some (.lst us)∧vA C H us ss∧LsOk xs ss∧ss.length+1+10*(n+1)≤500 ∧
 bW C H v o∧nY o=some (s,x,y)∧Gm xs s∧jE 100 s∧Jc xs n x∧Jc xs n y∧∀ H',aP H H'→Q (.bl (kZ n (ss++[s]) x && kZ n (ss++[tR s]) y)) H'
def mY (C:Addr):Sp:=fun vs H Q _=>∃ (xs:List Str) (c:Addr) (v:V) (o:Ov) (us:List V) (ss:List Sm),vs=[.ref c,v]∧vz H c us∧vA C H us ss∧LsOk xs ss∧ss.length≤100∧bW C H v o∧Jc xs 20 o∧∀ H',aP H H'→Q (.bl (kZ 20 ss o)) H'
theorem ZN {C:Addr}:∀ vs H Q E,¬ vN C 0 vs H Q E:=fun _ _ _ _ ⟨_,_,_,_,_,_,_,_,_,h,_⟩=>absurd h (Nat.not_lt_zero _)
end Hw
namespace Hw
open PySem L2
theorem GB:∀ o:Ov,(gJ o).isSome=(G2 o && !Y4 o)
 | .sc v=>by cases v <;> rfl
 | .sm _=>rfl
 | .sq _=>rfl
theorem CD {C:Addr} {H:Hp} {v:V}:∀ {o:Ov} {i:Int},bW C H v o→gJ o=some i→v=.int i
 | .sc u,i,h,e=>by
  unfold bW at h
  obtain ⟨rfl,_⟩:=h
  cases v with
  | int j=>cases e;rfl
  | _=>cases e
 | .sm _,i,h,e=>by cases e
 | .sq _,i,h,e=>by cases e
theorem K6 {i:Int}:∀ {o:Ov},gJ o=some i→o=.sc (.int i)
 | .sc v,e=>by
  cases v with
  | int j=>cases e;rfl
  | _=>cases e
 | .sm _,e=>by cases e
 | .sq _,e=>by cases e
theorem cY {C:Addr} {H:Hp} {v:V} {ys:List Ov} (h:bW C H v (.sq ys)):∃ a us,v=.ref a∧vz H a us∧Paired (bW C H) us ys:=by
 unfold bW at h
 obtain ⟨a,us,e,q,r⟩:=h
 exact ⟨a,us,e,q,kB.mp r⟩
theorem cD {C:Addr} {H:Hp} {a:Addr} {us:List V} {ys:List Ov} (q:vz H a us) (r:Paired (bW C H) us ys):bW C H (.ref a) (.sq ys):=by
 unfold bW
 exact ⟨a,us,rfl,q,kB.mpr r⟩
theorem cz {C:Addr} {H:Hp} {v:V} (h:gj v=true):bW C H v (.sc v):=by unfold bW;exact ⟨rfl,h⟩
theorem pU {C:Addr} {H:Hp} {v u:V} (h:bW C H v (.sc u)):v=u∧gj u=true:=by unfold bW at h;exact h
theorem yU {C:Addr} {H:Hp} {p:Addr} {s:Sm} (h:cJ C H p s.1 s.2):bW C H (.ref p) (.sm s):=by unfold bW;exact ⟨p,rfl,h⟩
theorem LL {C:Addr} {H:Hp} {v:V} {s:Sm} (h:bW C H v (.sm s)):∃ p,v=.ref p∧cJ C H p s.1 s.2:=by unfold bW at h;exact h
theorem jI {α β:Type} {R:α→β→Prop} {us:List α} {a b:β} (h:Paired R us [a,b]):∃ u w,us=[u,w]∧R u a∧R w b:=by
 cases h with
 | cons x t=>cases t with
  | cons y t2=>cases t2;exact ⟨_,_,rfl,x,y⟩
theorem lF {α β:Type} {R:α→β→Prop} {us:List α} {a b c:β} (h:Paired R us [a,b,c]):∃ u w z,us=[u,w,z]∧R u a∧R w b∧R z c:=by
 cases h with
 | cons x t=>obtain ⟨u,w,rfl,p,q⟩:=jI t;exact ⟨_,_,_,rfl,x,p,q⟩
theorem mh {α β:Type} {R:α→β→Prop} {us:List α} {a b c d:β} (h:Paired R us [a,b,c,d]):∃ u w z y,us=[u,w,z,y]∧R u a∧R w b∧R z c∧R y d:=by
 cases h with
 | cons x t=>obtain ⟨u,w,z,rfl,p,q,r⟩:=lF t;exact ⟨_,_,_,_,rfl,x,p,q,r⟩
theorem v8 {α:Type}:∀ {l:List α},l.length=2→∃ a b,l=[a,b]
 | [a,b],_=>⟨a,b,rfl⟩
theorem Mf {α:Type}:∀ {l:List α},l.length=3→∃ a b c,l=[a,b,c]
 | [a,b,c],_=>⟨a,b,c,rfl⟩
theorem Pu {α:Type}:∀ {l:List α},l.length=4→∃ a b c d,l=[a,b,c,d]
 | [a,b,c,d],_=>⟨a,b,c,d,rfl⟩
theorem wX {n:Nat}:∀ {ys:List Ov},ys.length≠2→nP n (.sq ys)=none
 | [],_=>rfl
 | [_],_=>rfl
 | [_,_],h=>absurd rfl h
 | _::_::_::_,_=>rfl
theorem wW (n:Nat) (p q:Ov):(nP n (.sq [p,q])).isSome=(jB p && Dj n q):=by
 show (match gJ p,gJ q with
  | some w,some k=>if 1≤w∧0≤k∧k < (n:Int) then some (w,k.toNat) else none
  | _,_=>none).isSome=_
 unfold jB Dj
 cases gJ p with
 | none=>rfl
 | some w =>
  cases gJ q with
  | none=>simp
  | some k =>
   show (if 1≤w∧0≤k∧k < (n:Int) then some (w,k.toNat) else none).isSome=_
   by_cases h:1≤w∧0≤k∧k < (n:Int)
   ·rw [if_pos h];simp [h.1,h.2.1,h.2.2]
   ·rw [if_neg h]
    by_cases h1:1≤w
    ·by_cases h2:0≤k
     ·have h3:¬ k < (n:Int):=fun z=>h ⟨h1,h2,z⟩
      simp [h1,h2,h3]
     ·simp [h1,h2]
    ·simp [h1]
theorem wY (n:Nat):∀ ps:List Ov,(gQ n ps).isSome=ps.all fun p=>(nP n p).isSome
 | []=>rfl
 | p::r=>by
  have ih:=wY n r
  rw [List.all_cons,← ih]
  show (match nP n p,gQ n r with | some w,some ws=>some (w::ws) | _,_=>none).isSome=_
  cases nP n p with
  | none=>rfl
  | some w=>cases gQ n r <;> rfl
theorem lE {o:Ov} {s:Sm} {x y:Ov} (h:nY o=some (s,x,y)):∃ h',o=.sq [h',.sm s,x,y]∧hdS h'=some ("split":Str):=by
 unfold nY at h
 split at h
 ·rename_i h' s' x' y'
  by_cases z:hdS h'=some ("split":Str)
  ·rw [if_pos z] at h
   cases h
   exact ⟨_,rfl,z⟩
  ·rw [if_neg z] at h
   cases h
 ·cases h
theorem Cp {ys:List Ov} (h:ys.length≠4):nY (.sq ys)=none:=by
 cases e:nY (.sq ys) with
 | none=>rfl
 | some t =>
  obtain ⟨s,x,y⟩:=t
  obtain ⟨h',e,_⟩:=lE e
  cases e
  exact absurd rfl h
theorem nX (h b x y:Ov):(nY (.sq [h,b,x,y])).isSome=(decide (hdS h=some ("split":Str)) && DS b):=by
 cases b with
 | sm s =>
  show (if hdS h=some ("split":Str) then some (s,x,y) else none).isSome=_
  by_cases z:hdS h=some ("split":Str)
  ·rw [if_pos z,decide_eq_true z];rfl
  ·rw [if_neg z,decide_eq_false z];rfl
 | sc v=>simp [nY,DS]
 | sq l=>simp [nY,DS]
theorem rO {ss:List Sm}:∀ {ys:List Ov},ys.length≠2→ys.length≠3→mH ss (.sq ys)=none
 | [],_,_=>rfl
 | [_],_,_=>rfl
 | [_,_],h,_=>absurd rfl h
 | [_,_,_],_,h=>absurd rfl h
 | _::_::_::_::_,_,_=>rfl
theorem ql {C:Addr} {H:Hp} {v u:V} (h:bW C H v (.sc u)) (w:Str):LN v (.str w)=true∧decide (v=.str w)=decide (hdS (.sc u)=some w):=by
 obtain ⟨rfl,hf⟩:=pU h
 cases v with
 | str s =>
  refine ⟨rfl,?_⟩
  show decide (V.str s=V.str w)=decide (some s=some w)
  by_cases z:s=w
  ·rw [z];simp
  ·rw [decide_eq_false (fun e=>z (V.str.inj e)),decide_eq_false (fun e=>z (Option.some.inj e))]
 | gc=>exact ⟨rfl,rfl⟩
 | bl b=>exact ⟨rfl,rfl⟩
 | int i=>exact ⟨rfl,rfl⟩
 | _=>cases hf
theorem xU (ss:List Sm) (h b:Ov):(mH ss (.sq [h,b])).isSome=(decide (hdS h=some ("add":Str)) && (match b with | .sq ps=>decide (0 < ps.length) && ps.all fun p=>(nP ss.length p).isSome | _=>false)):=by
 show (if hdS h=some ("add":Str) then (match b with
   | .sq (p::ps)=>(gQ ss.length (p::ps)).map Ln.add
   | _=>none) else none).isSome=_
 by_cases z:hdS h=some ("add":Str)
 ·rw [if_pos z,decide_eq_true z,Bool.true_and]
  cases b with
  | sc v=>rfl
  | sm s=>rfl
  | sq ps =>
   cases ps with
   | nil=>rfl
   | cons p r =>
    show ((gQ ss.length (p::r)).map Ln.add).isSome=_
    rw [Option.isSome_map,wY]
    simp
 ·rw [if_neg z,decide_eq_false z];rfl
theorem qf (ss:List Sm) (h k d:Ov):(mH ss (.sq [h,k,d])).isSome=(decide (hdS h=some ("cut":Str)) && (Dj ss.length k && (jB d && (match gJ k,gJ d with | some i,some j=>(ss.getD i.toNat s0).1.all fun q=>decide (q.2 % j=0) | _,_=>false)))):=by
 show (if hdS h=some ("cut":Str) then (match gJ k,gJ d with
   | some k,some d=>if 0≤k∧k < (ss.length:Int)∧1≤d∧((ss.getD k.toNat s0).1.all fun q=>decide (q.2 % d=0))=true then some (Ln.cut k.toNat d) else none
   | _,_=>none) else none).isSome=_
 unfold Dj jB
 by_cases z:hdS h=some ("cut":Str)
 ·rw [if_pos z,decide_eq_true z,Bool.true_and]
  cases gJ k with
  | none=>rfl
  | some i =>
   cases gJ d with
   | none=>simp
   | some j =>
    show (if 0≤i∧i < (ss.length:Int)∧1≤j∧((ss.getD i.toNat s0).1.all fun q=>decide (q.2 % j=0))=true then some (Ln.cut i.toNat j) else none).isSome=((decide (0≤i) && decide (i < (ss.length:Int))) && (decide (1≤j) && (ss.getD i.toNat s0).1.all fun q=>decide (q.2 % j=0)))
    by_cases h:0≤i∧i < (ss.length:Int)∧1≤j∧((ss.getD i.toNat s0).1.all fun q=>decide (q.2 % j=0))=true
    ·rw [if_pos h,decide_eq_true h.1,decide_eq_true h.2.1,decide_eq_true h.2.2.1,h.2.2.2];rfl
    ·rw [if_neg h]
     symm
     rw [Option.isSome_none,Bool.eq_false_iff]
     intro e
     simp only [Bool.and_eq_true,decide_eq_true_eq] at e
     exact h ⟨e.1.1,e.1.2,e.2.1,e.2.2⟩
 ·rw [if_neg z,decide_eq_false z];rfl
end Hw
namespace Hw
open PySem L2
theorem lX {n:Nat} {o:Ov} (h:Dj n o=true):∃ i:Nat,i < n∧o=.sc (.int i):=by
 unfold Dj at h
 cases e:gJ o with
 | none=>rw [e] at h;cases h
 | some i =>
  rw [e] at h
  have h:(decide (0≤i) && decide (i < (n:Int)))=true:=h
  simp only [Bool.and_eq_true,decide_eq_true_eq] at h
  refine ⟨i.toNat,by omega,?_⟩
  rw [K6 e]
  congr 2
  omega
theorem jn {o:Ov} (h:jB o=true):∃ j:Int,1≤j∧o=.sc (.int j):=by
 unfold jB at h
 cases e:gJ o with
 | none=>rw [e] at h;cases h
 | some i =>
  rw [e] at h
  exact ⟨i,of_decide_eq_true h,K6 e⟩
theorem Lc {o:Ov} {w:Str} (h:hdS o=some w):o=.sc (.str w):=by
 cases o with
 | sc v =>
  cases v with
  | str s=>cases h;rfl
  | _=>cases h
 | sm s=>cases h
 | sq l=>cases h
def WkO (n:Nat) (p:Ov) (w:Int×Nat):Prop:=p=.sq [.sc (.int w.1),.sc (.int w.2)]∧1≤w.1∧w.2 < n
theorem Fy {n:Nat} {p:Ov} {w:Int×Nat} (h:nP n p=some w):WkO n p w:=by
 cases p with
 | sc v=>cases h
 | sm s=>cases h
 | sq ys =>
  by_cases h2:ys.length=2
  ·obtain ⟨a,b,rfl⟩:=v8 h2
   have z:(jB a && Dj n b)=true:=by rw [← wW,h];rfl
   rw [Bool.and_eq_true] at z
   obtain ⟨j,hj,rfl⟩:=jn z.1
   obtain ⟨i,hi,rfl⟩:=lX z.2
   have h:(if 1≤j∧0≤(i:Int)∧(i:Int) < (n:Int) then some (j,(i:Int).toNat) else none)=some w:=h
   rw [if_pos ⟨hj,by omega,by omega⟩] at h
   cases h
   exact ⟨rfl,hj,hi⟩
  ·rw [wX h2] at h
   cases h
theorem pN {n:Nat}:∀ {ps:List Ov} {ws:List (Int×Nat)},gQ n ps=some ws→Paired (WkO n) ps ws
 | [],ws,h=>by cases h;exact .nil
 | p::r,ws,h=>by
  have h:(match nP n p,gQ n r with | some w,some ws=>some (w::ws) | _,_=>none)=some ws:=h
  cases e1:nP n p with
  | none=>rw [e1] at h;cases h
  | some w =>
   cases e2:gQ n r with
   | none=>rw [e1,e2] at h;cases h
   | some ws2 =>
    rw [e1,e2] at h
    cases h
    exact .cons (Fy e1) (pN e2)
theorem mj {ss:List Sm} {o:Ov} {l:Ln} (h:mH ss o=some l) :
  (∃ (k:Nat) (d:Int),o=.sq [.sc (.str "cut"),.sc (.int k),.sc (.int d)]∧l=.cut k d∧k < ss.length∧1≤d∧∀ q∈(ss.getD k s0).1,q.2 % d=0) ∨
  (∃ (ps:List Ov) (ws:List (Int×Nat)),o=.sq [.sc (.str "add"),.sq ps]∧l=.add ws∧ws≠[]∧Paired (WkO ss.length) ps ws):=by
 cases o with
 | sc v=>cases h
 | sm s=>cases h
 | sq ys =>
  by_cases h2:ys.length=2
  ·obtain ⟨a,b,rfl⟩:=v8 h2
   have h:(if hdS a=some ("add":Str) then (match b with
    | .sq (p::ps)=>(gQ ss.length (p::ps)).map Ln.add
    | _=>none) else none)=some l:=h
   by_cases z:hdS a=some ("add":Str)
   ·rw [if_pos z] at h
    cases b with
    | sc v=>cases h
    | sm s=>cases h
    | sq ps =>
     cases ps with
     | nil=>cases h
     | cons p r =>
      obtain ⟨ws,e,rfl⟩:=Option.map_eq_some_iff.mp h
      have pw:=pN e
      refine .inr ⟨_,ws,by rw [Lc z],rfl,fun z=>?_,pw⟩
      rw [z] at pw
      cases pw
   ·rw [if_neg z] at h;cases h
  ·by_cases h3:ys.length=3
   ·obtain ⟨a,b,c,rfl⟩:=Mf h3
    have hs:(mH ss (.sq [a,b,c])).isSome=true:=by rw [h];rfl
    rw [qf] at hs
    simp only [Bool.and_eq_true] at hs
    obtain ⟨z,h1,hf2,h3⟩:=hs
    have z:=of_decide_eq_true z
    obtain ⟨i,hi,rfl⟩:=lX h1
    obtain ⟨j,hj,rfl⟩:=jn hf2
    have h3:((ss.getD (i:Int).toNat s0).1.all fun q=>decide (q.2 % j=0))=true:=h3
    rw [Int.toNat_natCast] at h3
    have e:mH ss (.sq [a,.sc (.int i),.sc (.int j)])=some (.cut i j):=by
     show (if hdS a=some ("cut":Str) then (if 0≤(i:Int)∧(i:Int) < (ss.length:Int)∧1≤j∧((ss.getD (i:Int).toNat s0).1.all fun q=>decide (q.2 % j=0))=true then some (Ln.cut (i:Int).toNat j) else none) else none)=_
     rw [if_pos z,if_pos ⟨by omega,by omega,hj,by rw [Int.toNat_natCast];exact h3⟩,Int.toNat_natCast]
    rw [e] at h
    cases h
    exact .inl ⟨i,j,by rw [Lc z],rfl,hi,hj,fun q hq=>of_decide_eq_true (List.all_eq_true.mp h3 q hq)⟩
   ·rw [rO h2 h3] at h;cases h
theorem rA.nb {xs:List Str} {o:Ov} (ok:rA xs o) (ss:List Sm) (l:Ln) (h:mH ss o=some l):LnB l:=by
 rcases mj h with ⟨k,d,rfl,rfl,hk,h1,hm⟩ | ⟨ps,ws,rfl,rfl,hn,hp⟩
 ·have:=AY (jh (oF ok.nn) (x:=.sc (.int d)) (by simp))
  show d < 2 ^ 70
  omega
 ·have lp:=aA hp
  have K9:=(ok.le _ rfl).2 _ _ rfl
  refine ⟨by omega,fun p Lb=>?_⟩
  obtain ⟨j,hj⟩:=List.mem_iff_getElem?.mp Lb
  have jl:j < ps.length:=by rw [lp];exact (List.getElem?_eq_some_iff.mp hj).1
  obtain ⟨w,hw,e,_,_⟩:=bf hp (List.getElem?_eq_getElem jl)
  rw [hj] at hw
  cases hw
  have q:=jh (oF (jh (oF ok.nn) (x:=.sq ps) (by simp))) (List.getElem_mem jl)
  rw [e] at q
  exact AY (jh (oF q) (x:=.sc (.int p.1)) (by simp))
theorem vH {n:Nat} {p:Ov}:∀ {ps:List Ov} {i:Nat},ps[i]?=some p→nP n p=none→gQ n ps=none
 | q::r,0,h,e=>by
  cases h
  show (match nP n p,gQ n r with | some w,some ws=>some (w::ws) | _,_=>none)=none
  rw [e]
 | q::r,i+1,h,e=>by
  have ih:=vH (ps:=r) (i:=i) (by simpa using h) e
  show (match nP n q,gQ n r with | some w,some ws=>some (w::ws) | _,_=>none)=none
  rw [ih]
  cases nP n q <;> rfl
theorem vG {n:Nat} {p:Ov} {w:Int×Nat}:∀ {ps:List Ov} {ws:List (Int×Nat)},gQ n ps=some ws→nP n p=some w→gQ n (ps++[p])=some (ws++[w])
 | [],ws,h,e=>by
  cases h
  show (match nP n p,gQ n [] with | some w,some ws=>some (w::ws) | _,_=>none)=_
  rw [e]
  rfl
 | q::r,ws,h,e=>by
  have h:(match nP n q,gQ n r with | some w,some ws=>some (w::ws) | _,_=>none)=some ws:=h
  show (match nP n q,gQ n (r++[p]) with | some w,some ws=>some (w::ws) | _,_=>none)=_
  cases e1:nP n q with
  | none=>rw [e1] at h;cases h
  | some w1 =>
   cases e2:gQ n r with
   | none=>rw [e1,e2] at h;cases h
   | some ws2 =>
    rw [e1,e2] at h
    cases h
    rw [vG e2 e]
    rfl
theorem Pq {xs:List Str} {ss:List Sm} {o:Ov} {l:Ln} {s:Sm} (hg:∀ s∈ss,Gm xs s) (h:mH ss o=some l) (i:Is ss l s):Gm xs s:=by
 rcases mj h with ⟨k,d,rfl,rfl,hk,h1,hm⟩ | ⟨ps,ws,rfl,rfl,hn,hp⟩
 ·obtain ⟨t,et,e⟩:=i
  have G:=hg t (List.mem_of_getElem? et)
  rw [fH et] at hm
  rw [e]
  refine ⟨jY (f:=fun q=>q.2 / d) G.1 fun p hp=>Ik h1 (G.1.nz p hp) (hm p hp),fun t' ht=>G.2 t' ?_⟩
  rw [← keys_map t.1 fun q=>q.2 / d]
  exact ht
 ·refine qo (n:=s.2) i.1 (yu hg fun p Lb=>?_)
  obtain ⟨j,hj⟩:=List.mem_iff_getElem?.mp Lb
  have lp:=aA hp
  have jl:j < ps.length:=by rw [lp];exact (List.getElem?_eq_some_iff.mp hj).1
  obtain ⟨w,hw,_,_,h3⟩:=bf hp (List.getElem?_eq_getElem jl)
  rw [hj] at hw
  cases hw
  exact h3
theorem Me {xs:List Str} {b:Nat} {ss:List Sm} {o:Ov} {l:Ln} {s:Sm} (hx:xs.length≤6) (hg:∀ s∈ss,Gm xs s) (hs:∀ s∈ss,jE b s) (ok:rA xs o) (h:mH ss o=some l) (i:Is ss l s):jE (b+100) s:=by
 refine Mm hx hg hs (ok.nb ss l h) (fun ws e p hp=>?_) (fun k d e=>?_) i
 ·rcases mj h with ⟨_,_,_,e',_⟩ | ⟨ps,ws',_,e',_,pw⟩
  ·rw [e] at e';cases e'
  ·rw [e] at e'
   cases e'
   obtain ⟨j,hj⟩:=List.mem_iff_getElem?.mp hp
   have lp:=aA pw
   have jl:j < ps.length:=by rw [lp];exact (List.getElem?_eq_some_iff.mp hj).1
   obtain ⟨w,hw,_,_,h3⟩:=bf pw (List.getElem?_eq_getElem jl)
   rw [hj] at hw
   cases hw
   exact h3
 ·rcases mj h with ⟨_,_,_,e',_,h1,_⟩ | ⟨_,_,_,e',_⟩
  ·rw [e] at e';cases e';exact h1
  ·rw [e] at e';cases e'
theorem LsOk.ln {xs:List Str} {ss:List Sm} {o:Ov} {l:Ln} {s:Sm} (h:LsOk xs ss) (ok:rA xs o) (e:mH ss o=some l) (i:Is ss l s):LsOk xs (ss++[s]):=by
 have h2:=Me h.x6 h.gm h.sz ok e i
 refine ⟨h.x6,fun t ht=>?_,fun t ht=>?_⟩
 ·rcases List.mem_append.mp ht with z | z
  ·exact h.gm t z
  ·rw [List.mem_singleton.mp z];exact Pq h.gm e i
 ·rw [List.length_append]
  rcases List.mem_append.mp ht with z | z
  ·exact (h.sz t z).mono (by show _≤100*(ss.length+1)+200;omega)
  ·rw [List.mem_singleton.mp z]
   exact h2.mono (by show _≤100*(ss.length+1)+200;omega)
theorem LsOk.add {xs:List Str} {ss:List Sm} {s:Sm} (h:LsOk xs ss) (g:Gm xs s) (z:jE 101 s):LsOk xs (ss++[s]):=by
 refine ⟨h.x6,fun t ht=>?_,fun t ht=>?_⟩
 ·rcases List.mem_append.mp ht with q | q
  ·exact h.gm t q
  ·rw [List.mem_singleton.mp q];exact g
 ·rw [List.length_append]
  rcases List.mem_append.mp ht with q | q
  ·exact (h.sz t q).mono (by show _≤100*(ss.length+1)+200;omega)
  ·rw [List.mem_singleton.mp q]
   exact z.mono (by show 101≤100*(ss.length+1)+200;omega)
theorem FF {b:Nat} {s:Sm} (h:jE b s) (l:b≤99000) {p:Str×Int} (hp:p∈s.1):p.2.natAbs < 2 ^ 100000:=Nat.lt_of_lt_of_le (h.2 p hp) (Nat.pow_le_pow_right (by decide) (by omega))
theorem FG {b:Nat} {s:Sm} (h:jE b s) (l:b≤99000):s.2.natAbs < 2 ^ 100000:=Nat.lt_of_lt_of_le h.1 (Nat.pow_le_pow_right (by decide) (by omega))
theorem Ci {w:Int} (h:w.natAbs < 2 ^ 70):w.natAbs < 2 ^ 100000:=Nat.lt_of_lt_of_le h (Nat.pow_le_pow_right (by decide) (by decide))
end Hw
namespace Hw
open PySem L2
noncomputable def kF:Nat→List Sm→Sm→Ov→Ov→Bool
 | 0,_,_,_,_=>false
 | n+1,ss,s,x,y=>kZ n (ss++[s]) x && kZ n (ss++[tR s]) y
theorem ig (n:Nat) (ss:List Sm) (xs:List Ov):kZ n ss (.sq xs)=qp (kF n) ss xs:=by
 cases n with
 | zero=>unfold kZ;congr 1
 | succ n=>rw [kZ];congr 1
theorem HW (n:Nat) (ss:List Sm) (u:V):kZ n ss (.sc u)=false:=by cases n <;> rfl
theorem HV (n:Nat) (ss:List Sm) (u:Sm):kZ n ss (.sm u)=false:=by cases n <;> rfl
theorem kJ (k:List Sm→Sm→Ov→Ov→Bool) (ss:List Sm):qp k ss []=match ss.getLast? with | some s=>s.1.isEmpty && decide (s.2 < 0) | none=>false:=rfl
theorem ir {k:List Sm→Sm→Ov→Ov→Bool} {ss:List Sm} {o:Ov} {r:List Ov} {s:Sm} {x y:Ov} (h:nY o=some (s,x,y)):qp k ss (o::r)=(r.isEmpty && k ss s x y):=by rw [qp,h]
theorem C3 {k:List Sm→Sm→Ov→Ov→Bool} {ss:List Sm} {o:Ov} {r:List Ov} (h:nY o=none) (h2:mH ss o=none):qp k ss (o::r)=false:=by rw [qp,h];show (match mH ss o with | some l=>_ | none=>false)=false;rw [h2]
theorem uy {k:List Sm→Sm→Ov→Ov→Bool} {ss:List Sm} {o:Ov} {r:List Ov} {l:Ln} {s:Sm} (h:nY o=none) (h2:mH ss o=some l) (i:Is ss l s):qp k ss (o::r)=qp k (ss++[s]) r:=by
 rw [qp,h]
 show (match mH ss o with | some l=>qp k (ss++[PB ss l]) r | none=>false)=_
 rw [h2]
 show qp k (ss++[PB ss l]) r=_
 rw [Mq i]
theorem FO {C:Addr} {H:Hp}:∀ {us:List V} {ss:List Sm},vA C H us ss→Paired (bW C H) us (ss.map .sm)
 | _,_,.nil=>.nil
 | _,_,.cons a t=>.cons (let ⟨_,e,q⟩:=a;e ▸ yU q) (FO t)
end Hw
namespace Hw
open PySem L2
def xG (m:Nat):Ov→Bool
 | .sq ys=>decide (ys.length=m)
 | _=>false
def wV (m:Int) (o:Ov):Bool:=match gJ o with | some i=>decide (m≤i) | none=>false
theorem Cg (o:Ov):wV 1 o=jB o:=rfl
def rF (C:Addr):Sp:=fun vs H Q _=>∃ (v:V) (o:Ov) (m:Int),vs=[v,.int m]∧bW C H v o∧Q (.bl (wV m o)) H
def xj (C:Addr):Sp:=fun vs H Q _=>∃ (v:V) (o:Ov) (m:Nat),vs=[v,.int (m:Int)]∧bW C H v o∧∀ H',aP H H'→Q (.bl (xG m o)) H'
def xo (C:Addr):Sp:=fun vs H Q _=>∃ (v:V) (o:Ov) (L:Addr) (us:List V),vs=[v,.ref L]∧H L=some (.lst us)∧bW C H v o∧Q (.bl (Dj us.length o)) H
def xw (C:Addr):Sp:=fun vs H Q _=>∃ (xs:List Str) (L:Addr) (us:List V) (ss:List Sm) (v:V) (o:Ov) (b:Nat),vs=[.ref L,v]∧H L=some (.lst us)∧vA C H us ss∧xs.length≤6∧(∀ s∈ss,Gm xs s)∧(∀ s∈ss,jE b s)∧b≤99000∧bW C H v o∧rA xs o ∧
 (mH ss o=none→∀ H',aP H H'→Q .gc H')∧∀ (l:Ln) (r:Addr) (s:Sm) (H':Hp),mH ss o=some l→aP H H'→Is ss l s→cJ C H' r s.1 s.2→Q (.ref r) H'
def sV (C:Addr):Sp:=fun vs H Q _=>∃ (p:Addr) (a:Ps) (n k:Int) (b:Nat),vs=[.ref p,.int k]∧cJ C H p a n∧a.length < 64∧jE b (a,n)∧b≤99000∧k.natAbs < 2 ^ 70 ∧
 ∀ (r:Addr) (ts:Ps) (H':Hp),aP H H'→mK (a.map fun p=>(p.1,p.2*k)) ts→ts.length≤a.length→cJ C H' r ts (n*k)→Q (.ref r) H'
def jS (C:Addr) (k:Nat):Sp:=fun vs H Q _=>∃ (n:Nat) (xs:List Str) (c:Addr) (v:V) (o:Ov) (us:List V) (ss:List Sm),vs=[.ref c,v,.int (20 - (n:Int))]∧n≤20∧n < k∧vz H c us∧vA C H us ss∧LsOk xs ss∧ss.length+10*(n+1)≤500∧bW C H v o∧Jc xs n o∧∀ H',aP H H'→Q (.bl (kZ n ss o)) H'
theorem LJ {C:Addr}:∀ vs H Q E,¬ jS C 0 vs H Q E:=fun _ _ _ _ ⟨_,_,_,_,_,_,_,_,_,h,_⟩=>absurd h (Nat.not_lt_zero _)
theorem xF {m:Nat} {o:Ov} (h:xG m o=true):∃ ys,o=.sq ys∧ys.length=m:=by
 cases o with
 | sc v=>cases h
 | sm s=>cases h
 | sq ys=>exact ⟨ys,rfl,of_decide_eq_true h⟩
theorem GQ {ss:List Sm} {o:Ov} (h2:xG 2 o=false) (h3:xG 3 o=false):mH ss o=none:=by
 cases o with
 | sc v=>rfl
 | sm s=>rfl
 | sq ys=>exact rO (of_decide_eq_false h2) (of_decide_eq_false h3)
theorem A8 {ss:List Sm} {u:V} {ps:List Ov} {ws:List (Int×Nat)} (z:hdS (.sc u)=some ("add":Str)) (hp:ps≠[]) (h:gQ ss.length ps=some ws):mH ss (.sq [.sc u,.sq ps])=some (.add ws):=by
 cases ps with
 | nil=>exact absurd rfl hp
 | cons p r =>
  show (if hdS (.sc u)=some ("add":Str) then (gQ ss.length (p::r)).map Ln.add else none)=_
  rw [if_pos z,h]
  rfl
theorem GR {ss:List Sm} {u:V} {ps:List Ov} (h:gQ ss.length ps=none):mH ss (.sq [.sc u,.sq ps])=none:=by
 cases e:mH ss (.sq [.sc u,.sq ps]) with
 | none=>rfl
 | some l =>
  have z:(mH ss (.sq [.sc u,.sq ps])).isSome=true:=by rw [e];rfl
  rw [xU] at z
  simp only [Bool.and_eq_true] at z
  have z3:=z.2.2
  rw [← wY,h] at z3
  cases z3
theorem dm {α:Type} {o:Option α} (h:o.isSome=false):o=none:=by cases o <;> first | rfl | cases h
theorem Iw {ss:List Sm} {ws:List (Int×Nat)} {w:Int×Nat} {s:Sm} {t NB KU:Ps} (e:ss.getD w.2 s0=s) (g:mK (jv ss ws) t) (g5:mK (s.1.map fun p=>(p.1,p.2*w.1)) NB) (g6:mK (t++NB) KU):mK (jv ss (ws++[w])) KU:=by
 refine ⟨g6.1,fun f=>?_⟩
 rw [g6.2,eK,g.2,g5.2,qw,eK,e,vZ,lO,Int.mul_comm]
theorem OJ {ss:List Sm} {o:Ov} {t:Sm×Ov×Ov} (h:nY o=some t):mH ss o=none:=by
 obtain ⟨s,x,y⟩:=t
 obtain ⟨h',rfl,_⟩:=lE h
 exact rO (by simp) (by simp)
theorem Pp {ss:List Sm} {o:Ov} {l:Ln} (h:mH ss o=some l):nY o=none:=by
 cases e:nY o with
 | none=>rfl
 | some t=>rw [OJ e] at h;cases h
theorem Gr {xs:List Str} {s:Sm} {t0 ts:Ps} (g:Gm xs s) (g0:mK [] t0) (h:mK (t0++s.1.map fun p=>(p.1,-p.2)) ts):ts=(tR s).1∧-1 - s.2=(tR s).2:=by
 have e:t0=[]:=Canon.same g0.1 Canon.nil g0.2
 subst e
 refine ⟨Canon.same h.1 (ya g).1 fun f=>?_,?_⟩
 ·rw [h.2];rfl
 ·show -1 - s.2=-s.2 - 1
  omega
end Hw
namespace L2
open PySem PySem.Spec PyProof.Rows
def VB:V→Option Int→Option Int→Hp→VK→Prop:=fun x lo hi H Q=>∃ a xs,x=.ref a∧vz H a xs∧¬ (HT.gC xs.length 0 lo=0∧HT.gC xs.length xs.length hi=xs.length)∧∀ p o,H p=none→(o=.lst (kK xs lo hi)∨o=.tup (kK xs lo hi))→Q (.ref p) (upd H p o)
theorem Cr {X:Cx}:Ux X VB:=by
 intro pins s σ H x v vl vu lo hi sl Q I rx hs pl pu h
 obtain ⟨a,xs,rfl,hx,nw,q⟩:=h
 rcases hx with hx | hx
 ·exact gG pins s σ H _ v vl vu lo hi sl Q I rx hs pl pu ⟨a,xs,rfl,bz.of hx,fun p hp=>q p _ hp (.inl rfl)⟩
 ·exact AD pins s σ H _ v vl vu lo hi sl Q I rx hs pl pu ⟨a,xs,rfl,cR.of hx,nw,fun p hp=>q p _ hp (.inr rfl)⟩
theorem uC (xs:List V) (k:Nat):kK xs none (some (k:Int))=xs.take k:=by
 unfold kK
 rw [HT.tL,HT.rH,List.drop_zero,Nat.sub_zero]
 rw [List.take_eq_take_iff]
 omega
theorem oX (xs:List V) (k:Nat):kK xs (some (k:Int)) none=xs.drop k:=by
 unfold kK
 rw [HT.tL,HT.rH]
 by_cases h:k≤xs.length
 ·rw [Nat.min_eq_left h,List.take_of_length_le (by rw [List.length_drop];omega)]
 ·rw [Nat.min_eq_right (by omega),List.drop_of_length_le (by omega),List.drop_of_length_le (by omega)]
  simp
theorem Ac {xs:List V} {k:Nat} (h:k < xs.length):¬ (HT.gC xs.length 0 none=0∧HT.gC xs.length xs.length (some (k:Int))=xs.length):=by
 rw [HT.rH]
 omega
theorem BD {xs:List V} {k:Nat} (h:k < xs.length):¬ (HT.gC xs.length 0 (some ((k+1:Nat):Int))=0∧HT.gC xs.length xs.length none=xs.length):=by
 rw [HT.rH]
 omega
end L2
namespace Hw
open PySem L2
mutual
def iO (C:Addr) (H:Hp):V→Ov→Prop
 | v,.sc u=>v=u∧gj u=true
 | v,.sm s=>Oa C H v s
 | v,.sq xs=>∃ a us,v=.ref a∧H a=some (.tup us)∧jr C H us xs
def jr (C:Addr) (H:Hp):List V→List Ov→Prop
 | [],[]=>True
 | u::us,x::xs=>iO C H u x∧jr C H us xs
 | _::_,[]=>False
 | [],_::_=>False
end
theorem ku {C:Addr} {H:Hp}:∀ {us:List V} {xs:List Ov},jr C H us xs↔Paired (iO C H) us xs
 | [],[]=>by unfold jr;exact ⟨fun _=>.nil,fun _=>trivial⟩
 | u::us,x::xs=>by
  unfold jr
  refine ⟨fun h=>.cons h.1 (ku.mp h.2),fun h=>?_⟩
  cases h with
  | cons a b=>exact ⟨a,ku.mpr b⟩
 | _::_,[]=>by unfold jr;exact ⟨fun h=>h.elim,fun h=>by cases h⟩
 | [],_::_=>by unfold jr;exact ⟨fun h=>h.elim,fun h=>by cases h⟩
mutual
theorem iO.aN {C:Addr} {H H':Hp} (s:aQ H H'):∀ {v:V} {o:Ov},iO C H v o→iO C H' v o
 | v,.sc u,h=>by unfold iO at h ⊢;exact h
 | v,.sm t,h=>by unfold iO at h ⊢;exact h.aN s
 | v,.sq xs,h=>by
  unfold iO at h ⊢
  obtain ⟨a,us,e,q,r⟩:=h
  exact ⟨a,us,e,s.t _ _ q,jr.aN s r⟩
theorem jr.aN {C:Addr} {H H':Hp} (s:aQ H H'):∀ {us:List V} {xs:List Ov},jr C H us xs→jr C H' us xs
 | [],[],h=>by unfold jr;trivial
 | u::us,x::xs,h=>by
  unfold jr at h ⊢
  exact ⟨iO.aN s h.1,jr.aN s h.2⟩
 | _::_,[],h=>by unfold jr at h;exact h.elim
 | [],_::_,h=>by unfold jr at h;exact h.elim
end
mutual
theorem iO.ov {C:Addr} {H:Hp}:∀ {v:V} {o:Ov},iO C H v o→bW C H v o
 | v,.sc u,h=>by unfold iO at h;unfold bW;exact h
 | v,.sm t,h=>by unfold iO at h;unfold bW;exact h
 | v,.sq xs,h=>by
  unfold iO at h
  unfold bW
  obtain ⟨a,us,e,q,r⟩:=h
  exact ⟨a,us,e,.inr q,jr.ov r⟩
theorem jr.ov {C:Addr} {H:Hp}:∀ {us:List V} {xs:List Ov},jr C H us xs→gM C H us xs
 | [],[],h=>by unfold gM;trivial
 | u::us,x::xs,h=>by
  unfold jr at h
  unfold gM
  exact ⟨iO.ov h.1,jr.ov h.2⟩
 | _::_,[],h=>by unfold jr at h;exact h.elim
 | [],_::_,h=>by unfold jr at h;exact h.elim
end
theorem fm {C:Addr} {H:Hp} {v:V} {ys:List Ov} (h:iO C H v (.sq ys)):∃ a us,v=.ref a∧H a=some (.tup us)∧Paired (iO C H) us ys:=by
 unfold iO at h
 obtain ⟨a,us,e,q,r⟩:=h
 exact ⟨a,us,e,q,ku.mp r⟩
theorem gB {C:Addr} {H:Hp} {a:Addr} {us:List V} {ys:List Ov} (q:H a=some (.tup us)) (r:Paired (iO C H) us ys):iO C H (.ref a) (.sq ys):=by
 unfold iO
 exact ⟨a,us,rfl,q,ku.mpr r⟩
theorem iV {C:Addr} {H:Hp} {v:V} (h:gj v=true):iO C H v (.sc v):=by unfold iO;exact ⟨rfl,h⟩
theorem wZ {C:Addr} {H:Hp} {v u:V} (h:iO C H v (.sc u)):v=u∧gj u=true:=by unfold iO at h;exact h
theorem Fz {C:Addr} {H:Hp} {p:Addr} {s:Sm} (h:cJ C H p s.1 s.2):iO C H (.ref p) (.sm s):=by unfold iO;exact ⟨p,rfl,h⟩
def vC (xs:List Str) (o:Ov):Prop:=∀ n,Jc xs n o
def uM (xs:List Str) (o:Ov):Prop:=rA xs o∧∀ s x y,nY o=some (s,x,y)→vC xs x∧vC xs y
theorem eU {xs:List Str} {ls:List Ov} (h9:ls.length≤9) (h:∀ l∈ls,uM xs l):vC xs (.sq ls):=fun n=>by
 cases n with
 | zero=>intro l e;cases e;exact ⟨h9,fun l hl=>(h l hl).1⟩
 | succ n=>intro l e;cases e;exact ⟨h9,fun l hl=>⟨(h l hl).1,fun s x y e=>⟨((h l hl).2 s x y e).1 n,((h l hl).2 s x y e).2 n⟩⟩⟩
theorem kH {xs:List Str} {u:V}:vC xs (.sc u):=fun n=>by cases n <;> (intro l e;cases e)
theorem Hr {xs:List Str} {u:Sm}:vC xs (.sm u):=fun n=>by cases n <;> (intro l e;cases e)
theorem ud {xs:List Str} {o:Ov} (h:∀ ls,o≠.sq ls) (nn:iM o):uM xs o:=by
 refine ⟨⟨fun a b e=>absurd e (h _),fun ls e=>absurd e (h _),fun s x y e=>?_,nn⟩,fun s x y e=>?_⟩ <;> (obtain ⟨h',e,_⟩:=lE e;exact absurd e (h _))
theorem xT {xs:List Str}:uM xs (.sq []):=⟨⟨(fun a b e=>by cases e),(fun ls e=>by cases e;exact ⟨Nat.zero_le _,fun a b e=>by cases e⟩),(fun s x y e=>by cases e),(by unfold iM;unfold mE;trivial)⟩,fun s x y e=>by cases e⟩
theorem gb {xs:List Str} {u:V} {r:List Ov} (hl:r.length≤50) (h2:∀ ys,r=[.sq ys]→ys.length≤10) (nb:mE (.sc u::r)) (sp:∀ s x y,r=[.sm s,x,y]→hdS (.sc u)=some ("split":Str)→Gm xs s∧jE 100 s∧vC xs x∧vC xs y):uM xs (.sq (.sc u::r)):=by
 have key:∀ s x y,nY (.sq (.sc u::r))=some (s,x,y)→Gm xs s∧jE 100 s∧vC xs x∧vC xs y:=fun s x y e=>by
  obtain ⟨h',e,z⟩:=lE e
  cases e
  exact sp s x y rfl z
 refine ⟨⟨fun h r' e=>by cases e;exact ⟨u,rfl⟩,fun ls e=>?_,fun s x y e=>⟨(key s x y e).1,(key s x y e).2.1⟩,by unfold iM;exact nb⟩,fun s x y e=>(key s x y e).2.2⟩
 cases e
 refine ⟨by rw [List.length_cons];omega,fun h ys e=>?_⟩
 cases e
 exact h2 ys rfl
def gf (w:Int×Nat):Ov:=.sq [.sc (.int w.1),.sc (.int w.2)]
def cy (ws:List (Int×Nat)):Ov:=.sq [.sc (.str "add"),.sq (ws.map gf)]
inductive Gl where
 | cut (k:Nat) (d:Int)
 | add (ws:List (Int×Nat))
 | split (s:Sm) (w1 w2:List (Int×Nat))
def mq:Gl→Ov
 | .cut k d=>.sq [.sc (.str "cut"),.sc (.int k),.sc (.int d)]
 | .add ws=>cy ws
 | .split s w1 w2=>.sq [.sc (.str "split"),.sm s,.sq [cy w1],.sq [cy w2]]
def pA (ws:List (Int×Nat)):Prop:=1≤ws.length∧ws.length≤5∧∀ w∈ws,1≤w.1∧w.1≤3∧w.2≤1000
def uO (xs:List Str):Gl→Prop
 | .cut k d=>k≤1000∧2≤d∧d≤5
 | .add ws=>pA ws
 | .split s w1 w2=>Gm xs s∧jE 100 s∧pA w1∧pA w2
theorem br {i:Int} (h:i.natAbs < 2 ^ 70):iM (.sc (.int i)):=by unfold iM;exact h
theorem dN {s:Str}:iM (.sc (.str s)):=by unfold iM;trivial
theorem aE {x:Ov} {xs:List Ov} (h:iM x) (t:mE xs):mE (x::xs):=by unfold mE;exact ⟨h,t⟩
theorem bQ:mE []:=by unfold mE;trivial
theorem cI {xs:List Ov} (h:mE xs):iM (.sq xs):=by unfold iM;exact h
theorem mP {s:Sm}:iM (.sm s):=by unfold iM;trivial
theorem CF {w:Int×Nat} (h:1≤w.1∧w.1≤3∧w.2≤1000):iM (gf w):=cI (aE (br (by omega)) (aE (br (by omega)) bQ))
theorem oG {ws:List (Int×Nat)} (h:pA ws):mE (ws.map gf):=p8 fun x hx=>by
 obtain ⟨w,hw,rfl⟩:=List.mem_map.mp hx
 exact CF (h.2.2 w hw)
theorem iR {xs:List Str} {ws:List (Int×Nat)} (h:pA ws):uM xs (cy ws):=by
 refine gb (by show 1≤50;decide) (fun ys e=>?_) (aE dN (aE (cI (oG h)) bQ)) (fun s x y e=>by cases e)
 cases e
 rw [List.length_map]
 have:=h.2.1
 omega
theorem jA {xs:List Str} {ws:List (Int×Nat)} (h:pA ws):vC xs (.sq [cy ws]):=eU (by show 1≤9;decide) fun l hl=>by rw [List.mem_singleton.mp hl];exact iR h
theorem GP {xs:List Str}:∀ {g:Gl},uO xs g→uM xs (mq g)
 | .cut k d,h=>gb (by show 2≤50;decide) (fun ys e=>by cases e) (aE dN (aE (br (by have:=h.1;omega)) (aE (br (by have:=h.2;omega)) bQ))) (fun s x y e=>by cases e)
 | .add ws,h=>iR h
 | .split s w1 w2,h=>gb (by show 3≤50;decide) (fun ys e=>by cases e) (aE dN (aE mP (aE (cI (aE (iR (xs:=xs) h.2.2.1).1.nn bQ)) (aE (cI (aE (iR (xs:=xs) h.2.2.2).1.nn bQ)) bQ)))) (fun s' x y e _=>by cases e;exact ⟨h.1,h.2.1,jA h.2.2.1,jA h.2.2.2⟩)
def yF (o:Ov):Prop:=iM o∧((∃ u,o=.sc u)∨o=.sq [])
theorem yF.gda {xs:List Str} {o:Ov} (h:yF o):vC xs o:=by
 rcases h.2 with ⟨u,rfl⟩ | rfl
 ·exact kH
 ·exact eU (Nat.zero_le _) fun l hl=>nomatch hl
theorem yF.le {o:Ov} {ys:List Ov} (h:yF o) (e:o=.sq ys):ys.length≤10:=by
 rcases h.2 with ⟨u,z⟩ | z
 ·rw [z] at e;cases e
 ·rw [z] at e;cases e;exact Nat.zero_le _
theorem yF.nsm {o:Ov} {s:Sm} (h:yF o) (e:o=.sm s):False:=by
 rcases h.2 with ⟨u,z⟩ | z <;> (rw [z] at e;cases e)
def lG:Nat→Ov
 | 0=>.sq [cy [(1,0)]]
 | n+1=>.sq [.sq [.sc (.str "split"),.sm ([],0),lG n,.sq []]]
def jC:Nat→Ov
 | 0=>.sq [cy [(1,0)]]
 | n+1=>.sq [.sq [.sc (.str "split"),.sm ([("?0",1)],(n:Int)),jC n,jC n]]
theorem Ny:pA [((1:Int),(0:Nat))]:=⟨by decide,by decide,fun w hw=>by rw [List.mem_singleton.mp hw];decide⟩
theorem GH:∀ n,iM (lG n)
 | 0=>cI (aE (iR (xs:=[]) Ny).1.nn bQ)
 | n+1=>cI (aE (cI (aE dN (aE mP (aE (GH n) (aE (cI bQ) bQ))))) bQ)
theorem rM:∀ n,iM (jC n)
 | 0=>cI (aE (iR (xs:=[]) Ny).1.nn bQ)
 | n+1=>cI (aE (cI (aE dN (aE mP (aE (rM n) (aE (rM n) bQ))))) bQ)
theorem zP {xs:List Str}:∀ n,vC xs (lG n)
 | 0=>jA Ny
 | n+1=>eU (by show 1≤9;decide) fun l hl=>by
  rw [List.mem_singleton.mp hl]
  refine gb (by show 3≤50;decide) (fun ys e=>by cases e) (aE dN (aE mP (aE (GH n) (aE (cI bQ) bQ)))) (fun s x y e _=>?_)
  cases e
  exact ⟨⟨Canon.nil,fun _ h=>nomatch h⟩,⟨by show 0 < 2 ^ 100;exact Nat.pow_pos (by decide),fun _ h=>nomatch h⟩,zP n,eU (Nat.zero_le _) fun l hl=>nomatch hl⟩
theorem Rz:Canon [(("?0":Str),(1:Int))]:=⟨.cons (fun _ h=>nomatch h) .nil,fun p hp=>by rw [List.mem_singleton.mp hp];show (1:Int)≠0;decide⟩
theorem uw {xs:List Str} (hx:("?0":Str)∈xs):∀ n,n≤10→vC xs (jC n)
 | 0,_=>jA Ny
 | n+1,hn=>eU (by show 1≤9;decide) fun l hl=>by
  rw [List.mem_singleton.mp hl]
  refine gb (by show 3≤50;decide) (fun ys e=>by cases e) (aE dN (aE mP (aE (rM n) (aE (rM n) bQ)))) (fun s x y e _=>?_)
  cases e
  have p:(10:Nat) < 2 ^ 100:=by decide
  refine ⟨⟨Rz,fun t h=>?_⟩,⟨by show (n:Int).natAbs < 2 ^ 100;omega,fun q h=>?_⟩,uw hx n (by omega),uw hx n (by omega)⟩
  ·rw [List.mem_singleton.mp h];exact hx
  ·rw [List.mem_singleton.mp h];show (1:Int).natAbs < 2 ^ 100;omega
theorem zY {k:List Sm→Sm→Ov→Ov→Bool} {ss:List Sm} (h0:ss[0]?=some ([],-1)):qp k ss [cy [(1,0)]]=true:=by
 have hl:0 < ss.length:=(List.getElem?_eq_some_iff.mp h0).1
 have e:mH ss (cy [(1,0)])=some (.add [(1,0)]):=by
  refine A8 (u:=.str "add") rfl (by simp) ?_
  have w:nP ss.length (gf (1,0))=some (1,0):=by
   show (if (1:Int)≤1∧0≤((0:Nat):Int)∧((0:Nat):Int) < (ss.length:Int) then some ((1:Int),((0:Nat):Int).toNat) else none)=_
   rw [if_pos ⟨by decide,by decide,by omega⟩]
   rfl
  show (match nP ss.length (gf (1,0)),gQ ss.length [] with | some w,some ws=>some (w::ws) | _,_=>none)=_
  rw [w]
  rfl
 have i:Is ss (.add [(1,0)]) ([],-1):=by
  have g:=fH h0
  refine ⟨?_,?_⟩
  ·show mK (jv ss [(1,0)]) []
   rw [jv,g]
   exact ⟨Canon.nil,fun f=>rfl⟩
  ·show (-1:Int)=kL ss [(1,0)]
   rw [kL,g]
   rfl
 rw [uy rfl e i,kJ,List.getLast?_append]
 rfl
theorem uu {ss:List Sm} {s t:Sm} (h:ss[0]?=some s):(ss++[t])[0]?=some s:=by
 have hl:=(List.getElem?_eq_some_iff.mp h).1
 rw [List.getElem?_append_left hl];exact h
theorem sS (s:Sm) (x y:Ov):nY (.sq [.sc (.str "split"),.sm s,x,y])=some (s,x,y):=by
 show (if hdS (.sc (.str "split"))=some ("split":Str) then some (s,x,y) else none)=_
 exact if_pos rfl
theorem C2:∀ (k m:Nat) (ss:List Sm),ss[0]?=some ([],-1)→kZ m ss (lG k)=decide (k≤m)
 | 0,m,ss,h=>by
  show kZ m ss (.sq [cy [(1,0)]])=_
  rw [ig,zY h]
  simp
 | k+1,m,ss,h=>by
  show kZ m ss (.sq [.sq [.sc (.str "split"),.sm ([],0),lG k,.sq []]])=_
  rw [ig,ir (s:=([],0)) (x:=lG k) (y:=.sq []) (sS _ _ _)]
  cases m with
  | zero=>simp [kF]
  | succ m =>
   show (true && (kZ m (ss++[([],0)]) (lG k) && kZ m (ss++[tR ([],0)]) (.sq [])))=_
   rw [C2 k m _ (uu h),ig,kJ,List.getLast?_append]
   show (true && (decide (k≤m) && true))=decide (k+1≤m+1)
   by_cases z:k≤m
   ·rw [decide_eq_true z,decide_eq_true (by omega)];rfl
   ·rw [decide_eq_false z,decide_eq_false (by omega)];rfl
theorem yf:∀ (k m:Nat) (ss:List Sm),k≤m→ss[0]?=some ([],-1)→kZ m ss (jC k)=true
 | 0,m,ss,_,h=>by
  show kZ m ss (.sq [cy [(1,0)]])=_
  rw [ig,zY h]
 | k+1,m,ss,hm,h=>by
  show kZ m ss (.sq [.sq [.sc (.str "split"),.sm ([("?0",1)],(k:Int)),jC k,jC k]])=_
  rw [ig,ir (s:=([("?0",1)],(k:Int))) (x:=jC k) (y:=jC k) (sS _ _ _)]
  cases m with
  | zero=>omega
  | succ m =>
   show (true && (kZ m (ss++[((([("?0",1)],(k:Int)):Sm))]) (jC k) && kZ m (ss++[tR (([("?0",1)],(k:Int)):Sm)]) (jC k)))=_
   rw [yf k m _ (by omega) (uu h),yf k m _ (by omega) (uu h)]
   rfl
def Az (C:Addr):Sp:=fun vs H Q _=>∃ n:Nat,vs=[.int (n:Int)]∧n≤30∧∀ (v:V) (H':Hp),aP H H'→iO C H' v (lG n)→Q v H'
def AB (C:Addr):Sp:=fun vs H Q _=>∃ n:Nat,vs=[.int (n:Int)]∧n≤10∧∀ (v:V) (H':Hp),aP H H'→iO C H' v (jC n)→Q v H'
def sW:Sp:=fun vs H Q _=>∃ (a:Addr) (us:List V) (k:Nat) (v:V),vs=[.ref a,.int (k:Int),v]∧vz H a us∧k < us.length∧us.length≤1000∧∀ (r:Addr) (H':Hp),aP H H'→H r=none→H' r=some (.lst (us.take k++[v]++us.drop (k+1)))→Q (.ref r) H'
def FN (C:Addr):Sp:=fun vs H Q _=>∃ (d:Addr) (m:Int),vs=[.ref d,.int m]∧Dr H d∧m.natAbs < 2 ^ 60∧∀ (v:V) (o:Ov) (H':Hp),cA d H H'→Dr H' d→bW C H' v o→yF o→Q v H'
def sX (C:Addr):Sp:=fun vs H Q _=>∃ (xs:List Str) (v:V) (g:Gl) (d:Addr) (m:Int),vs=[v,.ref d,.int m]∧iO C H v (mq g)∧uO xs g∧Dr H d∧m.natAbs < 2 ^ 60∧∀ (v':V) (o:Ov) (H':Hp),cA d H H'→Dr H' d→bW C H' v' o→uM xs o→Q v' H'
end Hw
namespace Hw
open PySem L2
theorem cQ {α β:Type} {R:α→β→Prop}:∀ {us:List α} {ys:List β},Paired R us ys→∀ p,Paired R (us.take p) (ys.take p)
 | _,_,_,0=>by rw [List.take_zero,List.take_zero];exact .nil
 | _,_,.nil,_+1=>.nil
 | _,_,.cons a t,p+1=>.cons a (cQ t p)
theorem iH {α β:Type} {R:α→β→Prop}:∀ {us:List α} {ys:List β},Paired R us ys→∀ p,Paired R (us.drop p) (ys.drop p)
 | _,_,h,0=>by rw [List.drop_zero,List.drop_zero];exact h
 | _,_,.nil,_+1=>.nil
 | _,_,.cons a t,p+1=>iH t p
theorem ff {α β:Type} {R:α→β→Prop} {us:List α} {ys:List β} {v:α} {o:β} (h:Paired R us ys) (r:R v o) (p:Nat):Paired R (us.take p++[v]++us.drop (p+1)) (ys.take p++[o]++ys.drop (p+1)) :=
 cu (cu (cQ h p) (.cons r .nil)) (iH h (p+1))
def we:Gl→List Ov
 | .cut k d=>[.sc (.int k),.sc (.int d)]
 | .add ws=>[.sq (ws.map gf)]
 | .split s w1 w2=>[.sm s,.sq [cy w1],.sq [cy w2]]
def vF:Gl→Str
 | .cut ..=>"cut"
 | .add ..=>"add"
 | .split ..=>"split"
theorem zO:∀ g,mq g=.sq (.sc (.str (vF g))::we g)
 | .cut ..=>rfl
 | .add ..=>rfl
 | .split ..=>rfl
theorem Bg:∀ g,1≤(we g).length∧(we g).length≤3
 | .cut ..=>⟨by show 1≤2;decide,by show 2≤3;decide⟩
 | .add ..=>⟨by show 1≤1;decide,by show 1≤3;decide⟩
 | .split ..=>⟨by show 1≤3;decide,by show 3≤3;decide⟩
theorem GG {xs:List Str} {g:Gl} (h:uO xs g):mE (we g):=by
 have:=(GP h).1.nn
 rw [zO] at this
 have:=oF this
 unfold mE at this
 exact this.2
theorem jy:∀ {a b:List Ov},mE a→mE b→mE (a++b)
 | [],_,_,h=>h
 | x::r,b,h,hb=>by
  unfold mE at h
  exact aE h.1 (jy h.2 hb)
theorem GN {xs:List Str} {g:Gl} {o:Ov} (h:uO xs g) (od:yF o):uM xs (.sq (.sc (.str (vF g))::(we g++[o]))):=by
 have l:=Bg g
 refine gb (by rw [List.length_append];show _+1≤50;omega) (fun ys e=>?_) (aE dN (jy (GG h) (aE od.1 bQ))) (fun s x y e z=>?_)
 ·have:=congrArg List.length e
  rw [List.length_append] at this
  have:(we g).length+1=1:=this
  omega
 ·cases g with
  | cut k d=>cases e
  | add ws=>cases e
  | split s' w1 w2 =>
   have:=congrArg List.length e
   simp [we] at this
theorem GO {xs:List Str} {g:Gl} {u:V} (h:uO xs g) (nb:iM (.sc u)):uM xs (.sq (.sc u::we g)):=by
 have l:=Bg g
 refine gb (by omega) (fun ys e=>?_) (aE nb (GG h)) (fun s x y e z=>?_)
 ·cases g with
  | cut k d=>cases e
  | add ws =>
   cases e
   rw [List.length_map]
   have:pA ws:=h
   have:=this.2.1
   omega
  | split s' w1 w2=>cases e
 ·cases g with
  | cut k d=>cases e
  | add ws=>cases e
  | split s' w1 w2 =>
   cases e
   exact ⟨h.1,h.2.1,jA h.2.2.1,jA h.2.2.2⟩
theorem rN {xs:List Str} {g:Gl} {o:Ov} {r:Nat} (h:uO xs g) (hr:r < (we g).length) (od:iM o) (o1:r=0→∀ ys,o=.sq ys→ys.length≤10) (o2:r=0→∀ s,o≠.sm s) (o3:vC xs o):uM xs (.sq ((.sc (.str (vF g))::we g).take (1+r)++[o]++(.sc (.str (vF g))::we g).drop (1+r+1))):=by
 have Pg:=GG h
 cases g with
 | cut k d =>
  have Pg:mE [.sc (.int k),.sc (.int d)]:=Pg
  unfold mE at Pg
  match r,hr with
  | 0,_=>exact gb (r:=[o,.sc (.int d)]) (by show 2≤50;decide) (fun ys e=>by cases e) (aE dN (aE od Pg.2)) (fun s x y e=>by cases e)
  | 1,_=>exact gb (r:=[.sc (.int k),o]) (by show 2≤50;decide) (fun ys e=>by cases e) (aE dN (aE Pg.1 (aE od bQ))) (fun s x y e=>by cases e)
  | n+2,hn=>exact absurd hn (by show ¬ n+2 < 2;omega)
 | add ws =>
  match r,hr with
  | 0,_=>exact gb (r:=[o]) (by show 1≤50;decide) (fun ys e=>by cases e;exact o1 rfl ys rfl) (aE dN (aE od bQ)) (fun s x y e=>by cases e)
  | n+1,hn=>exact absurd hn (by show ¬ n+1 < 1;omega)
 | split s' w1 w2 =>
  have n1:iM (.sq [cy w1]):=cI (aE (iR (xs:=xs) h.2.2.1).1.nn bQ)
  have n2:iM (.sq [cy w2]):=cI (aE (iR (xs:=xs) h.2.2.2).1.nn bQ)
  match r,hr with
  | 0,_=>exact gb (r:=[o,.sq [cy w1],.sq [cy w2]]) (by show 3≤50;decide) (fun ys e=>by cases e) (aE dN (aE od (aE n1 (aE n2 bQ)))) (fun s x y e _=>by cases e;exact absurd rfl (o2 rfl s))
  | 1,_=>exact gb (r:=[.sm s',o,.sq [cy w2]]) (by show 3≤50;decide) (fun ys e=>by cases e) (aE dN (aE mP (aE od (aE n2 bQ)))) (fun s x y e _=>by cases e;exact ⟨h.1,h.2.1,o3,jA h.2.2.2⟩)
  | 2,_=>exact gb (r:=[.sm s',.sq [cy w1],o]) (by show 3≤50;decide) (fun ys e=>by cases e) (aE dN (aE mP (aE n1 (aE od bQ)))) (fun s x y e _=>by cases e;exact ⟨h.1,h.2.1,jA h.2.2.1,o3⟩)
  | n+3,hn=>exact absurd hn (by show ¬ n+3 < 3;omega)
theorem qe {xs:List Str} {qs:List Ov} (hl:qs.length≤10) (nb:mE qs):uM xs (.sq [.sc (.str "add"),.sq qs]):=gb (by show 1≤50;decide) (fun ys e=>by cases e;exact hl) (aE dN (aE (cI nb) bQ)) (fun s x y e=>by cases e)
theorem zx {xs:List Ov} (h:mE xs) (k:Nat):mE (xs.take k):=p8 fun x hx=>jh h (List.mem_of_mem_take hx)
theorem zy {xs:List Ov} (h:mE xs) (k:Nat):mE (xs.drop k):=p8 fun x hx=>jh h (List.mem_of_mem_drop hx)
theorem uD {α:Type} (xs:List V) (h:0 < xs.length):kK xs none (some (-1))=xs.take (xs.length - 1):=by
 unfold kK
 have e:HT.gC xs.length xs.length (some (-1))=xs.length - 1:=by
  show (if (-1:Int) < 0 then ((-1:Int)+(xs.length:Int)).toNat else min (-1:Int).toNat xs.length)=_
  rw [if_pos (by decide)]
  omega
 rw [HT.tL,e,List.drop_zero,Nat.sub_zero]
theorem Hj {xs:List Str} {gs:List Gl} (h:∀ g∈gs,uO xs g):∀ l∈gs.map mq,uM xs l:=fun l hl=>by
 obtain ⟨g,hg,rfl⟩:=List.mem_map.mp hl
 exact GP (h g hg)
theorem GF {xs:List Str} {ls:List Ov} (h:∀ l∈ls,uM xs l):iM (.sq ls):=cI (p8 fun l hl=>(h l hl).1.nn)
def P7 (gs:List Gl):Prop:=∃ s w1 w2,Gl.split s w1 w2∈gs
def jR (C:Addr) (n:Nat):Sp:=fun vs H Q _=>∃ (xs:List Str) (l:Addr) (us:List V) (gs:List Gl) (d:Addr) (m:Int),vs=[.ref l,.ref d,.int m]∧1≤n∧(P7 gs→2≤n)∧H l=some (.lst us)∧l≠d∧Paired (iO C H) us (gs.map mq)∧(∀ g∈gs,uO xs g)∧gs.length≤4∧Dr H d∧m.natAbs+n≤1000 ∧
 ∀ (v:V) (o:Ov) (H':Hp),cA d H H'→Dr H' d→bW C H' v o→vC xs o→iM o→Q v H'
theorem Jt {C:Addr}:∀ vs H Q E,¬ jR C 0 vs H Q E:=fun _ _ _ _ ⟨_,_,_,_,_,_,_,h,_⟩=>absurd h (by omega)
def mZ (C:Addr):Sp:=fun vs H Q _=>∃ (xs:List Str) (v:V) (ws:List (Int×Nat)) (d:Addr) (m:Int),vs=[v,.ref d,.int m]∧iO C H v (cy ws)∧pA ws∧Dr H d∧m.natAbs≤2000∧∀ (v':V) (o:Ov) (H':Hp),cA d H H'→Dr H' d→bW C H' v' o→uM xs o→Q v' H'
structure Nq (xs:List Str) (n:Nat) (gs:List Gl):Prop where
 ok:∀ g∈gs,uO xs g
 le:gs.length≤4
 ne:gs≠[]
 fst:∀ k d,gs[0]?=some (.cut k d)→k < n
 lst:∀ k d,gs.getLast?≠some (.cut k d)
def xm (C:Addr):Sp:=fun vs H Q _=>∃ (xs:List Str) (c l d:Addr) (cs:List V) (ss:List Sm) (us:List V) (gs:List Gl),vs=[.ref c,.ref l,.ref d]∧H c=some (.lst cs)∧c≠d∧vA C H cs ss∧ss.length≤100∧xs.length≤6∧("?0":Str)∈xs∧(∀ s∈ss,Gm xs s∧jE 100 s)∧H l=some (.lst us)∧l≠d∧Paired (iO C H) us (gs.map mq)∧Nq xs ss.length gs∧Dr H d ∧
 ∀ (t c':Addr) (v:V) (cs':List V) (ss':List Sm) (o:Ov) (H':Hp),cA d H H'→Dr H' d→H' t=some (.tup [.ref c',v])→H' c'=some (.lst cs')→vA C H' cs' ss'→ss'.length=ss.length→(∀ s∈ss',Gm xs s∧jE 110 s)→bW C H' v o→vC xs o→Q (.ref t) H'
end Hw
namespace Hw
open PySem L2
def EI (H0:Hp) (d:Addr) (H:Hp):List V→List (Int×Nat)→Prop:=Paired fun v w=>∃ a,v=V.ref a∧H a=some (.lst [.int w.1,.int w.2])∧a≠d∧H0 a=none
theorem EI.but {d:Addr} {H0 H H':Hp} {ys:List V} {ws:List (Int×Nat)} (h:EI H0 d H ys ws) (b:cA d H H'):EI H0 d H' ys ws:=L2.Paired.dX h fun _ _ ⟨a,e,q,n,m⟩=>⟨a,e,b _ _ q n,n,m⟩
theorem EI.same {d:Addr} {H0 H H':Hp} {ys:List V} {ws:List (Int×Nat)} (h:EI H0 d H ys ws) (b:aP H H'):EI H0 d H' ys ws:=L2.Paired.dX h fun _ _ ⟨a,e,q,n,m⟩=>⟨a,e,b _ _ q,n,m⟩
theorem Gf {C a:Addr} {H:Hp} {w:Int×Nat} (e:H a=some (.lst [.int w.1,.int w.2])):bW C H (.ref a) (gf w):=cD (.inl e) (.cons (cz rfl) (.cons (cz rfl) .nil))
theorem EI.ov {C d:Addr} {H0 H:Hp}:∀ {ys:List V} {ws:List (Int×Nat)},EI H0 d H ys ws→Paired (bW C H) ys (ws.map gf)
 | _,_,.nil=>.nil
 | _,_,.cons ⟨a,e,q,_⟩ t=>.cons (by rw [e];exact Gf q) (EI.ov t)
theorem pX {C d a:Addr} {H0 H:Hp} {o:HO}:∀ {ys:List V} {ws:List (Int×Nat)},EI H0 d H ys ws→V.ref a ∉ ys→Paired (bW C (upd H a o)) ys (ws.map gf)
 | _,_,.nil,_=>.nil
 | _,_,.cons ⟨b,e,q,_⟩ t,h=>by
  subst e
  refine .cons (Gf ?_) (pX t fun z=>h (List.mem_cons_of_mem _ z))
  rw [aL (fun z=>h (by rw [z];exact List.mem_cons_self ..))]
  exact q
theorem Cw {C d a:Addr} {H0 H:Hp} {x y:V} (fx:gj x=true) (fy:gj y=true):∀ {ys:List V} {ws:List (Int×Nat)} {i:Nat},EI H0 d H ys ws→ys.Nodup→ys[i]?=some (.ref a)→Paired (bW C (upd H a (.lst [x,y]))) ys ((ws.map gf).set i (.sq [.sc x,.sc y]))
 | _,_,i,.nil,_,h=>by cases h
 | _,_,0,.cons ⟨b,e,q,_⟩ t,nd,h=>by
  cases h
  exact .cons (cD (.inl ah) (.cons (cz fx) (.cons (cz fy) .nil))) (pX t (List.nodup_cons.mp nd).1)
 | _,_,i+1,.cons (l₁:=l1) ⟨b,e,q,_⟩ t,nd,h=>by
  have h:l1[i]?=some (.ref a):=by simpa using h
  subst e
  refine .cons (Gf ?_) (Cw fx fy t (List.nodup_cons.mp nd).2 h)
  rw [aL (fun z=>(List.nodup_cons.mp nd).1 (by rw [z];exact List.mem_of_getElem? h))]
  exact q
theorem JT {qs:List Ov} {i:Nat} {o:Ov} (h:mE qs) (ho:iM o):mE (qs.set i o):=p8 fun x hx=>by
 rcases List.mem_or_eq_of_mem_set hx with z | z
 ·exact jh h z
 ·rw [z];exact ho
end Hw
namespace Hw
open PySem L2
theorem JD {s:Sm} {w:Int} {ts t6:Ps} (h:jE 100 s) (l6:s.1.length≤6) (hw:w.natAbs≤10) (g:mK [("?0",w)] ts) (g6:mK (s.1++ts) t6):jE 110 (t6,s.2+0):=by
 have p:(2:Nat) ^ 110=2 ^ 100*1024:=by rw [show (1024:Nat)=2 ^ 10 from rfl,← Nat.pow_add]
 have p0:(10:Nat)≤2 ^ 100:=by decide
 refine ⟨?_,fun q hq=>?_⟩
 ·show (s.2+0).natAbs < 2 ^ 110
  have:=h.1
  rw [p];omega
 ·have gt:∀ q∈ts,q.2.natAbs≤1*10:=yc g fun q hq=>by rw [List.mem_singleton.mp hq];exact hw
  have lt:ts.length≤1:=by
   have hk:∀ t∈keys ts,t∈keys [(("?0":Str),w)]:=fun t ht=>g.keys ht
   have:=tW (oZ g.1) hk
   unfold keys at this
   rw [List.length_map] at this
   exact this
  have:=yc (M:=2 ^ 100) g6 (fun q hq=>by
   rcases List.mem_append.mp hq with z | z
   ·exact Nat.le_of_lt (h.2 q z)
   ·have:=gt q z;omega) q hq
  rw [List.length_append] at this
  have h2:(s.1.length+ts.length)*2 ^ 100≤7*2 ^ 100:=Nat.mul_le_mul_right _ (by omega)
  rw [p]
  have p1:0 < 2 ^ 100:=Nat.pow_pos (by decide)
  show q.2.natAbs < _
  omega
end Hw
namespace Hw
open PySem L2
theorem yh {xs:List Str} {ds:List Dw} {Es:List Ed} {SS ss' ex:List Sm} {M j:Nat} {gn:List Nat} {e:Ed} {more:Sm} {uU:List (Int×Nat)} (d3:ds.length≤3) (hp:RJ xs ds SS ds.length M gn ss') (hS:SS=ds.map oH++Es.map (·.1)) (hg:∀ s∈SS,Gm xs s)
  (ee:Es[j]?=some e) (ok:IJ xs ds more e) (hpl:gn.length=ds.length) (hex:(ex=[]∧uU=[]∧∀ f,ev more f=0)∨∃ m,ex=[m]∧uU=[(1,SS.length+M)]∧Gm xs m∧∀ f,ev more f=ev m f) :
  ∃ c:Int,c < 0∧(∀ f,Bs (ss'++ex) f (iN e.2 gn++[(1,ds.length+j)]++uU)=c)∧Rt (ss'++ex) (.add (iN e.2 gn++[(1,ds.length+j)]++uU)):=by
 obtain ⟨ad,e1,al,ag,pj⟩:=hp
 obtain ⟨ge,⟨wl,wb⟩,c,hc,hev⟩:=ok
 have hlen:ss'.length=SS.length+M:=by rw [e1,List.length_append,al]
 have QK:ss'[ds.length+j]?=some e.1:=by
  rw [e1,hS,List.append_assoc,List.getElem?_append_right (by rw [List.length_map];omega),List.length_map,show ds.length+j - ds.length=j by omega]
  refine fP ?_
  rw [List.getElem?_map,ee];rfl
 have ZM:uU.length≤1∧∀ p∈uU,p=(1,ss'.length)∧ex.length=1:=by
  rcases hex with ⟨_,b,_⟩ | ⟨m,a,b,_⟩
  ·rw [b];exact ⟨Nat.zero_le _,fun _ h=>nomatch h⟩
  ·rw [a,b];exact ⟨Nat.le_refl _,fun p hp=>by rw [List.mem_singleton.mp hp,hlen];exact ⟨rfl,rfl⟩⟩
 refine ⟨c,hc,fun f=>?_,fun z=>?_,?_,fun p hp=>?_⟩
 ·rw [yg,yg,Cb f (ss'++ex) wl fun j x hx=>?_]
  ·have e2:Bs (ss'++ex) f [(1,ds.length+j)]=ev e.1 f:=by
    show 1*ev ((ss'++ex).getD (ds.length+j) s0) f+0=_
    rw [fH (fP QK)];omega
   have e3:Bs (ss'++ex) f uU=ev more f:=by
    rcases hex with ⟨a,b,z⟩ | ⟨m,a,b,_,z⟩
    ·rw [b,z];rfl
    ·rw [a,b,z]
     show 1*ev ((ss'++[m]).getD (SS.length+M) s0) f+0=_
     rw [fH (s:=m) (by rw [List.getElem?_append_right (by omega),← hlen];simp)];omega
   rw [e2,e3,hev];omega
  ·obtain ⟨k,a,b⟩:=pj j x (List.getElem?_eq_some_iff.mp hx).1 hx
   exact ⟨k,a,fP b⟩
 ·have:=congrArg List.length z
  rw [List.length_append,List.length_append] at this
  simp at this
 ·rw [List.length_append,List.length_append,nR (by omega)]
  show e.2.length+1+uU.length≤6
  omega
 ·rcases List.mem_append.mp hp with h | h
  ·rcases List.mem_append.mp h with h | h
   ·obtain ⟨h1,h2⟩:=rV h
    obtain ⟨w1,w3⟩:=wb _ h1
    refine ⟨w1,by omega,?_⟩
    obtain ⟨i,hi⟩:=List.getElem?_of_mem h2
    have il:i < ds.length:=by rw [← hpl];exact (List.getElem?_eq_some_iff.mp hi).1
    obtain ⟨k,a,b⟩:=pj i _ il (List.getElem?_eq_getElem il)
    rw [hi] at a
    cases a
    have:=(List.getElem?_eq_some_iff.mp b).1
    rw [List.length_append];omega
   ·rw [List.mem_singleton.mp h]
    refine ⟨by show (1:Int)≤1;decide,by show (1:Int)≤1000;decide,?_⟩
    have:=(List.getElem?_eq_some_iff.mp QK).1
    rw [List.length_append];show ds.length+j < _;omega
  ·obtain ⟨a,b⟩:=ZM.2 p h
   rw [a]
   refine ⟨by show (1:Int)≤1;decide,by show (1:Int)≤1000;decide,?_⟩
   rw [List.length_append];show ss'.length < _;omega
theorem HX {s:Sm} {b:Nat} (h:jE b s) (l:s.1.length≤6) {f:Str→Int} (hf:∀ x,f x=0∨f x=1):(ev s f).natAbs≤7*2 ^ b:=by
 have h1:=A9 (M:=2 ^ b) hf (ps:=s.1) fun p hp=>Nat.le_of_lt (h.2 p hp)
 have h2:s.1.length*2 ^ b≤6*2 ^ b:=Nat.mul_le_mul_right _ l
 have h3:=h.1
 have:=Int.natAbs_add_le s.2 (eO s.1 f)
 show (s.2+eO s.1 f).natAbs≤_
 omega
theorem ue:∀ a:Ps,eO a (fun _=>0)=0
 | []=>rfl
 | p::r=>by rw [eO,ue r];simp
theorem Dp {t:Sm} {b:Nat} (hc:Canon t.1) (h:∀ f:Str→Int,(∀ x,f x=0∨f x=1)→(ev t f).natAbs < 2 ^ b):jE (b+1) t:=by
 have e:2 ^ (b+1)=2 ^ b+2 ^ b:=by rw [Nat.pow_succ];omega
 have h0:=h (fun _=>0) fun _=>.inl rfl
 have h0:(t.2+eO t.1 (fun _=>0)).natAbs < 2 ^ b:=h0
 rw [ue] at h0
 refine ⟨by omega,fun p hp=>?_⟩
 have h1:=h (fun x=>if x=p.1 then 1 else 0) fun x=>by
  by_cases z:x=p.1
  ·exact .inr (if_pos z)
  ·exact .inl (if_neg z)
 have h1:(t.2+eO t.1 (fun x=>if x=p.1 then 1 else 0)).natAbs < 2 ^ b:=h1
 rw [xV (oZ hc) hp] at h1
 omega
theorem Ce {f:Str→Int} {M:Nat}:∀ {ws:List Int} {ds:List Dw},(∀ w∈ws,1≤w∧w≤3)→(∀ x∈ds,(ev x.1 f).natAbs≤M)→(wsum f ws ds).natAbs≤3*M*ws.length
 | [],_,_,_=>by unfold wsum;exact Nat.zero_le _
 | _::_,[],_,_=>by unfold wsum;exact Nat.zero_le _
 | w::ws,x::ds,hw,hd=>by
  have ih:=Ce (ws:=ws) (ds:=ds) (fun w h=>hw w (List.mem_cons_of_mem _ h)) fun x h=>hd x (List.mem_cons_of_mem _ h)
  have h1:=hw w (List.mem_cons_self ..)
  have h2:=hd x (List.mem_cons_self ..)
  have h3:(w*ev x.1 f).natAbs≤3*M:=by rw [Int.natAbs_mul];exact Nat.mul_le_mul (by omega) h2
  have:=Int.natAbs_add_le (w*ev x.1 f) (wsum f ws ds)
  show (w*ev x.1 f+wsum f ws ds).natAbs≤3*M*(ws.length+1)
  rw [Nat.mul_add]
  omega
def EdB (xs:List Str) (ds:List Dw) (more:Sm) (e:Ed):Prop:=IJ xs ds more e∧∃ c:Int,-4 < c∧c < 0∧∀ f,ev e.1 f=c - ev more f - wsum f e.2 ds
theorem M9 {xs:List Str} {ds:List Dw} {more:Sm} {e:Ed} (h:EdB xs ds more e) (hx:xs.length≤3) (d3:ds.length≤3) (Bw:∀ x∈ds,Am xs x) (db:∀ x∈ds,jE 20 x.1) (hm:∀ f:Str→Int,(∀ x,f x=0∨f x=1)→(ev more f).natAbs≤8*2 ^ 20):jE 100 e.1:=by
 obtain ⟨⟨g,⟨wl,wb⟩,_⟩,c,c4,c0,hev⟩:=h
 refine (Dp (b:=40) g.1 fun f hf=>?_).mono (by decide)
 have h1:=Ce (f:=f) (M:=7*2 ^ 20) (ds:=ds) wb fun x hx'=>HX (db x hx') ((Bw x hx').1.len (by omega)) hf
 have h2:=hm f hf
 rw [hev]
 have e1:(2:Nat) ^ 20=1048576:=by decide
 have e2:(2:Nat) ^ 40=1099511627776:=by decide
 rw [e1] at h1 h2
 rw [e2]
 have h3:3*(7*1048576)*e.2.length≤3*(7*1048576)*3:=Nat.mul_le_mul_left _ (by omega)
 omega
theorem JU {xs:List Str} {x:Dw} (h:Am xs x) (z:jE 20 x.1):jE 100 (oH x):=by
 obtain ⟨_,h1,h5,h0,hl⟩:=h
 have e1:(2:Nat) ^ 20=1048576:=by decide
 have e2:(2:Nat) ^ 40=1099511627776:=by decide
 have mul:∀ i:Int,i.natAbs < 2 ^ 20→(i*x.2.1).natAbs≤1048576*5:=fun i hi=>by
  rw [Int.natAbs_mul];rw [e1] at hi;exact Nat.mul_le_mul (by omega) (by omega)
 refine jE.mono (a:=40) ⟨?_,fun p hp=>?_⟩ (by decide)
 ·show (x.1.2*x.2.1+x.2.2).natAbs < 2 ^ 40
  have:=mul _ z.1
  rw [e2];omega
 ·obtain ⟨q,hq,rfl⟩:=List.mem_map.mp hp
  have:=mul _ (z.2 q hq)
  show (q.2*x.2.1).natAbs < 2 ^ 40
  rw [e2];omega
def sY (C:Addr):Sp:=fun vs H Q _=>∃ (d l:Addr) (xs:List Str) (m:Nat),vs=[.ref d,.ref l,.int m]∧Dr H d∧H l=some (.lst (xs.map V.str))∧xs.length≤3∧m≤3 ∧
 ∀ (r:Addr) (us:List V) (ds:List Dw) (H':Hp),cA d H H'→Dr H' d→H r=none→H' r=some (.lst us)→Oe C H' us ds→ds.length=m→(∀ x∈ds,Am xs x∧jE 20 x.1)→Q (.ref r) H'
def tu (C:Addr):Sp:=fun vs H Q _=>∃ (d l p:Addr) (xs:List Str) (us:List V) (ds:List Dw) (s:Sm),vs=[.ref d,.ref l,.ref p]∧Dr H d∧H l=some (.lst us)∧Oe C H us ds∧ds.length≤3∧(∀ x∈ds,Am xs x)∧xs.length≤3∧cJ C H p s.1 s.2∧Gm xs s ∧
 ∀ (q r wl:Addr) (t:Sm) (ws:List Int) (c:Int) (H':Hp),cA d H H'→Dr H' d→H q=none→H' q=some (.tup [.ref r,.ref wl])→H wl=none→H' wl=some (.lst (ws.map V.int))→cJ C H' r t.1 t.2→Gm xs t→Wts ws ds.length→-4 < c∧c < 0→(∀ f,ev t f=c - ev s f - wsum f ws ds)→Q (.ref q) H'
theorem Ii {ps ts:Ps} {r2:Nat} (g:mK ps ts) (h:∀ p∈ps,p.2.natAbs≤3) (l:ps.length≤3) (h9:r2 < 9):jE 20 (ts,(r2:Int) - 4):=by
 have e1:(2:Nat) ^ 20=1048576:=by decide
 refine ⟨?_,fun p hp=>?_⟩
 ·show ((r2:Int) - 4).natAbs < 2 ^ 20
  rw [e1];omega
 ·have:=yc g h p hp
  have h3:ps.length*3≤3*3:=Nat.mul_le_mul_right _ l
  rw [e1];omega
def Ad (p:Nat×Int):Gl:=.cut p.1 p.2
theorem JV {ss:List Sm} {k:Nat} {d:Int} {s:Sm} (h1:1≤d) (e:ss[k]?=some s) (hm:∀ p∈s.1,p.2 % d=0):mH ss (mq (.cut k d))=some (.cut k d):=by
 have hk:k < ss.length:=(List.getElem?_eq_some_iff.mp e).1
 show (if hdS (.sc (.str "cut"))=some ("cut":Str) then (if 0≤(k:Int)∧(k:Int) < (ss.length:Int)∧1≤d∧((ss.getD (k:Int).toNat s0).1.all fun q=>decide (q.2 % d=0))=true then some (Ln.cut (k:Int).toNat d) else none) else none)=_
 rw [if_pos (show hdS (.sc (.str "cut"))=some ("cut":Str) from rfl),if_pos ⟨by omega,by omega,h1,by rw [Int.toNat_natCast,fH e,List.all_eq_true];exact fun q hq=>decide_eq_true (hm q hq)⟩,Int.toNat_natCast]
theorem yt {F:List Sm→Prop}:∀ {cs:List (Nat×Int)} {ss:List Sm},Ok (BE cs) ss F→∃ ss',F ss'∧∀ k r,qp k ss ((cs.map Ad).map mq++r)=qp k ss' r
 | [],ss,h=>⟨ss,h,fun _ _=>rfl⟩
 | p::cs,ss,⟨⟨h1,h5,s,e,hm⟩,b⟩=>by
  have i:Is ss (.cut p.1 p.2) (s.1.map fun q=>(q.1,q.2 / p.2),s.2 / p.2):=⟨s,e,rfl⟩
  obtain ⟨ss',hf,hr⟩:=yt (b _ i)
  refine ⟨ss',hf,fun k r=>?_⟩
  show qp k ss (mq (.cut p.1 p.2)::((cs.map Ad).map mq++r))=_
  rw [uy rfl (JV h1 e hm) i]
  exact hr k r
theorem sG {n:Nat}:∀ {ws:List (Int×Nat)},(∀ p∈ws,1≤p.1∧p.2 < n)→gQ n (ws.map gf)=some ws
 | [],_=>rfl
 | w::ws,h=>by
  have ih:=sG (ws:=ws) fun p hp=>h p (List.mem_cons_of_mem _ hp)
  obtain ⟨h1,h2⟩:=h w (List.mem_cons_self ..)
  have e:nP n (gf w)=some w:=by
   show (if 1≤w.1∧0≤(w.2:Int)∧(w.2:Int) < (n:Int) then some (w.1,(w.2:Int).toNat) else none)=_
   rw [if_pos ⟨h1,by omega,by omega⟩,Int.toNat_natCast]
  show (match nP n (gf w),gQ n (ws.map gf) with | some w,some ws=>some (w::ws) | _,_=>none)=_
  rw [e,ih]
theorem BN {k:List Sm→Sm→Ov→Ov→Bool} {ss:List Sm} {ws:List (Int×Nat)} {c:Int} (hc:c < 0) (h:∀ f,Bs ss f ws=c) (hr:Rt ss (.add ws)):qp k ss [cy ws]=true:=by
 obtain ⟨h0,_,hw⟩:=hr
 have e:mH ss (cy ws)=some (.add ws):=A8 (u:=.str "add") rfl (fun z=>h0 (List.map_eq_nil_iff.mp z)) (sG fun p hp=>⟨(hw p hp).1,(hw p hp).2.2⟩)
 have c0:kL ss ws=c:=by
  have:=BG ss (fun _=>0) ws
  rw [ue,h] at this
  omega
 have i:Is ss (.add ws) ([],c):=⟨⟨Canon.nil,fun f=>by
  have:=BG ss f ws
  rw [h,c0] at this
  show (0:Int)=_
  omega⟩,c0.symm⟩
 rw [uy rfl e i,kJ,List.getLast?_append]
 show (true && decide (c < 0))=true
 rw [decide_eq_true hc];rfl
theorem Fx {xs:List Str} {ds:List Dw} {SS ss':List Sm} {M j:Nat} {gn:List Nat} {e:Ed} {uU:List (Int×Nat)} (d3:ds.length≤3) (hp:RJ xs ds SS ds.length M gn ss') (hS:SS.length≤5) (hM:M≤3) (hpl:gn.length=ds.length) (hw:Wts e.2 ds.length) (hj:j≤1) (hex:uU=[]∨uU=[(1,SS.length+M)]):pA (iN e.2 gn++[(1,ds.length+j)]++uU):=by
 obtain ⟨ad,e1,al,ag,pj⟩:=hp
 have hlen:ss'.length=SS.length+M:=by rw [e1,List.length_append,al]
 have ZM:uU.length≤1∧∀ p∈uU,p=(1,SS.length+M):=by
  rcases hex with b | b <;> rw [b]
  ·exact ⟨Nat.zero_le _,fun _ h=>nomatch h⟩
  ·exact ⟨Nat.le_refl _,fun p hp=>List.mem_singleton.mp hp⟩
 have zl:(iN e.2 gn).length=ds.length:=by rw [nR (by rw [hw.1,hpl]),hw.1]
 have le:(iN e.2 gn++[(1,ds.length+j)]++uU).length=ds.length+1+uU.length:=by rw [List.length_append,List.length_append,zl];rfl
 refine ⟨by omega,by omega,fun p hp=>?_⟩
 rcases List.mem_append.mp hp with h | h
 ·rcases List.mem_append.mp h with h | h
  ·obtain ⟨h1,h2⟩:=rV h
   obtain ⟨w1,w3⟩:=hw.2 _ h1
   refine ⟨w1,w3,?_⟩
   obtain ⟨i,hi⟩:=List.getElem?_of_mem h2
   have il:i < ds.length:=by rw [← hpl];exact (List.getElem?_eq_some_iff.mp hi).1
   obtain ⟨k,a,b⟩:=pj i _ il (List.getElem?_eq_getElem il)
   rw [hi] at a
   cases a
   have:=(List.getElem?_eq_some_iff.mp b).1
   omega
  ·rw [List.mem_singleton.mp h]
   exact ⟨by show (1:Int)≤1;decide,by show (1:Int)≤3;decide,by show ds.length+j≤1000;omega⟩
 ·rw [ZM.2 p h]
  exact ⟨by show (1:Int)≤1;decide,by show (1:Int)≤3;decide,by show SS.length+M≤1000;omega⟩
theorem Kw {C:Addr} {H:Hp} {v:V} {p:Nat×Int} (h:Ar H v p):iO C H v (mq (Ad p)):=by
 obtain ⟨a,rfl,q⟩:=h
 exact gB q (.cons (iV rfl) (.cons (iV rfl) (.cons (iV rfl) .nil)))
theorem uB {C:Addr} {H:Hp}:∀ {us:List V} {cs:List (Nat×Int)},Paired (Ar H) us cs→Paired (iO C H) us ((cs.map Ad).map mq)
 | _,_,.nil=>.nil
 | _,_,.cons h t=>.cons (Kw h) (uB t)
theorem Cf {C:Addr} {H:Hp}:∀ {us:List V} {ws:List (Int×Nat)},Paired (rm H) us ws→Paired (iO C H) us (ws.map gf)
 | _,_,.nil=>.nil
 | _,_,.cons h t=>.cons (let ⟨_,e,q⟩:=h;e ▸ gB q (.cons (iV rfl) (.cons (iV rfl) .nil))) (Cf t)
theorem Dk {C:Addr} {H:Hp} {b t:Addr} {us:List V} {ws:List (Int×Nat)} (e2:H b=some (.tup [.str "add",.ref t])) (e3:H t=some (.tup us)) (p:Paired (rm H) us ws):iO C H (.ref b) (cy ws) :=
 gB e2 (.cons (iV rfl) (.cons (gB e3 (Cf p)) .nil))
theorem G4 {C:Addr} {H:Hp} {v:V} {ws:List (Int×Nat)} (h:BP H v ws):iO C H v (.sq [cy ws]):=by
 obtain ⟨a,b,t,us,rfl,e1,e2,e3,p⟩:=h
 exact gB e1 (.cons (Dk e2 e3 p) .nil)
def RQ (C:Addr) (xs:List Str) (H:Hp) (pp:Addr) (ss:List Sm):Prop:=∃ pv gs,H pp=some (.tup pv)∧Paired (iO C H) pv (gs.map mq)∧Nq xs ss.length gs∧kZ 20 ss (.sq (gs.map mq))=true
theorem K4 {xs:List Str} {n:Nat} {cs:List (Nat×Int)} {g:Gl} (cl:cs.length≤3) (Dc:∀ p∈cs,p.1 < n∧2≤p.2∧p.2≤5) (n9:n≤1000) (gok:uO xs g) (ng:∀ k d,g≠.cut k d):Nq xs n (cs.map Ad++[g]):=by
 refine ⟨fun x hx=>?_,by rw [List.length_append,List.length_map];show _+1≤4;omega,by simp,fun k d e=>?_,fun k d e=>?_⟩
 ·rcases List.mem_append.mp hx with z | z
  ·obtain ⟨p,hp,rfl⟩:=List.mem_map.mp z
   obtain ⟨a,b,c⟩:=Dc p hp
   exact ⟨by omega,b,c⟩
  ·rw [List.mem_singleton.mp z];exact gok
 ·cases cs with
  | nil=>exact absurd (Option.some.inj e) (ng k d)
  | cons p r =>
   have e:Ad p=.cut k d:=Option.some.inj e
   cases e
   exact (Dc p (List.mem_cons_self ..)).1
 ·rw [List.getLast?_append] at e
  exact absurd (Option.some.inj e) (ng k d)
theorem Ez {C:Addr} {xs:List Str} {ds:List Dw} {Es:List Ed} {SS:List Sm} {H:Hp} {pp:Addr} {jP:List V} {cs:List (Nat×Int)} {gn:List Nat} {e:Ed} {b:Addr} {ws:List (Int×Nat)} (d3:ds.length≤3) (hs:H pp=some (.tup (jP++[V.ref b]))) (hc:Paired (Ar H) jP cs) (cl:cs.length≤3) (Dc:∀ p∈cs,p.1 < SS.length∧2≤p.2∧p.2≤5) (l5:SS.length≤5)
  (hb:iO C H (.ref b) (cy ws)) (hok:Ok (BE cs) SS (RJ xs ds SS ds.length cs.length gn)) (hS:SS=ds.map oH++Es.map (·.1)) (hg:∀ s∈SS,Gm xs s) (ee:Es[0]?=some e) (ok:IJ xs ds s0 e) (hpl:gn.length=ds.length) (hw:ws=iN e.2 gn++[(1,ds.length+0)]++[]):RQ C xs H pp SS:=by
 obtain ⟨ss',h,P5⟩:=yt hok
 obtain ⟨c,hc0,hev,hr⟩:=yh (ex:=[]) (uU:=[]) d3 h hS hg ee ok hpl (.inl ⟨rfl,rfl,fun f=>by show (0:Int)+0=0;rfl⟩)
 have Nz:=Fx (e:=e) (j:=0) (uU:=[]) d3 h l5 cl hpl ok.2.1 (by decide) (.inl rfl)
 rw [← hw] at hev hr Nz
 rw [List.append_nil] at hev hr
 refine ⟨_,cs.map Ad++[.add ws],hs,?_,K4 (g:=.add ws) cl Dc (by omega) Nz (fun k d z=>nomatch z),?_⟩
 ·rw [List.map_append]
  exact cu (uB hc) (.cons hb .nil)
 ·rw [ig,List.map_append,P5]
  exact BN hc0 hev hr
theorem Ey {C:Addr} {xs:List Str} {ds:List Dw} {Es:List Ed} {SS:List Sm} {H:Hp} {pp a:Addr} {jP:List V} {cs:List (Nat×Int)} {gn:List Nat} {e e':Ed} {p q1 q2:Addr} {m m1:Sm} {w1 w2:List (Int×Nat)} (d3:ds.length≤3) (hs:H pp=some (.tup (jP++[V.ref a]))) (hc:Paired (Ar H) jP cs) (cl:cs.length≤3) (Dc:∀ p∈cs,p.1 < SS.length∧2≤p.2∧p.2≤5) (l5:SS.length≤5)
  (ha:H a=some (.tup [.str "split",.ref p,.ref q1,.ref q2])) (Sp:cJ C H p m.1 m.2) (gm:Gm xs m) (zm:jE 100 m) (i1:BP H (.ref q1) w1) (i2:BP H (.ref q2) w2) (hok:Ok (BE cs) SS (RJ xs ds SS ds.length cs.length gn)) (hS:SS=ds.map oH++Es.map (·.1)) (hg:∀ s∈SS,Gm xs s)
  (ee:Es[0]?=some e) (ok:IJ xs ds m e) (ee':Es[1]?=some e') (ok':IJ xs ds m1 e') (hm1:∀ f,ev m1 f=-ev m f - 1) (hpl:gn.length=ds.length) (hw1:w1=iN e.2 gn++[(1,ds.length+0)]++[(1,SS.length+cs.length)]) (hw2:w2=iN e'.2 gn++[(1,ds.length+1)]++[(1,SS.length+cs.length)]):RQ C xs H pp SS:=by
 obtain ⟨ss',h,P5⟩:=yt hok
 obtain ⟨c,hc0,hev,hr⟩:=yh (ex:=[m]) (uU:=[(1,SS.length+cs.length)]) d3 h hS hg ee ok hpl (.inr ⟨m,rfl,rfl,gm,fun f=>rfl⟩)
 obtain ⟨c',Zt,P6,hr'⟩:=yh (ex:=[tR m]) (uU:=[(1,SS.length+cs.length)]) d3 h hS hg ee' ok' hpl (.inr ⟨tR m,rfl,rfl,ya gm,fun f=>by rw [hm1,MV]⟩)
 have Nz:=Fx (e:=e) (j:=0) (uU:=[(1,SS.length+cs.length)]) d3 h l5 cl hpl ok.2.1 (by decide) (.inr rfl)
 have Oh:=Fx (e:=e') (j:=1) (uU:=[(1,SS.length+cs.length)]) d3 h l5 cl hpl ok'.2.1 (by decide) (.inr rfl)
 rw [← hw1] at hev hr Nz
 rw [← hw2] at P6 hr' Oh
 refine ⟨_,cs.map Ad++[.split m w1 w2],hs,?_,K4 (g:=.split m w1 w2) cl Dc (by omega) ⟨gm,zm,Nz,Oh⟩ (fun k d z=>nomatch z),?_⟩
 ·rw [List.map_append]
  exact cu (uB hc) (.cons (gB ha (.cons (iV rfl) (.cons (Fz Sp) (.cons (G4 i1) (.cons (G4 i2) .nil))))) .nil)
 ·rw [ig,List.map_append,P5]
  show qp (kF 20) ss' [.sq [.sc (.str "split"),.sm m,.sq [cy w1],.sq [cy w2]]]=true
  rw [ir (s:=m) (x:=.sq [cy w1]) (y:=.sq [cy w2]) (sS _ _ _)]
  show (true && (kZ 19 (ss'++[m]) (.sq [cy w1]) && kZ 19 (ss'++[tR m]) (.sq [cy w2])))=true
  rw [ig,ig,BN hc0 hev hr,BN Zt P6 hr']
  rfl
def pQ (C:Addr):Sp:=fun vs H Q _=>∃ (d l:Addr) (xs:List Str),vs=[.ref d,.ref l]∧Dr H d∧H l=some (.lst (xs.map V.str))∧xs.length≤3 ∧
 ∀ (r c pp:Addr) (us:List V) (ss:List Sm) (H':Hp),cA d H H'→Dr H' d→H' r=some (.tup [.ref c,.ref pp])→H' c=some (.tup us)→vA C H' us ss→2≤us.length∧us.length≤5→(∀ s∈ss,Gm xs s∧jE 100 s)→RQ C xs H' pp ss→Q (.ref r) H'
end Hw
namespace Hw
end Hw
namespace L2
open PySem PySem.Spec PyProof.Rows Hw
section
variable {X:Cx}
theorem JJ:mJ X (compareOp .IsNot) (fun x y H Q=>∃ b,x=.bl b∧y=.bl false∧Q (.bl b) H):=by
 intro pins s σ H x y v u Q I rx ry h
 obtain ⟨b,rfl,rfl,q⟩:=h
 cases rx
 cases ry
 refine isnot_bool (cC I q ?_)
 cases b <;> rfl
theorem L1:mJ X (compareOp .Is) (fun x y H Q=>∃ b,x=.bl b∧y=.bl true∧Q (.bl b) H):=by
 intro pins s σ H x y v u Q I rx ry h
 obtain ⟨b,rfl,rfl,q⟩:=h
 cases rx
 cases ry
 refine is_bool (cC I q ?_)
 cases b <;> rfl
end
end L2
namespace Hw
open PySem L2
end Hw
set_option maxHeartbeats 8000000
namespace Hw
open PySem L2 PyProof.Rows
def top (i:Nat):Stmt:=PySem.Challenge.pw_holdwright_k38_papers_looked_at.main.body.getD i (.Pass ⟨0,0,0,0⟩)
end Hw
namespace Hw
open PySem L2 PyProof.Rows
section
variable {P:Program} {w:World} {K:PySem.W.Frag} {mg:Str→Option Value} {base:Heap}
abbrev tN:Stmt:=inClass (top 2) 0
theorem u7:aW ["self","terms","number"] ["self","terms","number"] (au tN):=⟨rfl,rfl,rfl,by decide +kernel,rfl,by decide +kernel,by decide +kernel⟩
theorem JQ {f C:Addr} {fd:FuncData} (F:iU K "__init__" "Sum.__init__" tN f fd) (T:Txt K mg C) :cL P w K mg base iB 1 f fd ["self","terms","number"] (tD C):=by
 refine F.ok u7 (fun vs H Q E h=>?_) (fun cdv A outer s H vs Q E hr h=>?_)
 ·obtain ⟨p,dx,l,n,ps,rfl,hp,hs,hz,k⟩:=h
  rfl
 ·obtain ⟨p,dx,l,n,ps,rfl,hp,hs,hz,k⟩:=h
  have hu:=cH hr
  rw [show az tN=[_,_] from rfl]
  refine ⟨_,(ak (Gd (pv 0) (bV dS (by rfl) T.tuple boot_tuple (af (fc (ck ["pair"] [] [] rfl (by decide +kernel) (by decide +kernel) (by with_unfolding_all rfl) (by exact trivial) (by rfl) rfl (by rfl)) rfl (nu (pv 1)) (fun _ _ _ _=>(aS (i:=0) (show List.Nodup (["pair"]:List Str) by decide +kernel) rfl (Or.inl rfl) (Or.inr rfl))) (fun _ _ _ _=>dZ) (fun _ _ _ _=>(bV (uG (K:=K) rfl) (by rfl) T.tuple boot_tuple (af (pv 0) ai)))) ai)) rfl)
   (ay (Gd (pv 0) (pv 2) rfl))),?_⟩
  refine ⟨_,rfl,l,rfl,Kz hs (fun i ys H'=>H'=H∧vB H ys (ps.take i)) ⟨rfl,.nil⟩ (fun i ys H' q=>q.1 ▸ Kp.refl) ?_ ?_⟩
  ·rintro i v pr ys H' hi ⟨a,rfl,ha⟩ ⟨rfl,hy⟩
   refine ⟨Ext.one,kR ⟨_,rfl,a,_,rfl,.inr ⟨cR.of ha,?_,rfl,?_⟩⟩⟩
   ·rw [d7 hy,List.length_take]
    exact line _ (by omega)
   ·rw [take_snoc hi]
    exact gk hy (gH ⟨a,rfl,ha⟩)
  ·rintro ys H' ⟨rfl,hy⟩ q hq
   rw [List.take_length] at hy
   refine ⟨q,_,rfl,.inl ⟨bz.of ah,fun t ht=>?_⟩⟩
   have npq:p≠q:=aF hp hq
   have h1:upd H' q (.lst ys) p=some (.ins C dx []):=by rw [aL npq];exact hp
   have K7:p≠t:=aF h1 ht
   refine ⟨_,rfl,p,C,dx,[],rfl,(by rw [aL K7];exact h1),T.cl,T.nT,(by show 0 < 1000;decide),?_⟩
   refine ⟨_,rfl,_,rfl,p,C,dx,_,rfl,ah,T.cl,T.nN,(by show 1 < 1000;decide),?_⟩
   have b:cA p H' (upd (upd (upd (upd H' q (.lst ys)) t (.tup ys)) p (.ins C dx (kq "terms" (.ref t) []))) p (.ins C dx (qE t n))) :=
    (((cA.of (new hq)).new ht).trans cA.upd).trans cA.upd
   refine k _ b ⟨dx,t,ah,⟨ys,?_,hy.keep ?_⟩,hz⟩
   ·rw [aL K7.symm,aL K7.symm,ah]
   ·exact (Kp.but b (by intro xs;rw [hp];intro z;cases z) (by intro xs;rw [hp];intro z;cases z)).t
abbrev tG:Stmt:=inClass (top 2) 2
theorem zb:aW ["self","other"] ["self","other"] (au tG):=⟨rfl,rfl,rfl,by decide +kernel,rfl,by decide +kernel,by decide +kernel⟩
theorem JN {f C:Addr} {fd:FuncData} (F:iU K "plus" "Sum.plus" tG f fd) (T:Txt K mg C) (Ip:Dn P w K mg base 3 "sum_of" ["pairs","number"] (ef C)):cL P w K mg base iB 4 f fd ["self","other"] (pO C):=by
 obtain ⟨Qh,MH,bK,aY,aZ,bD⟩:=Ip
 refine F.ok zb (fun vs H Q E h=>?_) (fun cdv A outer s H vs Q E hr h=>?_)
 ·obtain ⟨p,q,a,b,n,m,rfl,S1,S2,hz,k⟩:=h
  rfl
 ·obtain ⟨p,q,a,b,n,m,rfl,S1,S2,hz,k⟩:=h
  have hu:=cH hr
  rw [show az tG=[_] from rfl]
  refine ⟨_,(ay (aH (ao bK (hr.mono (by decide)) rfl aY aZ bD .nil aB (af (aR xN (dz (pv 0) rfl) (dz (pv 1) rfl)) (af (aR cS (dz (pv 0) rfl) (dz (pv 1) rfl)) ai))))),?_⟩
  obtain ⟨dx,t1,hp,⟨RX,e1,r1⟩,z1⟩:=id S1
  obtain ⟨C5,t2,hq,⟨IU,e2,r2⟩,z2⟩:=id S2
  have lz:RX.length+IU.length≤sizeLine:=by
   rw [d7 r1,d7 r2]
   exact Nat.le_of_lt (line _ (by omega))
  have go:∀ (r:Addr) (H':Hp),aP H H'→Tp H' r (a++b)→∃ (x:Addr) (nn:Int) (ps:Ps),[V.ref r,V.int (n+m)]=[.ref x,.int nn]∧Sq H' x ps∧ps.length < 64 ∧
    ∀ (r:Addr) (ts:Ps) (H2:Hp),aP H' H2→mK ps ts→ts.length≤ps.length→cJ C H2 r ts nn→Q (.ref r) H2:=fun r H' sm tp =>
   ⟨r,n+m,a++b,rfl,.inr tp,by rw [List.length_append];exact hz,fun r2 ts H2 LM g l S=>k r2 ts H2 (sm.trans LM) g (by rw [List.length_append] at l;exact l) S⟩
  refine ⟨_,rfl,p,C,dx,_,_,rfl,hp,T.cl,T.nT,cF _ _,_,rfl,q,C,C5,_,_,rfl,hq,T.cl,T.nT,cF _ _,t1,t2,RX,IU,rfl,rfl,cR.of e1,cR.of e2,lz,fun h0=>?_,fun _ h0=>?_,fun _ _ r hr'=>?_⟩
  ·subst h0
   cases r1
   refine ⟨_,rfl,p,C,dx,_,_,rfl,hp,T.cl,T.nN,bX _ _,_,rfl,q,C,C5,_,_,rfl,hq,T.cl,T.nN,bX _ _,_,_,rfl,rfl,?_⟩
   exact go t2 H (aP.refl _) ⟨IU,e2,r2⟩
  ·subst h0
   cases r2
   refine ⟨_,rfl,p,C,dx,_,_,rfl,hp,T.cl,T.nN,bX _ _,_,rfl,q,C,C5,_,_,rfl,hq,T.cl,T.nN,bX _ _,_,_,rfl,rfl,?_⟩
   exact go t1 H (aP.refl _) ⟨RX,e1,by rw [List.append_nil];exact r1⟩
  ·have sm:aP H (upd H r (.tup (RX++IU))):=new hr'
   refine ⟨_,rfl,p,C,dx,_,_,rfl,sm _ _ hp,T.cl,T.nN,bX _ _,_,rfl,q,C,C5,_,_,rfl,sm _ _ hq,T.cl,T.nN,bX _ _,_,_,rfl,rfl,?_⟩
   exact go r _ sm ⟨_,ah,gk (r1.keep fun _ _ z=>sm _ _ z) (r2.keep fun _ _ z=>sm _ _ z)⟩
abbrev nh:Stmt:=inClass (top 2) 4
theorem xE:aW ["self","number"] ["self","number"] (au nh):=⟨rfl,rfl,rfl,by decide +kernel,rfl,by decide +kernel,by decide +kernel⟩
theorem Gw {f C:Addr} {fd:FuncData} (F:iU K "times" "Sum.times" nh f fd) (T:Txt K mg C) (Ip:Dn P w K mg base 3 "sum_of" ["pairs","number"] (ef C)):cL P w K mg base iB 4 f fd ["self","number"] (nW C):=by
 obtain ⟨Qh,MH,bK,aY,aZ,bD⟩:=Ip
 refine F.ok xE (fun vs H Q E h=>?_) (fun cdv A outer s H vs Q E hr h=>?_)
 ·obtain ⟨p,a,n,kk,rfl,S,hz,hk,k⟩:=h
  rfl
 ·obtain ⟨p,a,n,kk,rfl,S,hz,hk,k⟩:=h
  have hu:=cH hr
  rw [show az nh=[_] from rfl]
  refine ⟨_,(ay (aH (ao bK (hr.mono (by decide)) rfl aY aZ bD .nil aB (af (fc (ck ["thing","weight"] ["number"] [1] rfl (by decide +kernel) (by decide +kernel) (by with_unfolding_all rfl) (by exact ⟨rfl,trivial⟩) (by rfl) rfl (by rfl)) rfl (jJ (dz (pv 0) rfl)) (fun _ _ _ _=>(iP (K:=K) (n:=2) rfl rfl (bT (aS (i:=0) (show List.Nodup (["thing","weight","number"]:List Str) by decide +kernel) rfl (Or.inl rfl) (Or.inr rfl)) (bT (aS (i:=1) (show List.Nodup (["thing","weight","number"]:List Str) by decide +kernel) rfl (Or.inl rfl) (Or.inr rfl)) fW)))) (fun _ _ _ _=>dZ) (fun _ _ _ _=>(aM (af (pv 0) (af (aR pY (pv 1) (pv 2)) ai))))) (af (aR pY (dz (pv 0) rfl) (pv 1)) ai))))),?_⟩
  obtain ⟨dx,t,hp,ht,hz'⟩:=id S
  have tz:=line _ (show a.length≤100000 by omega)
  refine ⟨_,rfl,p,C,dx,_,_,rfl,hp,T.cl,T.nT,cF _ _,t,rfl,gK ht (fun i ys H'=>aP H H'∧vB H' ys ((a.take i).map fun q=>(q.1,q.2*kk))) ⟨aP.refl _,.nil⟩ (fun i ys H' q=>Kp.of q.1) ?_ ?_⟩
  ·rintro i v pr ys H' hi ⟨b,rfl,hb⟩ ⟨sm,py⟩
   have hil:i < a.length:=(List.getElem?_eq_some_iff.mp hi).1
   refine ⟨b,_,rfl,cR.of hb,rfl,_,_,rfl,_,_,rfl,rfl,Ext.two,kR ⟨_,rfl,_,rfl,_,rfl,_,_,rfl,rfl,.inr hk,(szl 2),fun q hq=>⟨?_,aP.new sm hq,?_⟩⟩⟩
   ·rw [d7 py,List.length_map,List.length_take]
    omega
   ·rw [take_snoc hi,List.map_append]
    exact gk (py.keep fun _ _ z=>new hq _ _ z) (gH ⟨q,rfl,ah⟩)
  ·rintro ys H' ⟨sm,py⟩ q hq
   rw [List.take_length] at py
   have s1:aP H (upd H' q (.lst ys)):=aP.new sm hq
   refine ⟨_,rfl,p,C,dx,_,_,rfl,s1 _ _ hp,T.cl,T.nN,bX _ _,_,rfl,_,_,rfl,rfl,.inr hk,?_⟩
   refine ⟨q,n*kk,_,rfl,.inl ⟨ys,ah,py.keep fun _ _ z=>new hq _ _ z⟩,by rw [List.length_map];exact hz,fun r ts H2 LM g l S2=>k r ts H2 (s1.trans LM) g (by rw [List.length_map] at l;exact l) S2⟩
abbrev tK:Stmt:=inClass (top 2) 3
theorem zc:aW ["self","other"] ["self","other"] (au tK):=⟨rfl,rfl,rfl,by decide +kernel,rfl,by decide +kernel,by decide +kernel⟩
theorem JP {f C:Addr} {fd:FuncData} (F:iU K "less" "Sum.less" tK f fd) (T:Txt K mg C) (nG:Mt P w K mg base 4 C "plus" ["self","other"] (pO C)) (oV:Mt P w K mg base 4 C "times" ["self","number"] (nW C)):cL P w K mg base iB 5 f fd ["self","other"] (xx C):=by
 obtain ⟨Bp,yd,fU,lN,fS⟩:=nG
 obtain ⟨C0,zT,eX,jz,eW⟩:=oV
 refine F.ok zc (fun vs H Q E h=>?_) (fun cdv A outer s H vs Q E hr h=>?_)
 ·obtain ⟨p,q,a,b,n,m,rfl,S1,S2,hz,k⟩:=h
  rfl
 ·obtain ⟨p,q,a,b,n,m,rfl,S1,S2,hz,k⟩:=h
  have hu:=cH hr
  rw [show az tK=[_] from rfl]
  refine ⟨_,(ay (aH (fX (pv 0) T.cl lN fU (hr.mono (by decide)) fS .nil aB (af (fX (pv 1) T.cl jz eX (hr.mono (by decide)) eW .nil aB (af (fE dw aj) ai)) ai)))),?_⟩
  obtain ⟨dx,t1,hp,ht1,z1⟩:=id S1
  obtain ⟨C5,t2,hq,ht2,z2⟩:=id S2
  refine ⟨_,rfl,p,dx,_,rfl,hp,eS _ _ (by decide +kernel) (by decide +kernel),_,rfl,q,C5,_,rfl,hq,eS _ _ (by decide +kernel) (by decide +kernel),_,rfl,?_⟩
  refine ⟨q,b,m,-1,rfl,S2,by omega,⟨by decide,by decide⟩,fun r ts H1 sm1 g1 l1 S1'=>?_⟩
  refine ⟨p,r,a,ts,n,m*-1,rfl,S1.same sm1,S1',by omega,fun r2 ts2 H2 LM g2 l2 S2'=>?_⟩
  refine k r2 ts2 H2 (sm1.trans LM) ⟨g2.1,fun f=>?_⟩ (by omega) ?_
  ·rw [g2.2,eK,eK,g1.2,lO,rP]
   omega
  ·have e:n+m*-1=n - m:=by omega
   rw [← e]
   exact S2'
abbrev ni:Stmt:=top 4
theorem lZ:aW ["pairs","number","weights","thing","weight"] ["pairs","number"] (au ni):=⟨rfl,rfl,rfl,by decide +kernel,rfl,by decide +kernel,by decide +kernel⟩
theorem DA {f C:Addr} {fd:FuncData} (F:iU K "sum_of" "sum_of" ni f fd) (T:Txt K mg C) (d_init:Mr P w K mg base 1 C ["self","terms","number"] (tD C)):cL P w K mg base iB 3 f fd ["pairs","number"] (ef C):=by
 obtain ⟨HS,CY,jt,M,jo⟩:=d_init
 refine F.ok lZ (fun vs H Q E h=>?_) (fun cdv A outer s H vs Q E hr h=>?_)
 ·obtain ⟨a,n,ps,rfl,hs,hz,k⟩:=h
  rfl
 ·obtain ⟨a,n,ps,rfl,hs,hz,k⟩:=h
  have hu:=cH hr
  rw [show az ni=[_,_,_] from rfl]
  refine ⟨_,(ak (bq (i:=2) lZ.nd rfl (Or.inr rfl) Gn)
   (ak (gZ PassesOwn.never rfl (nu (pv 0)) (xH rfl (bT (aS (i:=3) lZ.nd rfl (Or.inl rfl)) (bT (aS (i:=4) lZ.nd rfl (Or.inl rfl)) fW))) (ay (JB hu (pv 2) (pv 3) (aR cS (Gp hu (pv 2) (pv 3) aj ⟨rfl,rfl,rfl,rfl⟩) (pv 4)) rfl)))
   (ay (aH (xK M jt (hr.mono (by decide)) rfl T.ua jo .nil aB (af (fc (ck ["thing"] ["weights"] [2] rfl (by decide +kernel) (by decide +kernel) (by with_unfolding_all rfl) (by exact ⟨rfl,trivial⟩) (by rfl) rfl (by rfl)) rfl (ow (aJ (yw rfl) (by rfl) T.sorted boot_sorted (af (pv 2) ai))) (fun _ _ _ _=>(aS (i:=0) (show List.Nodup (["thing","weights"]:List Str) by decide +kernel) rfl (Or.inl rfl) (Or.inr rfl))) (fun _ _ _ _=>(Cv (bh oz (CA hu (pv 1) (pv 0) (fun _ _=>rfl)) aj (aO _)))) (fun _ _ _ _=>(aM (af (pv 0) (af (CA hu (pv 1) (pv 0) (fun _ _=>rfl)) ai))))) (af (pv 1) ai))))))),?_⟩
  intro d hd
  have lz:=line ps.length (by omega)
  refine ⟨_,rfl,a,rfl,MG (hs.same (new hd)) (fun i σ H'=>∃ e t w,σ=[some (.ref a),some (.int n),some (.ref d),t,w]∧H'=upd H d (.dK (enc e))∧Tab (ps.take i) e) ⟨[],none,none,rfl,rfl,Tab.nil⟩ ?_ ?_ ?_⟩
  ·rintro i σ H' ⟨e,t,w,rfl,rfl,tab⟩
   exact Kp.dict
  ·rintro i v pr σ H' hi ⟨a',rfl,ha'⟩ ⟨e,t,w,rfl,rfl,tab⟩
   have he:(enc e).length < sizeLine:=by
    have h1:=tab.len
    rw [List.length_take] at h1
    rw [C4]
    omega
   refine ⟨a',_,rfl,cR.of ha',rfl,_,_,rfl,_,_,rfl,rfl,?_⟩
   refine ⟨_,rfl,d,rfl,.inl ⟨_,.inl ah⟩,_,rfl,_,vE.k (k:=Sum.inr pr.1) ah,_,rfl,_,_,Ie e pr.1,rfl,_,rfl,_,rfl,d,_,rfl,IT.k (k:=Sum.inr pr.1) ah he,?_⟩
   refine ⟨step e pr,_,_,rfl,?_,?_⟩
   ·rw [Cj,Ko]
    rfl
   ·rw [take_snoc hi]
    exact tab.step pr
  ·rintro σ H' ⟨e,t,w,rfl,rfl,tab⟩
   rw [List.take_length] at tab
   have el:(enc e).length < 64:=by have:=tab.len;rw [C4];omega
   refine ⟨_,rfl,d,_,keys e,rfl,ah,Ic e,el,fun l ys hl hp hso=>⟨l,rfl,⟨_,bz.of ah⟩,?_⟩⟩
   have yl:ys.length≤ps.length:=by
    rw [hp.length_eq]
    unfold keys
    rw [List.length_map]
    exact tab.len
   refine iy (xs:=ys.map V.str) (fun i out H'=>aP (upd (upd H d (.dK (enc e))) l (.lst (ys.map V.str))) H'∧vB H' out (outs e (ys.take i))) ⟨aP.refl _,.nil⟩ (fun i out H' _ q=>bz.of (q.1 _ _ ah)) ?_ ?_
   ·rintro i v out H' hi ⟨sm,pr⟩
    obtain ⟨y,hy,rfl⟩:∃ y,ys[i]?=some y∧v=V.str y:=by
     rw [List.getElem?_map] at hi
     cases q:ys[i]? with
     | none=>rw [q] at hi;cases hi
     | some y=>rw [q] at hi;cases hi;exact ⟨y,rfl,rfl⟩
    have hm:y∈keys e:=hp.mem_iff.mp (List.mem_of_getElem? hy)
    have hdd:H' d=some (.dK (enc e)):=sm _ _ (by rw [aL (aF ah hl)];exact ah)
    have ol:out.length < sizeLine:=by
     rw [d7 pr]
     have:=tQ e (ys.take i)
     rw [List.length_take] at this
     omega
    refine ⟨Ext.one,_,rfl,_,rfl,d,_,rfl,zv hdd hm,rfl,_,rfl,?_⟩
    dsimp only
    by_cases g0:get e y=0
    ·rw [if_neg (by simp [g0])]
     refine ⟨sm,?_⟩
     rw [take_snoc hy,vV,if_pos g0,List.append_nil]
     exact pr
    ·rw [if_pos (by simp [g0])]
     refine ⟨_,rfl,_,rfl,_,rfl,d,_,rfl,zv hdd hm,(szl 2),fun q hq=>⟨ol,aP.new sm hq,?_⟩⟩
     rw [take_snoc hy,vV,if_neg g0]
     exact gk (pr.keep fun _ _ z=>new hq _ _ z) (gH ⟨q,rfl,ah⟩)
   ·rintro out H' ⟨sm,pr⟩ q hq
    rw [List.length_map,List.take_length] at pr
    have s0:aP H H':=fun b o z=>sm b o (aP.new (new hd) hl b o z)
    refine ⟨_,rfl,fun x dx hx hdx ne=>?_⟩
    have h1:aP (upd H' q (.lst out)) (upd (upd (upd H' q (.lst out)) dx (.own x)) x (.ins C dx [])):=fun b o z=>by
     rw [aL (aF z hx),aL (aF z hdx)]
     exact z
    refine ⟨x,dx,q,n,outs e ys,rfl,ah,.inl ⟨out,h1 _ _ ah,pr.keep fun _ _ z=>h1 _ _ (new hq _ _ z)⟩,?_,fun H2 but S=>⟨rfl,?_⟩⟩
    ·have:=tQ e ys
     omega
    ·refine k x (outs e ys) H2 (fun b o z=>but b o (h1 _ _ (aP.new s0 hq b o z)) (aF (aP.new s0 hq b o z) hx)) (tab.gat hp hso) ?_ S
     have:=tQ e ys
     omega
abbrev nj:Stmt:=top 26
theorem oi:aW ["_law_cell","_law_k","_law_mix"] ["_law_cell","_law_k"] (au nj):=⟨rfl,rfl,rfl,by decide +kernel,rfl,by decide +kernel,by decide +kernel⟩
theorem Gx {f C:Addr} {fd:FuncData} (F:iU K "_law_mixed" "_law_mixed" nj f fd) (T:Txt K mg C) :cL P w K mg base iB 1 f fd ["_law_cell","_law_k"] rG:=by
 refine F.ok oi (fun vs H Q E h=>?_) (fun cdv A outer s H vs Q E hr h=>?_)
 ·obtain ⟨c,kk,rfl,k⟩:=h
  rfl
 ·obtain ⟨c,kk,rfl,k⟩:=h
  have hu:=cH hr
  rw [show az nj=[_,_] from rfl]
  refine ⟨_,(ak (bq (i:=2) oi.nd rfl (Or.inl rfl) (aR pZ (aR pY (aR cS (aR cS (pv 0) (aR pY aj (pv 1))) aj) aj) aj))
   (ay (aH (aR pZ (aR cS (aR pY (pv 2) (pv 2)) (aR pY aj (pv 2))) aj)))),?_⟩
  refine ⟨_,rfl,_,rfl,_,_,rfl,rfl,.inl ⟨by decide,by decide⟩,_,_,rfl,rfl,_,_,rfl,rfl,_,_,rfl,rfl,.inr ⟨by decide,by decide⟩,_,_,rfl,rfl,(by show (0:Int) < 2147483647;decide),?_⟩
  have h0:=Int.emod_nonneg ((c+7919*kk+11)*48271) (show (2147483647:Int)≠0 by decide)
  have h1:=Int.emod_lt_of_pos ((c+7919*kk+11)*48271) (show (0:Int) < 2147483647 by decide)
  generalize (c+7919*kk+11)*48271 % 2147483647=mx at h0 h1
  refine ⟨_,rfl,_,rfl,_,_,rfl,rfl,.inl ⟨by omega,by omega⟩,_,rfl,_,_,rfl,rfl,.inl ⟨by decide,by decide⟩,_,_,rfl,rfl,_,_,rfl,rfl,(by show (0:Int) < 2147483399;decide),?_⟩
  exact k _ (Int.emod_nonneg _ (by decide)) (Int.emod_lt_of_pos _ (by decide))
abbrev ko:Stmt:=top 25
theorem jd:aW ["_law_script","_law_k","_law_cell"] ["_law_script","_law_k"] (au ko):=⟨rfl,rfl,rfl,by decide +kernel,rfl,by decide +kernel,by decide +kernel⟩
theorem AX {f C:Addr} {fd:FuncData} (F:iU K "_law_cell_at" "_law_cell_at" ko f fd) (T:Txt K mg C) (yo:Dn P w K mg base 1 "_law_mixed" ["_law_cell","_law_k"] rG):cL P w K mg base iB 2 f fd ["_law_script","_law_k"] (AA K):=by
 obtain ⟨Kc,Hu,yH,tX,ug,yz⟩:=yo
 refine F.ok jd (fun vs H Q E h=>?_) (fun cdv A outer s H vs Q E hr h=>?_)
 ·obtain ⟨a,ns,kk,rfl,hS,k⟩:=h
  rfl
 ·obtain ⟨a,ns,kk,rfl,hS,k⟩:=h
  have hu:=cH hr
  rw [show az ko=[_,_,_] from rfl]
  refine ⟨_,(ak (bq (i:=2) jd.nd rfl (Or.inl rfl) aj)
   (ak (cE (bh mO (pv 1) (aJ aG (by rfl) T.len PySem.boot_len (af (pv 0) ai)) (aO _)) (ay (bq (i:=2) jd.nd rfl (Or.inl rfl) (aD aI (pv 0) (pv 1) (fun _ _=>rfl)))) bN)
   (ay (aH (ao yH (hr.mono (by decide)) rfl tX ug yz .nil aB (af (pv 2) (af (aR cS aj (pv 1)) ai))))))),?_⟩
  refine ⟨_,rfl,_,rfl,a,_,rfl,.inl hS,_,_,rfl,rfl,_,rfl,?_⟩
  refine J3 (fun hc=>?_) (fun hc=>?_)
  ·have hc:=of_decide_eq_true hc
   rw [List.length_map] at hc
   have hk:(ns.map V.int)[kk]?=some (V.int (ns[kk]'(by omega))):=by rw [List.getElem?_map,List.getElem?_eq_getElem (by omega)];rfl
   refine ⟨_,rfl,_,rfl,a,_,_,_,rfl,rfl,hS,aK hk,?_⟩
   exact ⟨_,rfl,_,rfl,_,_,rfl,rfl,_,_,rfl,fun r _ _=>k r⟩
  ·exact ⟨_,rfl,_,rfl,_,_,rfl,rfl,_,_,rfl,fun r _ _=>k r⟩
abbrev tH:Stmt:=top 27
theorem yV:aW ["_law_draw","_law_size"] ["_law_draw","_law_size"] (au tH):=⟨rfl,rfl,rfl,by decide +kernel,rfl,by decide +kernel,by decide +kernel⟩
theorem JO {f C:Addr} {fd:FuncData} (F:iU K "_law_next" "_law_next" tH f fd) (T:Txt K mg C) (yo:Dn P w K mg base 1 "_law_mixed" ["_law_cell","_law_k"] rG):cL P w K mg base iB 2 f fd ["_law_draw","_law_size"] iX:=by
 obtain ⟨Kc,Hu,yH,tX,ug,yz⟩:=yo
 refine F.ok yV (fun vs H Q E h=>?_) (fun cdv A outer s H vs Q E hr h=>?_)
 ·obtain ⟨d,n,rfl,hd,hn,k⟩:=h
  rfl
 ·obtain ⟨d,n,rfl,hd,hn,k⟩:=h
  have hu:=cH hr
  rw [show az tH=[_,_] from rfl]
  refine ⟨_,(ak (JC (pv 0) aj Hq aj Mu set_list)
   (ay (aH (aR pZ (aR JK (ao yH (hr.mono (by decide)) rfl tX ug yz .nil aB (af (aD aI (pv 0) aj (fun _ _=>rfl)) (af (aD aI (pv 0) aj (fun _ _=>rfl)) ai))) aj) (pv 1))))),?_⟩
  obtain ⟨x,y,hd⟩:=hd
  refine ⟨_,rfl,d,_,1,_,rfl,rfl,bz.of hd,rfl,_,_,rfl,rfl,d,_,_,1,rfl,rfl,hd,rfl,?_⟩
  refine ⟨_,rfl,d,_,_,_,rfl,rfl,bz.of ah,rfl,_,rfl,d,_,_,_,rfl,rfl,bz.of ah,rfl,_,_,rfl,fun r h0 h1=>?_⟩
  refine ⟨_,_,rfl,rfl,⟨by decide,by decide⟩,_,rfl,_,_,rfl,rfl,hn,?_⟩
  have e0:=Int.emod_nonneg (r / 7) (Int.ne_of_gt hn)
  have e1:=Int.emod_lt_of_pos (r / 7) hn
  have e:=Int.toNat_of_nonneg e0
  rw [← e] at e1
  show Q (V.int (r / 7 % n)) _
  rw [← e]
  exact k _ _ e1 cA.upd ⟨_,_,ah⟩
abbrev jb:Stmt:=top 23
theorem AI:aW ["pair"] ["pair"] (au jb):=⟨rfl,rfl,rfl,by decide +kernel,rfl,by decide +kernel,by decide +kernel⟩
theorem AV {f C:Addr} {fd:FuncData} {n:Nat} (F:iU K "is_term" "is_term" jb f fd) (T:Txt K mg C) (J:kW K mg) (fQ:Dn P w K mg base 1 "is_number" ["what"] xy):cL P w K mg base iB 2 f fd ["pair"] tw:=by
 obtain ⟨lV,kI,fT,fh,fk,fR⟩:=fQ
 refine F.ok AI (fun vs H Q E h=>?_) (fun cdv A outer s H vs Q E hr h=>?_)
 ·obtain ⟨q,t,w0,rfl,hq,hw,k⟩:=h
  rfl
 ·obtain ⟨q,t,w0,rfl,hq,hw,k⟩:=h
  have hu:=cH hr
  rw [show az jb=[_] from rfl]
  refine ⟨_,(ay (aH (dc (cG cU (aJ aG (by rfl) T.len PySem.boot_len (af (pv 0) ai)) aj (aO _)) (dc (aJ (iK (c:=.ty "str") trivial) (by rfl) T.isinstance boot_isinstance (af (aD ic (pv 0) aj (fun _ _=>rfl)) (af (fF (v:=.ty "str") rfl T.str boot_str rfl) ai))) (dc (ao fT (hr.mono (by first | decide | omega)) rfl fh fk fR .nil aB (af (aD ic (pv 0) aj (fun _ _=>rfl)) ai)) (gu (cG oz (aD ic (pv 0) aj (fun _ _=>rfl)) aj (aO _)))))))),?_⟩
  refine ⟨_,rfl,q,_,rfl,.inr (cR.of hq),rfl,_,rfl,cM rfl ?_⟩
  refine ⟨_,rfl,q,_,0,_,rfl,rfl,cR.of hq,rfl,_,_,_,true,rfl,.str t,rfl,J0 K,true,rfl,E4 rfl ?_⟩
  refine ⟨_,rfl,q,_,1,_,rfl,rfl,cR.of hq,rfl,w0,rfl,true,rfl,E4 rfl ?_⟩
  refine ⟨_,rfl,q,_,1,_,rfl,rfl,cR.of hq,rfl,rfl,?_⟩
  rw [decide_eq_false fun z=>hw (V.int.inj z)]
  exact k
abbrev gW:Stmt:=top 14
theorem yZ:aW ["total"] ["total"] (au gW):=⟨rfl,rfl,rfl,by decide +kernel,rfl,by decide +kernel,by decide +kernel⟩
theorem zp {f C:Addr} {fd:FuncData} {n:Nat} (F:iU K "is_never" "is_never" gW f fd) (T:Txt K mg C) (J:kW K mg) :cL P w K mg base iB 1 f fd ["total"] (xu C):=by
 refine F.ok yZ (fun vs H Q E h=>?_) (fun cdv A outer s H vs Q E hr h=>?_)
 ·obtain ⟨p,ts,n0,rfl,S,k⟩:=h
  rfl
 ·obtain ⟨p,ts,n0,rfl,S,k⟩:=h
  have hu:=cH hr
  rw [show az gW=[_] from rfl]
  refine ⟨_,(ay (aH (dc (cG cU (aJ aG (by rfl) T.len PySem.boot_len (af (dz (pv 0) rfl) ai)) aj (aO _)) (gu (cG mO (dz (pv 0) rfl) aj (aO _)))))),?_⟩
  obtain ⟨dx,t,hp,⟨vs,et,pr⟩,hz⟩:=S
  have lv:=d7 pr
  cases ts with
  | nil =>
   cases pr
   refine ⟨_,rfl,p,C,dx,_,_,rfl,hp,T.cl,T.nT,cF _ _,t,_,rfl,.inr (cR.of et),rfl,_,rfl,cM rfl ⟨_,rfl,p,C,dx,_,_,rfl,hp,T.cl,T.nN,bX _ _,_,_,rfl,rfl,?_⟩⟩
   exact k
  | cons x r =>
   refine ⟨_,rfl,p,C,dx,_,_,rfl,hp,T.cl,T.nT,cF _ _,t,_,rfl,.inr (cR.of et),rfl,_,rfl,cN (fun z=>?_) ?_⟩
   ·have:=V.int.inj z
    rw [lv] at this
    simp at this
    omega
   ·exact k
abbrev eG:Stmt:=top 11
theorem qP:aW ["terms"] ["terms"] (au eG):=⟨rfl,rfl,rfl,by decide +kernel,rfl,by decide +kernel,by decide +kernel⟩
theorem qQ {f C:Addr} {fd:FuncData} {n:Nat} (F:iU K "turned_terms" "turned_terms" eG f fd) (T:Txt K mg C) (J:kW K mg) :cL P w K mg base iB 1 f fd ["terms"] xh:=by
 refine F.ok qP (fun vs H Q E h=>?_) (fun cdv A outer s H vs Q E hr h=>?_)
 ·obtain ⟨t,ts,rfl,ht,hz,k⟩:=h
  rfl
 ·obtain ⟨t,ts,rfl,ht,hz,k⟩:=h
  have hu:=cH hr
  rw [show az eG=[_] from rfl]
  refine ⟨_,(ay (aH (bV dS (by rfl) T.tuple boot_tuple (af (fc (ck ["thing","weight"] [] [] rfl (by decide +kernel) (by decide +kernel) (by with_unfolding_all rfl) (by exact trivial) (by rfl) rfl (by rfl)) rfl (jJ (pv 0)) (fun _ _ _ _=>(iP (K:=K) (n:=2) rfl rfl (bT (aS (i:=0) (show List.Nodup (["thing","weight"]:List Str) by decide +kernel) rfl (Or.inl rfl) (Or.inr rfl)) (bT (aS (i:=1) (show List.Nodup (["thing","weight"]:List Str) by decide +kernel) rfl (Or.inl rfl) (Or.inr rfl)) fW)))) (fun _ _ _ _=>dZ) (fun _ _ _ _=>(aM (af (pv 0) (af (fE dw (pv 1)) ai))))) ai)))),?_⟩
  refine ⟨_,rfl,t,rfl,gK ht (fun i ys H'=>aP H H'∧vB H' ys ((ts.take i).map fun q=>(q.1,-q.2))) ⟨aP.refl _,.nil⟩ (fun i ys H' q=>Kp.of q.1) ?_ ?_⟩
  ·rintro i v pr ys H' hi ⟨b,rfl,hb⟩ ⟨sm,py⟩
   have hil:i < ts.length:=(List.getElem?_eq_some_iff.mp hi).1
   refine ⟨b,_,rfl,cR.of hb,rfl,_,_,rfl,_,_,rfl,rfl,Ext.two,kR ⟨_,rfl,_,rfl,_,rfl,(szl 2),fun q hq=>⟨?_,aP.new sm hq,?_⟩⟩⟩
   ·rw [d7 py,List.length_map,List.length_take]
    exact line _ (by omega)
   ·rw [take_snoc hi,List.map_append]
    exact gk (py.keep fun _ _ z=>new hq _ _ z) (gH ⟨q,rfl,ah⟩)
  rintro ys H' ⟨sm,py⟩ q hq
  rw [List.take_length] at py
  refine ⟨q,_,rfl,.inl ⟨bz.of ah,fun r hr'=>?_⟩⟩
  have s2:=(new (o:=.lst ys) hq).trans (new (o:=.tup ys) hr')
  exact k r _ (sm.trans s2) ⟨ys,ah,py.keep fun _ _ z=>s2 _ _ z⟩
abbrev fJ:Stmt:=top 10
theorem uZ:aW ["total"] ["total"] (au fJ):=⟨rfl,rfl,rfl,by decide +kernel,rfl,by decide +kernel,by decide +kernel⟩
theorem u9 {f C:Addr} {fd:FuncData} {n:Nat} (F:iU K "other_side" "other_side" fJ f fd) (T:Txt K mg C) (J:kW K mg) (d_init:Mr P w K mg base 1 C ["self","terms","number"] (tD C)) (uz:Dn P w K mg base 1 "turned_terms" ["terms"] xh):cL P w K mg base iB 3 f fd ["total"] (xr C):=by
 obtain ⟨HS,CY,jt,IE,jo⟩:=d_init
 obtain ⟨HP,E5,uP,qR,qS,uH⟩:=uz
 refine F.ok uZ (fun vs H Q E h=>?_) (fun cdv A outer s H vs Q E hr h=>?_)
 ·obtain ⟨p,s0,rfl,S,k⟩:=h
  rfl
 ·obtain ⟨p,s0,rfl,S,k⟩:=h
  have hu:=cH hr
  rw [show az fJ=[_] from rfl]
  refine ⟨_,(ay (aH (xK IE jt (hr.mono (by first | decide | omega)) rfl T.ua jo .nil aB (af (ao uP (hr.mono (by first | decide | omega)) rfl qR qS uH .nil aB (af (dz (pv 0) rfl) ai)) (af (aR ia (fE dw (dz (pv 0) rfl)) aj) ai))))),?_⟩
  obtain ⟨dx,t,hp,ht,hz⟩:=S
  refine ⟨_,rfl,p,C,dx,_,_,rfl,hp,T.cl,T.nT,cF _ _,t,s0.1,rfl,ht,hz,fun r H1 s1 tp=>?_⟩
  refine ⟨_,rfl,p,C,dx,_,_,rfl,s1 _ _ hp,T.cl,T.nN,bX _ _,_,rfl,_,_,rfl,rfl,fun x C5 hx hdx ne=>?_⟩
  have h1:aP H1 (upd (upd H1 C5 (.own x)) x (.ins C C5 [])):=vY hx hdx
  refine ⟨x,C5,r,(tR s0).2,(tR s0).1,rfl,ah,.inr (tp.same h1),(by show (s0.1.map _).length≤1000;rw [List.length_map];exact hz),fun H2 but S2=>⟨rfl,?_⟩⟩
  exact k x H2 (fun b o z=>but b o (h1 _ _ (s1 _ _ z)) (aF (s1 _ _ z) hx)) S2
abbrev j8:Stmt:=top 28
theorem jT:aW ["_law_draw","_law_things","_law_many","_law_found","_law_k","_law_pairs","_law_divisor"] ["_law_draw","_law_things","_law_many"] (au j8):=⟨rfl,rfl,rfl,by decide +kernel,rfl,by decide +kernel,by decide +kernel⟩
seal L2.PE L2.PS L2.rR L2.PA L2.PT in
theorem DB {f C:Addr} {fd:FuncData} {n:Nat} (F:iU K "_law_sums" "_law_sums" j8 f fd) (T:Txt K mg C) (J:kW K mg) (O:mD K C) (dg:Dn P w K mg base 2 "_law_next" ["_law_draw","_law_size"] iX) (bZ:Dn P w K mg base 3 "sum_of" ["pairs","number"] (ef C)):cL P w K mg base iB 4 f fd ["_law_draw","_law_things","_law_many"] (sY C):=by
 obtain ⟨iJ,gD,bw,aT,aU,bu⟩:=dg
 obtain ⟨fq,d9,bK,aY,aZ,bD⟩:=bZ
 refine F.ok jT (fun vs H Q E h=>?_) (fun cdv A outer s H vs Q E hr h=>?_)
 ·obtain ⟨d,l,xs,m,rfl,hd,hl,hx,hm,k⟩:=h
  rfl
 ·obtain ⟨d,l,xs,m,rfl,hd,hl,hx,hm,k⟩:=h
  have hu:=cH hr
  rw [show az j8=[_,_,_] from rfl]
  refine ⟨_,(ak (bq (i:=3) jT.nd rfl (Or.inl rfl) (bP ai))
   (ak (gZ PassesOwn.never rfl (fu rfl T.range (af (pv 2) ai)) (aS (i:=4) jT.nd rfl (Or.inl rfl)) (ak (ou (i:=5) jT.nd rfl (Or.inl rfl) (ck ["_law_thing"] ["_law_draw"] [0] rfl (by decide +kernel) (by decide +kernel) (by with_unfolding_all rfl) (by exact ⟨rfl,trivial⟩) (by rfl) rfl (by rfl)) rfl (ow (pv 1)) (fun _ _ _ _=>(aS (i:=0) (show List.Nodup (["_law_thing","_law_draw"]:List Str) by decide +kernel) rfl (Or.inl rfl) (Or.inr rfl))) (fun _ _ _ _=>dZ) (fun _ _ _ _=>(aM (af (pv 0) (af (aD (oQ (K:=K) rfl) (bP (af aj (af (fE dw aj) (af aj (af aj (af (fE dw aj) ai)))))) (ao bw (hr.mono (by first | decide | omega)) rfl aT aU bu .nil aB (af (pv 1) (af aj ai))) (fun _ _=>rfl)) ai)))))
   (ak (bq (i:=6) jT.nd rfl (Or.inl rfl) (aD aI (bP (af aj (af aj (af aj (af aj (af aj ai)))))) (ao bw (hr.mono (by first | decide | omega)) rfl aT aU bu .nil aB (af (pv 0) (af aj ai))) (fun _ _=>rfl)))
   (ay (iC (mL PySem.F.plainAttrs_list PySem.F.slot_list_append PySem.F.type_list_append fY (pv 3) (af (aM (af (ao bK (hr.mono (by first | decide | omega)) rfl aY aZ bD .nil aB (af (pv 5) (af (aR ia (ao bw (hr.mono (by first | decide | omega)) rfl aT aU bu .nil aB (af (pv 0) (af aj ai))) aj) ai))) (af (pv 6) (af (ao bw (hr.mono (by first | decide | omega)) rfl aT aU bu .nil aB (af (pv 0) (af (pv 6) ai))) ai)))) ai)))))))
   (ay (aH (pv 3))))),?_⟩
  have nA:l≠d:=by
   obtain ⟨x0,y0,ed⟩:=id hd
   refine vW hl ed fun z=>?_
   cases xs with
   | nil=>cases z
   | cons a b=>cases z
  refine ⟨Nat.zero_le _,fun r hr0=>?_⟩
  have s0:=new (o:=.lst []) hr0
  have L5:r≠d:=hd.ne hr0
  refine ⟨_,rfl,(m:Int),rfl,by omega,by omega,fZ (n:=(m:Int).toNat) (fun i σ H'=>∃ (us:List V) (ds:List Dw) (o4 o5 o6:Option V),σ=[some (.ref d),some (.ref l),some (.int m),some (.ref r),o4,o5,o6]∧cA d H H'∧Dr H' d∧H' r=some (.lst us)∧Oe C H' us ds∧ds.length=i∧∀ x∈ds,Am xs x∧jE 20 x.1) ⟨[],[],none,none,none,rfl,cA.of s0,hd.same s0,ah,.nil,rfl,(fun _ h=>nomatch h)⟩ ?_ ?_⟩
  ·rintro i σ H2 hi ⟨us,ds,o4,o5,o6,rfl,F2,D2,er,Bv,dl,Bw⟩
   have el:=F2 _ _ hl nA
   have i3:i < 3:=by have:((m:Int).toNat)=m:=rfl;omega
   refine ⟨_,rfl,l,rfl,⟨_,bz.of el⟩,iy (xs:=xs.map V.str) (fun j ys H'=>cA d H2 H'∧Dr H' d∧∃ ps:Ps,vB H' ys ps∧ps.length=j∧∀ p∈ps,p.1∈xs∧p.2.natAbs≤3) ⟨(fun _ _ z _=>z),D2,[],.nil,rfl,(fun _ h=>nomatch h)⟩ (fun j ys H' _ q=>bz.of (q.1 _ _ el nA)) ?_ ?_⟩
   ·rintro j v ys H3 hj ⟨b3,d3,ps,pr,pl,pin⟩
    obtain ⟨x,hxj,rfl⟩:∃ x,xs[j]?=some x∧v=V.str x:=by
     rw [List.getElem?_map] at hj
     cases q:xs[j]? with
     | none=>rw [q] at hj;cases hj
     | some y=>rw [q] at hj;cases hj;exact ⟨y,rfl,rfl⟩
    have hjl:j < xs.length:=(List.getElem?_eq_some_iff.mp hxj).1
    refine ⟨Ext.one,kR ⟨_,rfl,_,rfl,_,rfl,(szl 5),fun q hq=>⟨_,rfl,d,5,rfl,d3.same (new hq),(by decide),fun rr H4 h4 b4 d4=>?_⟩⟩⟩
    obtain ⟨z,hz,z3⟩:∃ z:Int,([V.int 1,V.int (-1),V.int 0,V.int 2,V.int (-3)]:List V)[rr]?=some (V.int z)∧z.natAbs≤3:=by
     have:rr=0∨rr=1∨rr=2∨rr=3∨rr=4:=by omega
     rcases this with e | e | e | e | e <;> subst e <;> exact ⟨_,rfl,by decide⟩
    have nq:q≠d:=d3.ne hq
    refine ⟨q,_,_,_,rfl,rfl,bz.of (b4 _ _ ah nq),aK hz,(szl 2),fun t ht=>⟨?_,((b3.new hq).trans b4).new ht,d4.same (new ht),ps++[(x,z)],?_,?_,fun p hp=>?_⟩⟩
    ·rw [d7 pr,pl];exact line _ (by omega)
    ·have h34:aQ H3 H4:=(aQ.of (new hq)).trans ((d3.same (new hq)).soft b4)
     exact gk (pr.keep fun _ _ z=>new ht _ _ (h34.t _ _ z)) (gH ⟨t,rfl,ah⟩)
    ·rw [List.length_append,pl];rfl
    ·rcases List.mem_append.mp hp with z | z
     ·exact pin p z
     ·rw [List.mem_singleton.mp z];exact ⟨List.mem_of_getElem? hxj,z3⟩
   rintro ys H3 ⟨b3,d3,ps,pr,pl,pin⟩ q hq
   rw [List.length_map] at pl
   have nq:q≠d:=d3.ne hq
   have sq:=new (o:=.lst ys) hq
   have hA:aQ H2 (upd H3 q (.lst ys)):=(D2.soft b3).trans (aQ.of sq)
   have bA:=b3.trans (cA.of sq)
   have dA:=d3.same sq
   have eq0:(upd H3 q (.lst ys)) q=some (.lst ys):=ah
   have prA:=pr.keep fun _ _ z=>sq _ _ z
   generalize upd H3 q (.lst ys)=H4 at sq hA bA dA eq0 prA ⊢
   refine ⟨(szl 5),fun q2 hq2=>⟨_,rfl,d,5,rfl,dA.same (new hq2),(by decide),fun r1 H5 h5 b5 d5=>?_⟩⟩
   obtain ⟨dv,hdv,dv1,dv5⟩:∃ z:Int,([V.int 1,V.int 1,V.int 2,V.int 3,V.int 5]:List V)[r1]?=some (V.int z)∧1≤z∧z≤5:=by
    have:r1=0∨r1=1∨r1=2∨r1=3∨r1=4:=by omega
    rcases this with e | e | e | e | e <;> subst e <;> exact ⟨_,rfl,by decide,by decide⟩
   refine ⟨q2,_,_,_,rfl,rfl,bz.of (b5 _ _ ah (dA.ne hq2)),aK hdv,?_⟩
   have bB:=(bA.new hq2).trans b5
   have hB:aQ H4 H5:=(aQ.of (new hq2)).trans ((dA.same (new hq2)).soft b5)
   have erB:=bB _ _ er L5
   have eqB:H5 q=some (.lst ys):=b5 _ _ (new hq2 _ _ eq0) nq
   refine ⟨_,rfl,.inl ⟨rfl,_,bz.of erB⟩,_,rfl,_,rfl,d,9,rfl,d5,(by decide),fun r2 H6 h6 b6 d6=>⟨_,_,rfl,rfl,?_⟩⟩
   have hC:=hB.trans (d5.soft b6)
   refine ⟨q,_,ps,rfl,.inl ⟨ys,b6 _ _ eqB nq,prA.keep hC.t⟩,by omega,fun p ts H7 s7 g tl S=>⟨_,rfl,_,rfl,_,rfl,d,dv,rfl,d6.same s7,by omega,fun r3 H8 h8 b8 d8=>⟨(szl 3),fun t ht=>?_⟩⟩⟩
   have bC:=((bB.trans b6).trans (cA.of s7)).trans b8
   have h78:=(d6.same s7).soft b8
   have sT:=new (o:=.tup [.ref p,.int dv,.int r3]) ht
   have erC:=sT _ _ (bC _ _ er L5)
   have GK:=aA Bv
   refine ⟨r,_,_,rfl,rfl,erC,line _ (by omega),?_⟩
   have hU:=gi (ys:=us++[V.ref t]) erC
   have hD:aQ H2 (upd (upd H8 t (.tup [.ref p,.int dv,.int r3])) r (.lst (us++[V.ref t]))):=((((hA.trans hC).trans (aQ.of s7)).trans h78).trans (aQ.of sT)).trans hU
   refine ⟨us++[V.ref t],ds++[((ts,(r2:Int) - 4),dv,(r3:Int))],_,_,_,rfl,fun b o e n=>?_,?_,ah,bR (Bv.aN hD) ⟨t,p,rfl,hU.t _ _ ah,((S.aN h78).same sT).aN hU⟩,?_,fun x hx'=>?_⟩
   ·rw [aL (aF e hr0)]
    exact sT _ _ ((F2.trans bC) b o e n)
   ·obtain ⟨x8,y8,q8⟩:=d8
    exact ⟨x8,y8,by rw [aL L5.symm];exact sT _ _ q8⟩
   ·rw [List.length_append,dl];rfl
   ·rcases List.mem_append.mp hx' with z | z
    ·exact Bw x z
    ·rw [List.mem_singleton.mp z]
     refine ⟨⟨qo g fun t ht=>?_,dv1,dv5,by show (0:Int)≤(r3:Int);omega,by show (r3:Int) < dv;exact h8⟩,Ii g (fun p hp=>(pin p hp).2) (by omega) (by omega)⟩
     obtain ⟨p0,hp0,rfl⟩:=List.mem_map.mp ht
     exact (pin p0 hp0).1
  ·rintro σ H' ⟨us,ds,o4,o5,o6,rfl,F2,D2,er,Bv,dl,Bw⟩
   exact ⟨_,rfl,k r us ds H' F2 D2 hr0 er Bv dl Bw⟩
abbrev kc:Stmt:=top 29
theorem jV:aW ["_law_draw","_law_sums_here","_law_more","_law_weights","_law_found","_law_k"] ["_law_draw","_law_sums_here","_law_more"] (au kc):=⟨rfl,rfl,rfl,by decide +kernel,rfl,by decide +kernel,by decide +kernel⟩
seal L2.PE L2.PS L2.rR L2.PA L2.PT in
theorem DE {f C:Addr} {fd:FuncData} {n:Nat} (F:iU K "_law_last" "_law_last" kc f fd) (T:Txt K mg C) (J:kW K mg) (O:mD K C) (dg:Dn P w K mg base 2 "_law_next" ["_law_draw","_law_size"] iX) (bZ:Dn P w K mg base 3 "sum_of" ["pairs","number"] (ef C)) (Bx:Mt P w K mg base 5 C "less" ["self","other"] (xx C)) (oV:Mt P w K mg base 4 C "times" ["self","number"] (nW C)):cL P w K mg base iB 6 f fd ["_law_draw","_law_sums_here","_law_more"] (tu C):=by
 obtain ⟨iJ,gD,bw,aT,aU,bu⟩:=dg
 obtain ⟨fq,d9,bK,aY,aZ,bD⟩:=bZ
 obtain ⟨MQ,J8,kO,xR,kM⟩:=Bx
 obtain ⟨C0,zT,eX,jz,eW⟩:=oV
 refine F.ok jV (fun vs H Q E h=>?_) (fun cdv A outer s H vs Q E hr h=>?_)
 ·obtain ⟨d,l,p,xs,us,ds,s0,rfl,hd,hl,Bv,d3,Bw,hx,S0,g0,k⟩:=h
  rfl
 ·obtain ⟨d,l,p,xs,us,ds,s0,rfl,hd,hl,Bv,d3,Bw,hx,S0,g0,k⟩:=h
  have hu:=cH hr
  rw [show az kc=[_,_,_,_] from rfl]
  refine ⟨_,(ak (ou (i:=3) jV.nd rfl (Or.inl rfl) (ck ["_law_one"] ["_law_draw"] [0] rfl (by decide +kernel) (by decide +kernel) (by with_unfolding_all rfl) (by exact ⟨rfl,trivial⟩) (by rfl) rfl (by rfl)) rfl (ow (pv 1)) (fun _ _ _ _=>(aS (i:=0) (show List.Nodup (["_law_one","_law_draw"]:List Str) by decide +kernel) rfl (Or.inl rfl) (Or.inr rfl))) (fun _ _ _ _=>dZ) (fun _ _ _ _=>(aR cS aj (ao bw (hr.mono (by first | decide | omega)) rfl aT aU bu .nil aB (af (pv 1) (af aj ai))))))
   (ak (bq (i:=4) jV.nd rfl (Or.inl rfl) (fX (ao bK (hr.mono (by first | decide | omega)) rfl aY aZ bD .nil aB (af (aM ai) (af (aR ia (fE dw aj) (ao bw (hr.mono (by first | decide | omega)) rfl aT aU bu .nil aB (af (pv 0) (af aj ai)))) ai))) T.cl xR kO (hr.mono (by first | decide | omega)) kM .nil aB (af (pv 2) ai)))
   (ak (gZ PassesOwn.never rfl (fu rfl T.range (af (aJ aG (by rfl) T.len PySem.boot_len (af (pv 1) ai)) ai)) (aS (i:=5) jV.nd rfl (Or.inl rfl)) (ay (bq (i:=4) jV.nd rfl (Or.inl rfl) (fX (pv 4) T.cl xR kO (hr.mono (by first | decide | omega)) kM .nil aB (af (fX (aD ic (aD aI (pv 1) (pv 5) (fun _ _=>rfl)) aj (fun _ _=>rfl)) T.cl jz eX (hr.mono (by first | decide | omega)) eW .nil aB (af (aD aI (pv 3) (pv 5) (fun _ _=>rfl)) ai)) ai)))))
   (ay (aH (aM (af (pv 4) (af (pv 3) ai)))))))),?_⟩
  have GK:=aA Bv
  have nA:l≠d:=by
   obtain ⟨x0,y0,ed⟩:=id hd
   refine vW hl ed fun z=>?_
   have e:us=[V.int x0,V.int y0]:=HO.lst.inj z
   rw [e] at Bv
   cases Bv with
   | cons h _=>obtain ⟨_,_,e,_⟩:=h;cases e
  refine ⟨_,rfl,l,rfl,⟨_,bz.of hl⟩,iy (xs:=us) (fun j ys H'=>cA d H H'∧Dr H' d∧∃ ws:List Int,ys=ws.map V.int∧ws.length=j∧∀ w∈ws,1≤w∧w≤3) ⟨(fun _ _ z _=>z),hd,[],rfl,rfl,(fun _ h=>nomatch h)⟩ (fun j ys H' _ q=>bz.of (q.1 _ _ hl nA)) ?_ ?_⟩
  ·rintro j v ys H3 hj ⟨b3,e3,ws,rfl,wl,wb⟩
   have hjl:j < us.length:=(List.getElem?_eq_some_iff.mp hj).1
   refine ⟨Ext.one,kR ⟨_,rfl,d,3,rfl,e3,(by decide),fun rr H4 h4 b4 e4=>⟨_,_,rfl,rfl,?_,b3.trans b4,e4,ws++[1+(rr:Int)],?_,?_,fun w hw=>?_⟩⟩⟩
   ·rw [List.length_map,wl];exact line _ (by omega)
   ·rw [List.map_append];rfl
   ·rw [List.length_append,wl];rfl
   ·rcases List.mem_append.mp hw with z | z
    ·exact wb w z
    ·rw [List.mem_singleton.mp z];omega
  rintro ys H1 ⟨b1,e1,ws,rfl,wl,wb⟩ q hq
  have Xx:q≠d:=e1.ne hq
  have NO:H q=none:=tV b1 e1 hq
  have sq:=new (o:=.lst (ws.map V.int)) hq
  have b1:=b1.trans (cA.of sq)
  have e1:=e1.same sq
  have eq1:(upd H1 q (.lst (ws.map V.int))) q=some (.lst (ws.map V.int)):=ah
  generalize upd H1 q (.lst (ws.map V.int))=H1 at sq b1 e1 eq1 ⊢
  refine ⟨Nat.zero_le _,fun t0 ht0=>⟨_,rfl,_,rfl,d,3,rfl,e1.same (new ht0),(by decide),fun r2 H2 h2 b2 e2=>⟨_,_,rfl,rfl,?_⟩⟩⟩
  have nt0:t0≠d:=e1.ne ht0
  refine ⟨t0,_,[],rfl,.inr ⟨[],b2 _ _ ah nt0,.nil⟩,by decide,fun r3 ts H3 s3 g3 tl3 S3=>?_⟩
  have bB:cA d H H3:=((b1.new ht0).trans b2).trans (cA.of s3)
  have eB:=e2.same s3
  have hAB:aQ H1 H3:=((aQ.of (new ht0)).trans ((e1.same (new ht0)).soft b2)).trans (aQ.of s3)
  have S0B:=S0.aN (hd.soft bB)
  have eqB:H3 q=some (.lst (ws.map V.int)):=s3 _ _ (b2 _ _ (new ht0 _ _ eq1) Xx)
  obtain ⟨N6,gts,N5⟩:=yb (xs:=xs) (n:=(-1 - (r2:Int))) g3
  obtain ⟨Z2,t3,ep3,_,_⟩:=id S3
  have l0:=g0.len (Nat.le_trans hx (by decide))
  refine ⟨r3,Z2,_,rfl,ep3,eS _ _ (by decide +kernel) (by decide +kernel),_,rfl,r3,p,ts,s0.1,_,s0.2,rfl,S3,S0B,(by rw [N6];show 0+s0.1.length < 64;omega),fun r4 ts4 H4 s4 g4 tl4 S4=>?_⟩
  obtain ⟨gm4,ev4⟩:=CT gts g0 g4
  have bC:=bB.trans (cA.of s4)
  have eC:=eB.same s4
  have hlC:=bC _ _ hl nA
  have Ks:=Bv.aN (hd.soft bC)
  have eqC:=s4 _ _ eqB
  refine ⟨_,rfl,l,_,rfl,.inl (bz.of hlC),(us.length:Int),rfl,by omega,by omega,fZ (n:=(us.length:Int).toNat) (fun i σ H'=>∃ (o5:Option V) (r:Addr) (t:Sm),σ=[some (.ref d),some (.ref l),some (.ref p),some (.ref q),some (.ref r),o5]∧aP H4 H'∧cJ C H' r t.1 t.2∧Gm xs t∧∀ f,ev t f=(-1 - (r2:Int)) - ev s0 f - wsum f (ws.take i) (ds.take i)) ⟨none,r4,(ts4,_),rfl,aP.refl _,S4,gm4,fun f=>?_⟩ ?_ ?_⟩
  ·rw [ev4,N5]
   show _=-1 - (r2:Int) - ev s0 f - 0
   show (-1 - (r2:Int)) - ev s0 f=_
   omega
  ·rintro i σ H' hi ⟨o5,r,t,rfl,sL,Sr,gt,hev⟩
   have iu:i < us.length:=hi
   obtain ⟨x,ex,tq,ps,rfl',Kg,Sx⟩:=bf Ks (List.getElem?_eq_getElem iu)
   have eu:us[i]?=some (.ref tq):=by rw [List.getElem?_eq_getElem iu,rfl']
   obtain ⟨gx,_,_,_,_⟩:=Bw x (List.mem_of_getElem? ex)
   have iw:i < ws.length:=by omega
   have ew:=List.getElem?_eq_getElem iw
   obtain ⟨w1,w3⟩:=wb _ (List.getElem_mem iw)
   generalize ws[i]=w0 at ew w1 w3
   have ewV:(ws.map V.int)[i]?=some (V.int w0):=by rw [List.getElem?_map,ew];rfl
   obtain ⟨Z1,tr,epr,_,_⟩:=id Sr
   have Sx:=Sx.same sL
   obtain ⟨dxs,tss,eps,_,_⟩:=id Sx
   have lx:=gx.len (Nat.le_trans hx (by decide))
   have lt:=gt.len (Nat.le_trans hx (by decide))
   refine ⟨_,rfl,r,Z1,_,rfl,epr,eS _ _ (by decide +kernel) (by decide +kernel),_,rfl,_,rfl,l,_,_,_,rfl,rfl,bz.of (sL _ _ hlC),qM eu,tq,_,0,_,rfl,rfl,cR.of (sL _ _ Kg),rfl,ps,dxs,_,rfl,eps,eS _ _ (by decide +kernel) (by decide +kernel),_,rfl,_,rfl,q,_,_,_,rfl,rfl,bz.of (sL _ _ eqC),qM ewV,?_⟩
   refine ⟨ps,x.1.1,x.1.2,w0,rfl,Sx,by omega,⟨by omega,by omega⟩,fun r5 NB H5 s5 g5 Oj S5=>?_⟩
   obtain ⟨Tz,Uo⟩:=zN gx g5
   refine ⟨r,r5,t.1,NB,t.2,_,rfl,Sr.same s5,S5,by omega,fun r6 KU H6 s6 g6 NC S6=>?_⟩
   obtain ⟨gm6,Um⟩:=CT gt Tz g6
   refine ⟨_,r6,(KU,_),rfl,(sL.trans s5).trans s6,S6,gm6,fun f=>?_⟩
   have e1:ws.take (i+1)=ws.take i++[w0]:=take_snoc ew
   have e2:ds.take (i+1)=ds.take i++[x]:=take_snoc ex
   rw [Um,Uo,hev,e1,e2,wsum_snoc f w0 x (by rw [List.length_take,List.length_take];omega)]
   show _=-1 - (r2:Int) - ev s0 f - (wsum f (List.take i ws) (List.take i ds)+w0*ev x.1 f)
   rw [Int.mul_comm w0]
   show (-1 - (r2:Int) - ev s0 f - wsum f (List.take i ws) (List.take i ds)) - ev x.1 f*w0=_
   omega
  rintro σ H' ⟨o5,r,t,rfl,sL,Sr,gt,hev⟩
  have hev:∀ f,ev t f=(-1 - (r2:Int)) - ev s0 f - wsum f ws ds:=fun f=>by
   have:=hev f
   rw [show ((us.length:Int)).toNat=us.length from rfl,List.take_of_length_le (by omega),List.take_of_length_le (by omega)] at this
   exact this
  refine ⟨_,rfl,_,rfl,(szl 2),fun tt Mw=>?_⟩
  have sT:=new (o:=.tup [.ref r,.ref q]) Mw
  have bE:cA d H H':=bC.trans (cA.of sL)
  have eE:Dr H' d:=eC.same sL
  exact k tt r q t ws (-1 - (r2:Int)) _ (bE.trans (cA.of sT)) (eE.same sT) (tV bE eE Mw) ah NO (sT _ _ (sL _ _ eqC)) (Sr.same sT) gt ⟨by omega,wb⟩ ⟨by omega,by omega⟩ hev
abbrev fM:Stmt:=top 21
theorem u6:aW ["what"] ["what"] (au fM):=⟨rfl,rfl,rfl,by decide +kernel,rfl,by decide +kernel,by decide +kernel⟩
theorem vd {f C:Addr} {fd:FuncData} {n:Nat} (F:iU K "is_several" "is_several" fM f fd) (T:Txt K mg C) (J:kW K mg) (O:mD K C) :cL P w K mg base iB 1 f fd ["what"] (mX C):=by
 refine F.ok u6 (fun vs H Q E h=>?_) (fun cdv A outer s H vs Q E hr h=>?_)
 ·obtain ⟨v,o,rfl,ho,k⟩:=h
  rfl
 ·obtain ⟨v,o,rfl,ho,k⟩:=h
  have hu:=cH hr
  rw [show az fM=[_] from rfl]
  refine ⟨_,(ay (aH (aJ mw (by rfl) T.isinstance boot_isinstance (af (pv 0) (af (aM (af (fF (v:=.ty "list") rfl T.list boot_list rfl) (af (fF (v:=.ty "tuple") rfl T.tuple boot_tuple rfl) ai))) ai))))),?_⟩
  refine ⟨_,rfl,(szl 2),fun t ht=>?_⟩
  obtain ⟨ty,h1,h2,_⟩:=(ho.same (new ht)).ty T O
  exact ⟨v,ty,t,_,"list","tuple",rfl,h1,cR.of ah,h2,k _ (new ht)⟩
abbrev gp:Stmt:=top 3
theorem xD:aW ["what"] ["what"] (au gp):=⟨rfl,rfl,rfl,by decide +kernel,rfl,by decide +kernel,by decide +kernel⟩
theorem oB {f C:Addr} {fd:FuncData} {n:Nat} (F:iU K "is_number" "is_number" gp f fd) (T:Txt K mg C) (J:kW K mg) (O:mD K C) :cL P w K mg base iB 1 f fd ["what"] (n5 C):=by
 refine F.ok xD (fun vs H Q E h=>?_) (fun cdv A outer s H vs Q E hr h=>?_)
 ·obtain ⟨v,o,rfl,ho,k⟩:=h
  rfl
 ·obtain ⟨v,o,rfl,ho,k⟩:=h
  have hu:=cH hr
  rw [show az gp=[_] from rfl]
  refine ⟨_,(ay (aH (dc (aJ (iK (c:=.ty "int") trivial) (by rfl) T.isinstance boot_isinstance (af (pv 0) (af (fF (v:=.ty "int") rfl T.int boot_int rfl) ai))) (gu (Gk (aJ (iK (c:=.ty "bool") trivial) (by rfl) T.isinstance boot_isinstance (af (pv 0) (af (fF (v:=.ty "bool") rfl J.bool boot_bool rfl) ai)))))))),?_⟩
  obtain ⟨ty,h1,_,_,h4,h5,_⟩:=ho.ty T O
  refine ⟨_,rfl,_,ty,_,_,rfl,h1,rfl,h4,_,rfl,?_⟩
  rw [GB] at k
  cases hi:G2 o with
  | false =>
   rw [hi] at k
   exact dO k
  | true =>
   rw [hi] at k
   exact cT ⟨_,rfl,_,ty,_,_,rfl,h1,rfl,h5 hi,_,rfl,k⟩
abbrev e8:Stmt:=top 18
theorem tF:aW ["what"] ["what"] (au e8):=⟨rfl,rfl,rfl,by decide +kernel,rfl,by decide +kernel,by decide +kernel⟩
theorem tU {f C:Addr} {fd:FuncData} {n:Nat} (F:iU K "is_from_one" "is_from_one" e8 f fd) (T:Txt K mg C) (J:kW K mg) (O:mD K C) (fQ:Dn P w K mg base 1 "is_number" ["what"] (n5 C)):cL P w K mg base iB 2 f fd ["what"] (n8 C):=by
 obtain ⟨lV,kI,fT,fh,fk,fR⟩:=fQ
 refine F.ok tF (fun vs H Q E h=>?_) (fun cdv A outer s H vs Q E hr h=>?_)
 ·obtain ⟨v,o,rfl,ho,k⟩:=h
  rfl
 ·obtain ⟨v,o,rfl,ho,k⟩:=h
  have hu:=cH hr
  rw [show az e8=[_] from rfl]
  refine ⟨_,(ay (aH (dc (ao fT (hr.mono (by first | decide | omega)) rfl fh fk fR .nil aB (af (pv 0) ai)) (gu (cG K5 (pv 0) aj (aO _)))))),?_⟩
  refine ⟨_,rfl,v,o,rfl,ho,_,rfl,?_⟩
  unfold jB at k
  cases hn:gJ o with
  | none =>
   rw [hn] at k
   exact dO k
  | some i =>
   rw [hn] at k
   obtain rfl:=CD ho hn
   exact cT ⟨_,rfl,_,_,rfl,rfl,k⟩
abbrev gX:Stmt:=top 19
theorem za:aW ["lines","what"] ["lines","what"] (au gX):=⟨rfl,rfl,rfl,by decide +kernel,rfl,by decide +kernel,by decide +kernel⟩
theorem zq {f C:Addr} {fd:FuncData} {n:Nat} (F:iU K "is_ahead" "is_ahead" gX f fd) (T:Txt K mg C) (J:kW K mg) (O:mD K C) (fQ:Dn P w K mg base 1 "is_number" ["what"] (n5 C)):cL P w K mg base iB 2 f fd ["lines","what"] (xB C):=by
 obtain ⟨lV,kI,fT,fh,fk,fR⟩:=fQ
 refine F.ok za (fun vs H Q E h=>?_) (fun cdv A outer s H vs Q E hr h=>?_)
 ·obtain ⟨L,us,v,o,rfl,hL,ho,k⟩:=h
  rfl
 ·obtain ⟨L,us,v,o,rfl,hL,ho,k⟩:=h
  have hu:=cH hr
  rw [show az gX=[_] from rfl]
  refine ⟨_,(ay (aH (dc (ao fT (hr.mono (by first | decide | omega)) rfl fh fk fR .nil aB (af (pv 1) ai)) (gu (Gq O3 mO aj (pv 1) (aJ aG (by rfl) T.len PySem.boot_len (af (pv 0) ai))))))),?_⟩
  refine ⟨_,rfl,v,o,rfl,ho,_,rfl,?_⟩
  unfold Dj at k
  cases hn:gJ o with
  | none =>
   rw [hn] at k
   exact dO k
  | some i =>
   rw [hn] at k
   obtain rfl:=CD ho hn
   refine cT ⟨_,rfl,_,_,rfl,rfl,_,rfl,?_⟩
   by_cases h0:0≤i
   ·have e:(decide (0≤i) && decide (i < (us.length:Int)))=decide (i < (us.length:Int)):=by rw [decide_eq_true h0,Bool.true_and]
    have k:Q (.bl (decide (0≤i) && decide (i < (us.length:Int)))) H:=k
    rw [e] at k
    exact cM h0 ⟨_,rfl,L,_,rfl,.inl (bz.of hL),_,_,rfl,rfl,k⟩
   ·have k:Q (.bl (decide (0≤i) && decide (i < (us.length:Int)))) H:=k
    rw [decide_eq_false h0,Bool.false_and] at k
    exact cN h0 k
abbrev fK:Stmt:=top 17
theorem u5:aW ["lines","pair"] ["lines","pair"] (au fK):=⟨rfl,rfl,rfl,by decide +kernel,rfl,by decide +kernel,by decide +kernel⟩
theorem vc {f C:Addr} {fd:FuncData} {n:Nat} (F:iU K "is_weighed" "is_weighed" fK f fd) (T:Txt K mg C) (J:kW K mg) (O:mD K C) (dP:Dn P w K mg base 1 "is_several" ["what"] (mX C)) (jL:Dn P w K mg base 2 "is_from_one" ["what"] (n8 C)) (nI:Dn P w K mg base 2 "is_ahead" ["lines","what"] (xB C)):cL P w K mg base iB 3 f fd ["lines","pair"] (mW C):=by
 obtain ⟨iT,iD,cX,cO,cP,cW⟩:=dP
 obtain ⟨vm,ux,jO,jj,jm,jM⟩:=jL
 obtain ⟨Br,zW,nO,lM,lT,nK⟩:=nI
 refine F.ok u5 (fun vs H Q E h=>?_) (fun cdv A outer s H vs Q E hr h=>?_)
 ·obtain ⟨L,us,v,o,rfl,hL,ho,k⟩:=h
  rfl
 ·obtain ⟨L,us,v,o,rfl,hL,ho,k⟩:=h
  have hu:=cH hr
  rw [show az fK=[_] from rfl]
  refine ⟨_,(ay (aH (dc (ao cX (hr.mono (by first | decide | omega)) rfl cO cP cW .nil aB (af (pv 1) ai)) (dc (cG cU (aJ aG (by rfl) T.len PySem.boot_len (af (pv 1) ai)) aj (aO _)) (dc (ao jO (hr.mono (by first | decide | omega)) rfl jj jm jM .nil aB (af (aD aX (pv 1) aj (fun _ _=>rfl)) ai)) (gu (ao nO (hr.mono (by first | decide | omega)) rfl lM lT nK .nil aB (af (pv 0) (af (aD aX (pv 1) aj (fun _ _=>rfl)) ai))))))))),?_⟩
  refine ⟨_,rfl,v,o,rfl,ho,fun H1 s1=>⟨_,rfl,?_⟩⟩
  cases o with
  | sc u=>exact dO (k _ s1)
  | sm s=>exact dO (k _ s1)
  | sq ys =>
   obtain ⟨a,ws,rfl,sq,hp⟩:=cY (ho.same s1)
   have lp:=aA hp
   refine cT ⟨_,rfl,a,_,rfl,lP sq,rfl,_,rfl,?_⟩
   by_cases h2:ys.length=2
   ·obtain ⟨p,q,rfl⟩:=v8 h2
    obtain ⟨u1,u2,rfl,o1,o2⟩:=jI hp
    refine cM rfl ⟨_,rfl,gA sq rfl ⟨u1,p,rfl,o1,_,rfl,?_⟩⟩
    have k:=k _ s1
    rw [wW] at k
    cases hf:jB p with
    | false =>
     rw [hf] at k
     exact dO k
    | true =>
     rw [hf] at k
     exact cT ⟨_,rfl,_,rfl,gA sq rfl ⟨L,us,u2,q,rfl,s1 _ _ hL,o2,k⟩⟩
   ·have k:=k _ s1
    rw [wX h2] at k
    exact cN (fun z=>h2 (by have:=V.int.inj z;omega)) k
abbrev di:Stmt:=top 20
theorem om:aW ["total","divisor"] ["total","divisor"] (au di):=⟨rfl,rfl,rfl,by decide +kernel,rfl,by decide +kernel,by decide +kernel⟩
theorem oE {f C:Addr} {fd:FuncData} {n:Nat} (F:iU K "can_be_divided" "can_be_divided" di f fd) (T:Txt K mg C) (J:kW K mg) (O:mD K C) :cL P w K mg base iB 1 f fd ["total","divisor"] (pR C):=by
 refine F.ok om (fun vs H Q E h=>?_) (fun cdv A outer s H vs Q E hr h=>?_)
 ·obtain ⟨p,ts,n,d,rfl,S,hd,k⟩:=h
  rfl
 ·obtain ⟨p,ts,n,d,rfl,S,hd,k⟩:=h
  have hu:=cH hr
  rw [show az di=[_] from rfl]
  refine ⟨_,(ay (aH (aJ (o9 rfl) (by rfl) J.all boot_all (af (fc (ck ["thing","weight"] ["divisor"] [1] rfl (by decide +kernel) (by decide +kernel) (by with_unfolding_all rfl) (by exact ⟨rfl,trivial⟩) (by rfl) rfl (by rfl)) rfl (jJ (dz (pv 0) rfl)) (fun _ _ _ _=>(iP (K:=K) (n:=2) rfl rfl (bT (aS (i:=0) (show List.Nodup (["thing","weight","divisor"]:List Str) by decide +kernel) rfl (Or.inl rfl) (Or.inr rfl)) (bT (aS (i:=1) (show List.Nodup (["thing","weight","divisor"]:List Str) by decide +kernel) rfl (Or.inl rfl) (Or.inr rfl)) fW)))) (fun _ _ _ _=>dZ) (fun _ _ _ _=>(cG cU (aR pZ (pv 1) (pv 2)) aj (aO _)))) ai)))),?_⟩
  obtain ⟨dx,t,hp,ht,hz⟩:=S
  refine ⟨_,rfl,p,C,dx,_,_,rfl,hp,T.cl,T.nT,cF _ _,t,rfl,gK ht (fun i ys H'=>H'=H∧ys=((ts.take i).map fun q=>decide (q.2 % d=0)).map V.bl) ⟨rfl,rfl⟩ (fun i ys H' q=>q.1 ▸ Kp.refl) ?_ ?_⟩
  ·rintro i v pr ys H' hi ⟨a,rfl,ha⟩ ⟨rfl,rfl⟩
   have hil:i < ts.length:=(List.getElem?_eq_some_iff.mp hi).1
   refine ⟨a,_,rfl,cR.of ha,rfl,_,_,rfl,_,_,rfl,rfl,Ext.two,kR ⟨_,rfl,_,rfl,_,_,rfl,rfl,(show 0 < d by omega),rfl,?_,rfl,?_⟩⟩
   ·rw [List.length_map,List.length_map,List.length_take];exact line _ (by omega)
   ·rw [take_snoc hi,List.map_append,List.map_append,Il]
    rfl
  ·rintro ys H' ⟨rfl,rfl⟩ q hq
   refine ⟨q,_,rfl,bz.of ah,?_⟩
   rw [List.take_length]
   have k:=k _ (new (o:=.lst ((ts.map fun q=>decide (q.2 % d=0)).map V.bl)) hq)
   rw [List.all_map]
   exact k
abbrev kg:Stmt:=top 22
theorem vQ:aW ["what","things"] ["what"] (au kg):=⟨rfl,rfl,rfl,by decide +kernel,rfl,by decide +kernel,by decide +kernel⟩
theorem DF {f C:Addr} {fd:FuncData} {n:Nat} (F:iU K "is_sum" "is_sum" kg f fd) (T:Txt K mg C) (J:kW K mg) (O:mD K C) (fQ:Dn P w K mg base 1 "is_number" ["what"] xy) (Eo:Dn P w K mg base 2 "is_term" ["pair"] tw):cL P w K mg base iB 3 f fd ["what"] (nZ C):=by
 obtain ⟨lV,kI,fT,fh,fk,fR⟩:=fQ
 obtain ⟨N3,MO,EO,A3,Be,EG⟩:=Eo
 refine F.ok vQ (fun vs H Q E h=>?_) (fun cdv A outer s H vs Q E hr h=>?_)
 ·obtain ⟨v,o,rfl,ho,hc,k⟩:=h
  rfl
 ·obtain ⟨v,o,rfl,ho,hc,k⟩:=h
  have hu:=cH hr
  rw [show az kg=[_,_,_,_] from rfl]
  refine ⟨_,(ak (cE (PW.pt (jg (eT (cZ (aJ (iK (c:=.ref C) trivial) (by rfl) T.isinstance boot_isinstance (af (pv 0) (af (xM (v:=.ref C) rfl T.ua rfl) ai))))) (jf (eT (cZ (ao fT (hr.mono (by first | decide | omega)) rfl fh fk fR .nil aB (af (dz (pv 0) rfl) ai))))))) (ay (aH fG)) bN)
   (ak (cE (eT (cZ (aJ (o9 rfl) (by rfl) J.all boot_all (af (fc (ck ["pair"] [] [] rfl (by decide +kernel) (by decide +kernel) (by with_unfolding_all rfl) (by exact trivial) (by rfl) rfl (by rfl)) rfl (jJ (dz (pv 0) rfl)) (fun _ _ _ _=>(aS (i:=0) (show List.Nodup (["pair"]:List Str) by decide +kernel) rfl (Or.inl rfl) (Or.inr rfl))) (fun _ _ _ _=>dZ) (fun _ _ _ _=>(ao EO (hr.mono (by first | decide | omega)) rfl A3 Be EG .nil aB (af (pv 0) ai)))) ai)))) (ay (aH fG)) bN)
   (ak (ou (i:=1) vQ.nd rfl (Or.inl rfl) (ck ["pair"] [] [] rfl (by decide +kernel) (by decide +kernel) (by with_unfolding_all rfl) (by exact trivial) (by rfl) rfl (by rfl)) rfl (jJ (dz (pv 0) rfl)) (fun _ _ _ _=>(aS (i:=0) (show List.Nodup (["pair"]:List Str) by decide +kernel) rfl (Or.inl rfl) (Or.inr rfl))) (fun _ _ _ _=>dZ) (fun _ _ _ _=>(aD (xY (K:=K) rfl) (pv 0) aj (fun _ _=>rfl))))
   (ay (aH (cG (L3 1 (uL hr)) (pv 1) (aJ (yv rfl) (by rfl) T.sorted boot_sorted (af (bV (Ew rfl) (by rfl) J.set PyProof.Rows.boot_set (af (pv 1) ai)) ai)) (aO _))))))),?_⟩
  obtain ⟨ty,h1,_,_,_,_,h6⟩:=ho.ty T O
  cases o with
  | sc u=>exact ⟨_,rfl,_,ty,_,_,rfl,h1,rfl,h6,_,rfl,cT (cT (k _ (aP.refl _)))⟩
  | sq l=>exact ⟨_,rfl,_,ty,_,_,rfl,h1,rfl,h6,_,rfl,cT (cT (k _ (aP.refl _)))⟩
  | sm s =>
   skip
   obtain ⟨p,rfl,S⟩:=LL ho
   obtain ⟨cn,hl⟩:=hc s rfl
   have k:∀ H',aP H H'→Q (.bl true) H':=k
   obtain ⟨ts,n0⟩:=s
   have hl:ts.length≤6:=hl
   obtain ⟨dx,t,hp,ht,hz⟩:=S
   refine ⟨_,rfl,_,_,_,true,rfl,T.ins hp,rfl,T.kS,true,rfl,yR rfl ⟨_,rfl,p,C,dx,_,_,rfl,hp,T.cl,T.nN,bX _ _,n0,rfl,true,rfl,yR rfl ?_⟩⟩
   refine ⟨_,rfl,p,C,dx,_,_,rfl,hp,T.cl,T.nT,cF _ _,t,rfl,gK ht (fun i ys H'=>H'=H∧ys=(List.replicate i true).map V.bl) ⟨rfl,rfl⟩ (fun i ys H' q=>q.1 ▸ Kp.refl) ?_ ?_⟩
   ·rintro i v pr ys H' hi ⟨a,rfl,ha⟩ ⟨rfl,rfl⟩
    have hil:i < ts.length:=(List.getElem?_eq_some_iff.mp hi).1
    refine ⟨Ext.one,kR ⟨_,rfl,a,pr.1,pr.2,rfl,ha,cn.nz pr (List.mem_of_getElem? hi),?_,rfl,ze i⟩⟩
    rw [Ct];exact line _ (by omega)
   rintro ys H' ⟨rfl,rfl⟩ q hq
   refine ⟨q,_,rfl,bz.of ah,_,rfl,yR (by rw [Cu];rfl) ?_⟩
   have s1:=new (o:=.lst ((List.replicate ts.length true).map V.bl)) hq
   have hp:=s1 _ _ hp
   have ht:=ht.same s1
   generalize upd H' q (.lst ((List.replicate ts.length true).map V.bl))=H1 at s1 hp ht ⊢
   refine ⟨_,rfl,p,C,dx,_,_,rfl,hp,T.cl,T.nT,cF _ _,t,rfl,gK ht (fun i ys H'=>H'=H1∧ys=((keys ts).take i).map V.str) ⟨rfl,rfl⟩ (fun i ys H' q=>q.1 ▸ Kp.refl) ?_ ?_⟩
   ·rintro i v pr ys H' hi ⟨a,rfl,ha⟩ ⟨rfl,rfl⟩
    have hk:(keys ts)[i]?=some pr.1:=by unfold keys;rw [List.getElem?_map,hi];rfl
    have hil:i < ts.length:=(List.getElem?_eq_some_iff.mp hi).1
    refine ⟨Ext.one,kR ⟨_,rfl,a,_,0,_,rfl,rfl,cR.of ha,rfl,?_,rfl,?_⟩⟩
    ·rw [List.length_map,List.length_take]
     exact line _ (by omega)
    ·rw [take_snoc hk,List.map_append]
     rfl
   rintro ys H' ⟨rfl,rfl⟩ l hl0
   have kl:(keys ts).length=ts.length:=by unfold keys;rw [List.length_map]
   rw [List.take_of_length_le (by rw [kl];exact Nat.le_refl _)]
   have s2:=new (o:=.lst ((keys ts).map V.str)) hl0
   refine ⟨_,rfl,_,rfl,l,keys ts,rfl,bz.of ah,(by rw [kl];omega),fun z hz'=>⟨z,keys ts,rfl,ah,fun l2 zs hl2 hm nd h64 so=>?_⟩⟩
   have e:zs=keys ts:=vR (zd so nd) (J2 cn) hm
   subst e
   have s3:=new (o:=Jw P w z (keys ts)) hz'
   have s4:=new (o:=.lst ((keys ts).map V.str)) hl2
   refine ⟨l,l2,_,_,rfl,rfl,.inl ⟨bz.of (s4 _ _ (s3 _ _ ah)),bz.of ah⟩,v5 (DY _),?_⟩
   exact k _ (((s1.trans s2).trans s3).trans s4)
abbrev gT:Stmt:=top 15
theorem yX:aW ["line"] ["line"] (au gT):=⟨rfl,rfl,rfl,by decide +kernel,rfl,by decide +kernel,by decide +kernel⟩
theorem zk {f C:Addr} {fd:FuncData} {n:Nat} (F:iU K "is_split" "is_split" gT f fd) (T:Txt K mg C) (J:kW K mg) (O:mD K C) (dP:Dn P w K mg base 1 "is_several" ["what"] (mX C)) (uA:Dn P w K mg base 3 "is_sum" ["what"] (nZ C)):cL P w K mg base iB 4 f fd ["line"] (m5 C):=by
 obtain ⟨iT,iD,cX,cO,cP,cW⟩:=dP
 obtain ⟨HR,D3,uQ,qb,qi,uI⟩:=uA
 refine F.ok yX (fun vs H Q E h=>?_) (fun cdv A outer s H vs Q E hr h=>?_)
 ·obtain ⟨xs,v,o,rfl,ho,hx,ok,k⟩:=h
  rfl
 ·obtain ⟨xs,v,o,rfl,ho,hx,ok,k⟩:=h
  have hu:=cH hr
  rw [show az gT=[_] from rfl]
  refine ⟨_,(ay (aH (dc (ao cX (hr.mono (by first | decide | omega)) rfl cO cP cW .nil aB (af (pv 0) ai)) (dc (cG cU (aJ aG (by rfl) T.len PySem.boot_len (af (pv 0) ai)) aj (aO _)) (dc (cG cU (aD aX (pv 0) aj (fun _ _=>rfl)) cB (aO _)) (gu (ao uQ (hr.mono (by first | decide | omega)) rfl qb qi uI .nil aB (af (aD aX (pv 0) aj (fun _ _=>rfl)) ai)))))))),?_⟩
  refine ⟨_,rfl,v,o,rfl,ho,fun H1 s1=>⟨_,rfl,?_⟩⟩
  cases o with
  | sc u=>exact dO (k _ s1)
  | sm s=>exact dO (k _ s1)
  | sq ys =>
   obtain ⟨a,ws,rfl,sq,hp⟩:=cY (ho.same s1)
   have lp:=aA hp
   refine cT ⟨_,rfl,a,_,rfl,lP sq,rfl,_,rfl,?_⟩
   by_cases h4:ys.length=4
   ·obtain ⟨h,b,x,y,rfl⟩:=Pu h4
    obtain ⟨u1,u2,u3,u4,rfl,o1,o2,o3,o4⟩:=mh hp
    obtain ⟨u,rfl⟩:=ok.hd h _ rfl
    obtain ⟨e1,e2⟩:=ql o1 "split"
    refine cM rfl ⟨_,rfl,gA sq rfl ⟨e1,_,rfl,?_⟩⟩
    rw [e2]
    by_cases z:hdS (.sc u)=some ("split":Str)
    ·refine cM z ⟨_,rfl,gA sq rfl ⟨u2,b,rfl,o2,fun s es=>?_,fun H2 s2=>?_⟩⟩
     ·subst es
      have G:=(ok.sp s x y (by show (if hdS (.sc u)=some ("split":Str) then _ else _)=_;rw [if_pos z])).1
      exact ⟨G.1,G.len hx⟩
     ·have k:=k _ (s1.trans s2)
      rw [nX,decide_eq_true z,Bool.true_and] at k
      exact k
    ·have k:=k _ s1
     rw [nX,decide_eq_false z,Bool.false_and] at k
     exact cN z k
   ·have k:=k _ s1
    rw [Cp h4] at k
    exact cN (fun z=>h4 (by have:=V.int.inj z;omega)) k
abbrev gU:Stmt:=top 16
theorem yY:aW ["lines","line"] ["lines","line"] (au gU):=⟨rfl,rfl,rfl,by decide +kernel,rfl,by decide +kernel,by decide +kernel⟩
theorem zo {f C:Addr} {fd:FuncData} {n:Nat} (F:iU K "is_right" "is_right" gU f fd) (T:Txt K mg C) (J:kW K mg) (O:mD K C) (dP:Dn P w K mg base 1 "is_several" ["what"] (mX C)) (yr:Dn P w K mg base 3 "is_weighed" ["lines","pair"] (mW C)) (nI:Dn P w K mg base 2 "is_ahead" ["lines","what"] (xB C)) (jL:Dn P w K mg base 2 "is_from_one" ["what"] (n8 C)) (qv:Dn P w K mg base 1 "can_be_divided" ["total","divisor"] (pR C)):cL P w K mg base iB 5 f fd ["lines","line"] (m6 C):=by
 obtain ⟨iT,iD,cX,cO,cP,cW⟩:=dP
 obtain ⟨Ke,I8,yJ,vf,vh,yD⟩:=yr
 obtain ⟨Br,zW,nO,lM,lT,nK⟩:=nI
 obtain ⟨vm,ux,jO,jj,jm,jM⟩:=jL
 obtain ⟨Ea,CZ,qA,oK,oO,qz⟩:=qv
 refine F.ok yY (fun vs H Q E h=>?_) (fun cdv A outer s H vs Q E hr h=>?_)
 ·obtain ⟨xs,L,us,ss,v,o,rfl,hL,hS,ho,ok,k⟩:=h
  rfl
 ·obtain ⟨xs,L,us,ss,v,o,rfl,hL,hS,ho,ok,k⟩:=h
  have hu:=cH hr
  rw [show az gU=[_,_,_,_] from rfl]
  refine ⟨_,(ak (cE (eT (cZ (ao cX (hr.mono (by first | decide | omega)) rfl cO cP cW .nil aB (af (pv 1) ai)))) (ay (aH fG)) bN)
   (ak (cE (PW.pt (nk (bh cU (aJ aG (by rfl) T.len PySem.boot_len (af (pv 1) ai)) aj (aO _)) (oq (bh cU (aD aX (pv 1) aj (fun _ _=>rfl)) cB (aO _))))) (ay (aH (dc (ao cX (hr.mono (by first | decide | omega)) rfl cO cP cW .nil aB (af (aD aX (pv 1) aj (fun _ _=>rfl)) ai)) (dc (cG CC (aJ aG (by rfl) T.len PySem.boot_len (af (aD aX (pv 1) aj (fun _ _=>rfl)) ai)) aj (aO _)) (gu (aJ (o9 rfl) (by rfl) J.all boot_all (af (fc (ck ["pair"] ["lines"] [0] rfl (by decide +kernel) (by decide +kernel) (by with_unfolding_all rfl) (by exact ⟨rfl,trivial⟩) (by rfl) rfl (by rfl)) rfl (nu (aD aX (pv 1) aj (fun _ _=>rfl))) (fun _ _ _ _=>(aS (i:=0) (show List.Nodup (["pair","lines"]:List Str) by decide +kernel) rfl (Or.inl rfl) (Or.inr rfl))) (fun _ _ _ _=>dZ) (fun _ _ _ _=>(ao yJ (hr.mono (by first | decide | omega)) rfl vf vh yD .nil aB (af (pv 1) (af (pv 0) ai))))) ai))))))) bN)
   (ak (cE (PW.pt (nk (bh cU (aJ aG (by rfl) T.len PySem.boot_len (af (pv 1) ai)) aj (aO _)) (oq (bh cU (aD aX (pv 1) aj (fun _ _=>rfl)) cB (aO _))))) (ay (aH (dc (ao nO (hr.mono (by first | decide | omega)) rfl lM lT nK .nil aB (af (pv 0) (af (aD aX (pv 1) aj (fun _ _=>rfl)) ai))) (dc (ao jO (hr.mono (by first | decide | omega)) rfl jj jm jM .nil aB (af (aD aX (pv 1) aj (fun _ _=>rfl)) ai)) (gu (ao qA (hr.mono (by first | decide | omega)) rfl oK oO qz .nil aB (af (aD aI (pv 0) (aD aX (pv 1) aj (fun _ _=>rfl)) (fun _ _=>rfl)) (af (aD aX (pv 1) aj (fun _ _=>rfl)) ai)))))))) bN)
   (ay (aH fG))))),?_⟩
  have hl:=aA hS
  refine ⟨_,rfl,v,o,rfl,ho,fun H1 s1=>⟨_,rfl,?_⟩⟩
  cases o with
  | sc u=>exact cT (k _ s1)
  | sm s=>exact cT (k _ s1)
  | sq ys =>
   obtain ⟨a,ws,rfl,sq,hp⟩:=cY (ho.same s1)
   have lp:=aA hp
   have nE:=s1 _ _ hL
   have qU:=hS.aN (aQ.of s1)
   refine dO ⟨_,rfl,a,_,rfl,lP sq,rfl,_,rfl,?_⟩
   by_cases h2:ys.length=2
   ·obtain ⟨h,b,rfl⟩:=v8 h2
    obtain ⟨u1,u2,rfl,o1,o2⟩:=jI hp
    obtain ⟨u,rfl⟩:=ok.hd h _ rfl
    obtain ⟨e1,e2⟩:=ql o1 "add"
    have kk:=fun H' s'=>k H' s'
    simp only [xU] at kk
    refine cM rfl ⟨_,rfl,gA sq rfl ⟨e1,_,rfl,?_⟩⟩
    rw [e2]
    by_cases z:hdS (.sc u)=some ("add":Str)
    ·rw [decide_eq_true z] at kk
     refine cM z ⟨_,rfl,gA sq rfl ⟨u2,b,rfl,o2,fun H2 s2=>⟨_,rfl,?_⟩⟩⟩
     have s12:=s1.trans s2
     cases b with
     | sc w=>exact dO (kk _ s12)
     | sm s=>exact dO (kk _ s12)
     | sq ps =>
      have LI:=sq.same s2
      obtain ⟨a2,IU,rfl,OH,PX⟩:=cY (o2.same s2)
      have Su:=aA PX
      have K9:ps.length≤10:=(ok.le _ rfl).2 _ _ rfl
      refine cT ⟨_,rfl,gA LI rfl ⟨a2,_,rfl,lP OH,_,_,rfl,rfl,_,rfl,?_⟩⟩
      by_cases h0:0 < ps.length
      ·refine cM (by show (0:Int) < (IU.length:Int);omega) ⟨_,rfl,gA LI rfl ⟨a2,rfl,uE OH (fun i ys H'=>aP H2 H'∧ys=((ps.take i).map fun p=>(nP ss.length p).isSome).map V.bl) ⟨aP.refl _,rfl⟩ (fun i ys H' q o z=>q.1 _ _ z) ?_ ?_⟩⟩
       ·rintro i w ys H' hi ⟨s3,rfl⟩
        obtain ⟨p,J6,op⟩:=bf PX hi
        have hil:i < IU.length:=(List.getElem?_eq_some_iff.mp hi).1
        refine ⟨Ext.one,kR ⟨_,rfl,_,rfl,L,us,w,p,rfl,s3 _ _ (s2 _ _ nE),op.same s3,fun H4 s4=>⟨?_,s3.trans s4,?_⟩⟩⟩
        ·rw [List.length_map,List.length_map,List.length_take];exact line _ (by omega)
        ·rw [take_snoc J6,List.map_append,List.map_append,hl]
         rfl
       rintro ys H' ⟨s3,rfl⟩ q hq
       refine ⟨q,_,rfl,bz.of ah,?_⟩
       rw [Su,List.take_length]
       have k9:=kk _ ((s12.trans s3).trans (new (o:=.lst ((ps.map fun p=>(nP ss.length p).isSome).map V.bl)) hq))
       have k9:Q (.bl (true && (decide (0 < ps.length) && ps.all fun p=>(nP ss.length p).isSome))) _:=k9
       rw [decide_eq_true h0,Bool.true_and,Bool.true_and] at k9
       rw [List.all_map]
       exact k9
      ·have k9:=kk _ s12
       have k9:Q (.bl (true && (decide (0 < ps.length) && ps.all fun p=>(nP ss.length p).isSome))) _:=k9
       rw [decide_eq_false h0,Bool.true_and,Bool.false_and] at k9
       exact cN (by show ¬ (0:Int) < (IU.length:Int);omega) k9
    ·rw [decide_eq_false z] at kk
     refine cN z ⟨_,rfl,a,_,rfl,lP sq,rfl,_,rfl,cN (fun z=>by have:=V.int.inj z;simp at this) (dO ?_)⟩
     exact kk _ s1
   ·refine cN (fun z=>h2 (by have:=V.int.inj z;omega)) (dO ⟨_,rfl,a,_,rfl,lP sq,rfl,_,rfl,?_⟩)
    by_cases h3:ys.length=3
    ·obtain ⟨h,b,d,rfl⟩:=Mf h3
     obtain ⟨u1,u2,u3,rfl,o1,o2,o3⟩:=lF hp
     obtain ⟨u,rfl⟩:=ok.hd h _ rfl
     obtain ⟨e1,e2⟩:=ql o1 "cut"
     have kk:=fun H' s'=>k H' s'
     simp only [qf] at kk
     refine cM rfl ⟨_,rfl,gA sq rfl ⟨e1,_,rfl,?_⟩⟩
     rw [e2]
     by_cases z:hdS (.sc u)=some ("cut":Str)
     ·rw [decide_eq_true z] at kk
      refine cM z ⟨_,rfl,_,rfl,gA sq rfl ⟨L,us,u2,b,rfl,nE,o2,_,rfl,?_⟩⟩
      rw [← hl] at kk
      cases h4:Dj us.length b with
      | false =>
       rw [h4] at kk
       exact dO (kk _ s1)
      | true =>
       rw [h4] at kk
       refine cT ⟨_,rfl,gA sq rfl ⟨u3,d,rfl,o3,_,rfl,?_⟩⟩
       cases h5:jB d with
       | false =>
        rw [h5] at kk
        exact dO (kk _ s1)
       | true =>
        rw [h5] at kk
        obtain ⟨i,hi,rfl⟩:=lX h4
        obtain ⟨j,hj,rfl⟩:=jn h5
        obtain ⟨rfl,_⟩:=pU o2
        obtain ⟨rfl,_⟩:=pU o3
        obtain ⟨p,s,ep,es,S⟩:=qD qU hi
        refine cT ⟨_,rfl,_,rfl,gA sq rfl ⟨L,_,_,_,rfl,rfl,bz.of nE,aK ep,_,rfl,gA sq rfl ⟨p,s.1,s.2,j,rfl,S,hj,fun H2 s2=>?_⟩⟩⟩
        have k9:=kk _ (s1.trans s2)
        have k9:Q (.bl ((ss.getD (i:Int).toNat s0).1.all fun q=>decide (q.2 % j=0))) H2:=k9
        rw [Int.toNat_natCast,fH es] at k9
        exact k9
     ·rw [decide_eq_false z] at kk
      exact cN z (kk _ s1)
    ·have k9:=k _ s1
     rw [rO h2 h3] at k9
     exact cN (fun z=>h3 (by have:=V.int.inj z;omega)) (dO k9)
abbrev jc:Stmt:=top 9
theorem AJ:aW ["total","divisor"] ["total","divisor"] (au jc):=⟨rfl,rfl,rfl,by decide +kernel,rfl,by decide +kernel,by decide +kernel⟩
theorem AW {f C:Addr} {fd:FuncData} {n:Nat} (F:iU K "divided" "divided" jc f fd) (T:Txt K mg C) (J:kW K mg) (O:mD K C) (d_init:Mr P w K mg base 1 C ["self","terms","number"] (tD C)):cL P w K mg base iB 3 f fd ["total","divisor"] (m7 C):=by
 obtain ⟨HS,CY,jt,IE,jo⟩:=d_init
 refine F.ok AJ (fun vs H Q E h=>?_) (fun cdv A outer s H vs Q E hr h=>?_)
 ·obtain ⟨p,ts,n0,d,rfl,S,hd,hd5,k⟩:=h
  rfl
 ·obtain ⟨p,ts,n0,d,rfl,S,hd,hd5,k⟩:=h
  have hu:=cH hr
  rw [show az jc=[_] from rfl]
  refine ⟨_,(ay (aH (xK IE jt (hr.mono (by first | decide | omega)) rfl T.ua jo .nil aB (af (fc (ck ["thing","weight"] ["divisor"] [1] rfl (by decide +kernel) (by decide +kernel) (by with_unfolding_all rfl) (by exact ⟨rfl,trivial⟩) (by rfl) rfl (by rfl)) rfl (jJ (dz (pv 0) rfl)) (fun _ _ _ _=>(iP (K:=K) (n:=2) rfl rfl (bT (aS (i:=0) (show List.Nodup (["thing","weight","divisor"]:List Str) by decide +kernel) rfl (Or.inl rfl) (Or.inr rfl)) (bT (aS (i:=1) (show List.Nodup (["thing","weight","divisor"]:List Str) by decide +kernel) rfl (Or.inl rfl) (Or.inr rfl)) fW)))) (fun _ _ _ _=>dZ) (fun _ _ _ _=>(aM (af (pv 0) (af (aR oA (pv 1) (pv 2)) ai))))) (af (aR oA (dz (pv 0) rfl) (pv 1)) ai))))),?_⟩
  obtain ⟨dx,t,hp,ht,hz⟩:=S
  refine ⟨_,rfl,p,C,dx,_,_,rfl,hp,T.cl,T.nT,cF _ _,t,rfl,gK ht (fun i ys H'=>aP H H'∧vB H' ys ((ts.take i).map fun q=>(q.1,q.2 / d))) ⟨aP.refl _,.nil⟩ (fun i ys H' q=>Kp.of q.1) ?_ ?_⟩
  ·rintro i v pr ys H' hi ⟨b,rfl,hb⟩ ⟨sm,py⟩
   have hil:i < ts.length:=(List.getElem?_eq_some_iff.mp hi).1
   refine ⟨b,_,rfl,cR.of hb,rfl,_,_,rfl,_,_,rfl,rfl,Ext.two,kR ⟨_,rfl,_,rfl,_,rfl,_,_,rfl,rfl,⟨(show 0 < d by omega),(show d < 2 ^ 100 by omega)⟩,(szl 2),fun q hq=>⟨?_,aP.new sm hq,?_⟩⟩⟩
   ·rw [d7 py,List.length_map,List.length_take]
    exact line _ (by omega)
   ·rw [take_snoc hi,List.map_append]
    exact gk (py.keep fun _ _ z=>new hq _ _ z) (gH ⟨q,rfl,ah⟩)
  rintro ys H' ⟨sm,py⟩ q hq
  rw [List.take_length] at py
  have s1:aP H (upd H' q (.lst ys)):=aP.new sm hq
  refine ⟨_,rfl,p,C,dx,_,_,rfl,s1 _ _ hp,T.cl,T.nN,bX _ _,_,rfl,_,_,rfl,rfl,⟨(show 0 < d by omega),(show d < 2 ^ 100 by omega)⟩,fun x C5 hx hdx ne=>?_⟩
  have h1:aP (upd H' q (.lst ys)) (upd (upd (upd H' q (.lst ys)) C5 (.own x)) x (.ins C C5 [])):=vY hx hdx
  refine ⟨x,C5,q,n0 / d,ts.map fun q=>(q.1,q.2 / d),rfl,ah,.inl ⟨ys,h1 _ _ ah,py.keep fun _ _ z=>h1 _ _ (new hq _ _ z)⟩,(by rw [List.length_map];exact hz),fun H2 but S2=>⟨rfl,?_⟩⟩
  exact k x H2 (fun b o z=>but b o (h1 _ _ (s1 _ _ z)) (aF (s1 _ _ z) hx)) S2
abbrev iY:Stmt:=top 8
theorem gY:aW ["lines","line","pairs","number","often","place"] ["lines","line"] (au iY):=⟨rfl,rfl,rfl,by decide +kernel,rfl,by decide +kernel,by decide +kernel⟩
theorem AM {f C:Addr} {fd:FuncData} {n:Nat} (F:iU K "line_of" "line_of" iY f fd) (T:Txt K mg C) (J:kW K mg) (O:mD K C) (bZ:Dn P w K mg base 3 "sum_of" ["pairs","number"] (ef C)) (Er:Dn P w K mg base 3 "divided" ["total","divisor"] (m7 C)):cL P w K mg base iB 4 f fd ["lines","line"] (pP C):=by
 obtain ⟨fq,d9,bK,aY,aZ,bD⟩:=bZ
 obtain ⟨N4,MP,ER,A4,Bf,EH⟩:=Er
 refine F.ok gY (fun vs H Q E h=>?_) (fun cdv A outer s H vs Q E hr h=>?_)
 ·obtain ⟨xs,L,us,ss,v,o,l,b,rfl,hL,hS,hx,hg,hsz,IZ,ho,ok,he,k⟩:=h
  rfl
 ·obtain ⟨xs,L,us,ss,v,o,l,b,rfl,hL,hS,hx,hg,hsz,IZ,ho,ok,he,k⟩:=h
  have hu:=cH hr
  rw [show az iY=[_,_,_,_,_] from rfl]
  refine ⟨_,(ak (cE (bh cU (aD aX (pv 1) aj (fun _ _=>rfl)) cB (aO _)) (ay (aH (ao ER (hr.mono (by first | decide | omega)) rfl A4 Bf EH .nil aB (af (aD aI (pv 0) (aD aX (pv 1) aj (fun _ _=>rfl)) (fun _ _=>rfl)) (af (aD aX (pv 1) aj (fun _ _=>rfl)) ai))))) bN)
   (ak (bq (i:=2) gY.nd rfl (Or.inl rfl) (bP ai))
   (ak (bq (i:=3) gY.nd rfl (Or.inl rfl) aj)
   (ak (gZ PassesOwn.never rfl (nu (aD aX (pv 1) aj (fun _ _=>rfl))) (JG rfl (bT (aS (i:=4) gY.nd rfl (Or.inr rfl)) (bT (aS (i:=5) gY.nd rfl (Or.inl rfl)) fW))) (ak (iC (mL PySem.F.plainAttrs_list PySem.F.slot_list_extend PySem.F.type_list_extend DI (pv 2) (af (fc (ck ["thing","weight"] ["often"] [4] rfl (by decide +kernel) (by decide +kernel) (by with_unfolding_all rfl) (by exact ⟨rfl,trivial⟩) (by rfl) rfl (by rfl)) rfl (jJ (dz (aD aI (pv 0) (pv 5) (fun _ _=>rfl)) rfl)) (fun _ _ _ _=>(iP (K:=K) (n:=2) rfl rfl (bT (aS (i:=0) (show List.Nodup (["thing","weight","often"]:List Str) by decide +kernel) rfl (Or.inl rfl) (Or.inr rfl)) (bT (aS (i:=1) (show List.Nodup (["thing","weight","often"]:List Str) by decide +kernel) rfl (Or.inl rfl) (Or.inr rfl)) fW)))) (fun _ _ _ _=>dZ) (fun _ _ _ _=>(aM (af (pv 0) (af (aR rK (pv 2) (pv 1)) ai))))) ai)))
   (ay (bq (i:=3) gY.nd rfl (Or.inl rfl) (aR cS (pv 3) (aR rK (pv 4) (dz (aD aI (pv 0) (pv 5) (fun _ _=>rfl)) rfl)))))))
   (ay (aH (ao bK (hr.mono (by first | decide | omega)) rfl aY aZ bD .nil aB (af (pv 2) (af (pv 3) ai))))))))),?_⟩
  have hl:=aA hS
  rcases mj he with ⟨k0,d,rfl,rfl,hk,h1,hm⟩ | ⟨pso,ws,rfl,rfl,hne,hw⟩
  ·obtain ⟨a,ys,rfl,sq,hp⟩:=cY ho
   obtain ⟨u1,u2,u3,rfl,o1,o2,o3⟩:=lF hp
   obtain ⟨rfl,_⟩:=pU o1
   obtain ⟨rfl,_⟩:=pU o2
   obtain ⟨rfl,_⟩:=pU o3
   have Zq:d < 2 ^ 70:=ok.nb ss _ he
   obtain ⟨p,s,ep,es,S⟩:=qD hS (k:=k0) (by omega)
   refine ⟨_,rfl,gA sq rfl ⟨rfl,_,rfl,cM rfl ?_⟩⟩
   refine ⟨_,rfl,_,rfl,gA sq rfl ⟨L,_,_,_,rfl,rfl,bz.of hL,aK ep,_,rfl,gA sq rfl ?_⟩⟩
   exact ⟨p,s.1,s.2,d,rfl,S,h1,Zq,fun r H1 s1 S1=>k r (s.1.map fun q=>(q.1,q.2 / d),s.2 / d) H1 s1 ⟨s,es,rfl⟩ S1⟩
  ·obtain ⟨a,ys,rfl,sq,hp0⟩:=cY ho
   obtain ⟨u1,u2,rfl,o1,o2⟩:=jI hp0
   obtain ⟨rfl,_⟩:=pU o1
   obtain ⟨t,ps,rfl,et,hp⟩:=cY o2
   obtain ⟨h10,Y8⟩:=ok.nb ss _ he
   have pl:ps.length=ws.length:=(aA hp).trans (aA hw)
   have hw3:∀ p∈ws,p.2 < ss.length:=fun p Lb=>by
    obtain ⟨j,hj⟩:=List.mem_iff_getElem?.mp Lb
    have jl:j < pso.length:=by rw [aA hw];exact (List.getElem?_eq_some_iff.mp hj).1
    obtain ⟨w,PK,_,_,h3⟩:=bf hw (List.getElem?_eq_getElem jl)
    rw [hj] at PK
    cases PK
    exact h3
   refine ⟨_,rfl,gA sq rfl ⟨rfl,_,rfl,cN (by decide +kernel) ?_⟩⟩
   refine ⟨Nat.zero_le _,fun pr PV=>?_⟩
   have s1:=new (o:=.lst []) PV
   have OI:=sq.same s1
   have K7:t≠pr:=fun z=>by rcases et with e | e <;> rw [z,PV] at e <;> cases e
   have stay:∀ H',cA pr H H'→∀ o,(upd H pr (.lst [])) t=some o→H' t=some o:=fun H' b1 o z=>by
    rw [aL K7] at z
    exact b1 _ _ z K7
   refine ⟨_,rfl,gA OI rfl ⟨t,rfl,CW (et.same s1) (fun i σ H'=>∃ o1 o2,σ=[some (.ref L),some (.ref a),some (.ref pr),some (.int (kL ss (ws.take i))),o1,o2]∧cA pr H H'∧Lp H' pr (jv ss (ws.take i))) ⟨none,none,rfl,cA.of s1,⟨[],ah,.nil⟩⟩ (fun i σ H' q o z=>let ⟨_,_,_,b1,_⟩:=q;stay H' b1 o z) ?_ ?_⟩⟩
   ·rintro i v σ H' hi ⟨o1,o2,rfl,b1,lp⟩
    have hil:i < ps.length:=(List.getElem?_eq_some_iff.mp hi).1
    have sN:aP H H':=b1.same PV
    obtain ⟨po,My,O2⟩:=bf hp hi
    obtain ⟨x,ex,epo,w1,w3⟩:=bf hw My
    subst epo
    obtain ⟨q,qs,rfl,eq,hq2⟩:=cY O2
    obtain ⟨v1,v2,rfl,o5,o6⟩:=jI hq2
    obtain ⟨rfl,_⟩:=pU o5
    obtain ⟨rfl,_⟩:=pU o6
    have x70:=Y8 x (List.mem_of_getElem? ex)
    obtain ⟨p,s,ep,es,S⟩:=qD (hS.aN (aQ.of sN)) (k:=x.2) (by rw [hl];exact w3)
    obtain ⟨dx,tt,hp1,Mw,hz⟩:=S
    have gs:=hg s (List.mem_of_getElem? es)
    have s3:=gs.len hx
    have eD:=fH es
    have nE:=sN _ _ hL
    have cl:=oY hx hg (ws:=ws.take i) fun p hp=>hw3 p (List.mem_of_mem_take hp)
    rw [List.length_take] at cl
    obtain ⟨vs,N5,rvs⟩:=lp
    refine ⟨q,_,rfl,eq.same sN,rfl,_,_,rfl,_,_,rfl,rfl,?_⟩
    refine ⟨_,rfl,.inl ⟨rfl,_,bz.of N5⟩,_,rfl,_,rfl,L,_,_,_,rfl,rfl,bz.of nE,aK ep,p,C,dx,_,_,rfl,hp1,T.cl,T.nT,cF _ _,tt,rfl,gK Mw (fun j ys H2=>aP H' H2∧vB H2 ys ((s.1.take j).map fun q=>(q.1,x.1*q.2))) ⟨aP.refl _,.nil⟩ (fun j ys H2 q=>Kp.of q.1) ?_ ?_⟩
    ·rintro j v pr0 ys H2 hj ⟨b,rfl,hb⟩ ⟨sm,py⟩
     have hjl:j < s.1.length:=(List.getElem?_eq_some_iff.mp hj).1
     refine ⟨b,_,rfl,cR.of hb,rfl,_,_,rfl,_,_,rfl,rfl,Ext.two,kR ⟨_,rfl,_,rfl,_,rfl,_,_,rfl,rfl,⟨Ci x70,FF (hsz s (List.mem_of_getElem? es)) IZ (List.mem_of_getElem? hj)⟩,(szl 2),fun q hq=>⟨?_,aP.new sm hq,?_⟩⟩⟩
     ·rw [d7 py,List.length_map,List.length_take]
      exact line _ (by omega)
     ·rw [take_snoc hj,List.map_append]
      exact gk (py.keep fun _ _ z=>new hq _ _ z) (gH ⟨q,rfl,ah⟩)
    rintro ys H2 ⟨sm,py⟩ lq P1
    rw [List.take_length] at py
    have s5:aP H' (upd H2 lq (.lst ys)):=sm.trans (new P1)
    have pyl:=d7 py
    rw [List.length_map] at pyl
    have rl:=d7 rvs
    refine ⟨pr,lq,_,_,rfl,rfl,s5 _ _ N5,ah,(by rw [rl,pyl];exact Nat.le_of_lt (line _ (by omega))),?_⟩
    have npr:∀ c ys,(upd H2 lq (.lst ys)) c=some (.tup ys)→True:=fun _ _ _=>trivial
    have ZP:=s5 _ _ N5
    have py5:=py.keep fun _ _ z=>new (o:=.lst ys) P1 _ _ z
    have rv5:=rvs.keep fun _ _ z=>s5 _ _ z
    have s6:cA pr (upd H2 lq (.lst ys)) (upd (upd H2 lq (.lst ys)) pr (.lst (vs++ys))):=cA.upd
    have np:∀ {c:Addr} {o:HO},H' c=some o→c≠pr→(upd (upd H2 lq (.lst ys)) pr (.lst (vs++ys))) c=some o:=fun z n=>s6 _ _ (s5 _ _ z) n
    have Xy:L≠pr:=aF hL PV
    have O9:p≠pr:=fun z=>by rw [z,N5] at hp1;cases hp1
    refine ⟨_,rfl,_,rfl,_,rfl,_,rfl,L,_,_,_,rfl,rfl,bz.of (np nE Xy),aK ep,p,C,dx,_,_,rfl,np hp1 O9,T.cl,T.nN,bX _ _,_,_,rfl,rfl,⟨Ci x70,FG (hsz s (List.mem_of_getElem? es)) IZ⟩,_,_,rfl,rfl,?_⟩
    have Bt:ws.take (i+1)=ws.take i++[x]:=take_snoc ex
    refine ⟨some (.int x.1),some (.int x.2),?_,(b1.trans (cA.of s5)).trans s6,?_⟩
    ·rw [Bt,qx,eD]
     rfl
    ·rw [Bt,qw,eD]
     exact ⟨_,ah,(gk rv5 py5).keep (s6.tups ZP)⟩
   ·rintro σ H' ⟨o1,o2,rfl,b1,lp⟩
    rw [pl,List.take_length] at lp ⊢
    have cl:=oY hx hg (ws:=ws) hw3
    exact ⟨_,rfl,_,rfl,pr,kL ss ws,jv ss ws,rfl,.inl lp,by omega,fun r ts H2 s2 g _ S2=>k r (ts,kL ss ws) H2 ((b1.same PV).trans s2) ⟨g,rfl⟩ S2⟩
abbrev dW:Stmt:=top 13
theorem pV:aW ["lines","line","splits"] ["lines","line","splits"] (au dW):=⟨rfl,rfl,rfl,by decide +kernel,rfl,by decide +kernel,by decide +kernel⟩
theorem p7 {f C:Addr} {fd:FuncData} {n:Nat} (F:iU K "both_end_well" "both_end_well" dW f fd) (T:Txt K mg C) (J:kW K mg) (O:mD K C) (ym:Dn P w K mg base 3 "other_side" ["total"] (xr C)) (lW:Dn P w K mg base (2*n+10) "ends_well" ["lines","paper","splits"] (vN C n)):cL P w K mg base iB (2*n+11) f fd ["lines","line","splits"] (xA C n):=by
 obtain ⟨Ka,I0,yG,ve,vg,yx⟩:=ym
 obtain ⟨zX,ye,jF,iQ,iS,jD⟩:=lW
 refine F.ok pV (fun vs H Q E h=>?_) (fun cdv A outer s H vs Q E hr h=>?_)
 ·obtain ⟨n0,xs,L,v,o,x,y,us,ss,s,rfl,hn,hL,hS,ls,hlen,ho,he,gs,zs,gx,gy,k⟩:=h
  rfl
 ·obtain ⟨n0,xs,L,v,o,x,y,us,ss,s,rfl,hn,hL,hS,ls,hlen,ho,he,gs,zs,gx,gy,k⟩:=h
  have hu:=cH hr
  rw [show az dW=[_,_] from rfl]
  refine ⟨_,(ak (cE (eT (cZ (ao jF (hr.mono (by first | decide | omega)) rfl iQ iS jD .nil aB (af (aR fz (pv 0) (bP (af (aD aX (pv 1) aj (fun _ _=>rfl)) ai))) (af (aD aX (pv 1) aj (fun _ _=>rfl)) (af (pv 2) ai)))))) (ay (aH fG)) bN)
   (ay (aH (ao jF (hr.mono (by first | decide | omega)) rfl iQ iS jD .nil aB (af (aR fz (pv 0) (bP (af (ao yG (hr.mono (by first | decide | omega)) rfl ve vg yx .nil aB (af (aD aX (pv 1) aj (fun _ _=>rfl)) ai)) ai))) (af (aD aX (pv 1) aj (fun _ _=>rfl)) (af (pv 2) ai))))))),?_⟩
  obtain ⟨h',rfl,z'⟩:=lE he
  obtain ⟨a,ys,rfl,sq,hp0⟩:=cY ho
  obtain ⟨u1,u2,q1,q2,rfl,o1,o2,o3,o4⟩:=mh hp0
  obtain ⟨p,rfl,S⟩:=LL o2
  have GK:=aA hS
  have one:∀ (z:V),(us++[z]).length=us.length+1:=fun z=>by rw [List.length_append];rfl
  have lone:∀ (s1:Sm),(ss++[s1]).length+10*(n0+1)≤500:=fun s1=>by rw [List.length_append];show ss.length+1+_≤_;omega
  refine ⟨_,rfl,_,rfl,gA sq rfl ⟨Nat.le_of_lt (line 1 (by decide)),fun l1 h1=>?_⟩⟩
  have s1:=new (o:=.lst [V.ref p]) h1
  refine ⟨L,l1,us,[V.ref p],rfl,rfl,s1 _ _ hL,ah,(Nat.le_of_lt (line _ (by show us.length+1≤_;omega))),fun l2 h2=>?_⟩
  have s2:=s1.trans (new (o:=.lst (us++[V.ref p])) h2)
  have h20:H l2=none:=qH h2
  refine ⟨_,rfl,gA (sq.same s2) rfl ⟨_,rfl,n0,xs,l2,q1,x,H,us++[V.ref p],ss++[s],rfl,hn,ah,bR (hS.aN (aQ.of s2)) ⟨p,rfl,S.same s2⟩,ls.add gs (zs.mono (by decide)),lone s,h20,s2,o3,gx,fun H3 b3=>⟨_,rfl,?_⟩⟩⟩
  have s3:aP H H3:=fun b o z=>b3 _ _ (s2 _ _ z) (aF z h20)
  cases hb:kZ n0 (ss++[s]) x with
  | false =>
   rw [hb] at k
   exact cT (k _ s3)
  | true =>
   rw [hb] at k
   refine dO ⟨_,rfl,_,rfl,gA (sq.same s3) rfl ⟨p,s,rfl,S.same s3,fun r H4 s4 S4=>⟨Nat.le_of_lt (line 1 (by decide)),fun l5 h5=>?_⟩⟩⟩
   have s5:=(s3.trans s4).trans (new (o:=.lst [V.ref r]) h5)
   have S5:=S4.same (new (o:=.lst [V.ref r]) h5)
   refine ⟨L,l5,us,[V.ref r],rfl,rfl,s5 _ _ hL,ah,(Nat.le_of_lt (line _ (by show us.length+1≤_;omega))),fun l6 h6=>?_⟩
   have n6:=new (o:=.lst (us++[V.ref r])) h6
   have s6:=s5.trans n6
   have Zz:H l6=none:=s5.free h6
   refine ⟨_,rfl,gA (sq.same s6) rfl ⟨_,rfl,n0,xs,l6,q2,y,H,us++[V.ref r],ss++[tR s],rfl,hn,ah,bR (hS.aN (aQ.of s6)) ⟨r,rfl,S5.same n6⟩,ls.add (ya gs) (Cn zs),lone _,Zz,s6,o4,gy,fun H7 b7=>?_⟩⟩
   exact k _ fun b o z=>b7 _ _ (s6 _ _ z) (aF z Zz)
abbrev gq:Stmt:=top 12
theorem kj:aW ["lines","paper","splits","place","line"] ["lines","paper","splits"] (au gq):=⟨rfl,rfl,rfl,by decide +kernel,rfl,by decide +kernel,by decide +kernel⟩
theorem xO {f C:Addr} {fd:FuncData} {n:Nat} (F:iU K "ends_well" "ends_well" gq f fd) (T:Txt K mg C) (J:kW K mg) (O:mD K C) (dP:Dn P w K mg base 1 "is_several" ["what"] (mX C)) (BA:Dn P w K mg base 4 "is_split" ["line"] (m5 C)) (qY:Dn P w K mg base (2*n+11) "both_end_well" ["lines","line","splits"] (xA C n)) (BB:Dn P w K mg base 5 "is_right" ["lines","line"] (m6 C)) (Ei:Dn P w K mg base 4 "line_of" ["lines","line"] (pP C)) (BC:Dn P w K mg base 1 "is_never" ["total"] (xu C)):cL P w K mg base iB (2*n+12) f fd ["lines","paper","splits"] (vN C (n+1)):=by
 obtain ⟨iT,iD,cX,cO,cP,cW⟩:=dP
 obtain ⟨MS,Lg,BR,zB,zI,BI⟩:=BA
 obtain ⟨E7,D7,rC,qd,qj,rj⟩:=qY
 obtain ⟨MT,Lh,BS,zC,zJ,BJ⟩:=BB
 obtain ⟨NX,MJ,EK,AZ,Ba,EC⟩:=Ei
 obtain ⟨MU,Li,BU,zD,zK,BK⟩:=BC
 refine F.ok kj (fun vs H Q E h=>?_) (fun cdv A outer s H vs Q E hr h=>?_)
 ·obtain ⟨n0,xs,L,v,o,H0,us,ss,rfl,hn,hL,hS,ls,hlen,h0,s0,ho,gd,k⟩:=h
  rfl
 ·obtain ⟨n0,xs,L,v,o,H0,us,ss,rfl,hn,hL,hS,ls,hlen,h0,s0,ho,gd,k⟩:=h
  have hu:=cH hr
  rw [show az gq=[_,_,_] from rfl]
  refine ⟨_,(ak (cE (eT (cZ (ao cX (hr.mono (by first | decide | omega)) rfl cO cP cW .nil aB (af (pv 1) ai)))) (ay (aH fG)) bN)
   (ak (gZ PassesOwn.never rfl (JF rfl J.enumerate boot_enumerate (af (pv 1) ai)) (xH rfl (bT (aS (i:=3) kj.nd rfl (Or.inl rfl)) (bT (aS (i:=4) kj.nd rfl (Or.inl rfl)) fW))) (ak (cE (cZ (ao BR (hr.mono (by first | decide | omega)) rfl zB zI BI .nil aB (af (pv 4) ai))) (ay (aH (dc (cG cU (pv 3) (aR ia (aJ aG (by rfl) T.len PySem.boot_len (af (pv 1) ai)) aj) (aO _)) (dc (cG CC (pv 2) aj (aO _)) (gu (ao rC (hr.mono (by first | decide | omega)) rfl qd qj rj .nil aB (af (pv 0) (af (pv 4) (af (aR ia (pv 2) aj) ai))))))))) bN)
   (ak (cE (eT (cZ (ao BS (hr.mono (by first | decide | omega)) rfl zC zJ BJ .nil aB (af (pv 0) (af (pv 4) ai))))) (ay (aH fG)) bN)
   (ay (iC (mL PySem.F.plainAttrs_list PySem.F.slot_list_append PySem.F.type_list_append fY (pv 0) (af (ao EK (hr.mono (by first | decide | omega)) rfl AZ Ba EC .nil aB (af (pv 0) (af (pv 4) ai))) ai)))))))
   (ay (aH (dc (cG CC (aJ aG (by rfl) T.len PySem.boot_len (af (pv 0) ai)) aj (aO _)) (gu (ao BU (hr.mono (by first | decide | omega)) rfl zD zK BK .nil aB (af (aD aI (pv 0) (fE dw aj) (fun _ _=>rfl)) ai)))))))),?_⟩
  refine ⟨_,rfl,v,o,rfl,ho.same s0,fun H1 s1=>⟨_,rfl,?_⟩⟩
  have b01:cA L H H1:=cA.of s1
  cases o with
  | sc u =>
   rw [HW] at k
   exact cT (k _ b01)
  | sm u =>
   rw [HV] at k
   exact cT (k _ b01)
  | sq ys =>
   obtain ⟨pp,vs,rfl,E2,hp⟩:=cY ho
   have lp:=aA hp
   obtain ⟨l9,Wj⟩:=gd.ln
   have sqH:=E2.same s0
   have Xy:pp≠L:=fun z=>by
    rcases E2 with q | q <;> rw [z,h0] at q <;> cases q
   have GK:=aA hS
   rw [ig] at k
   refine dO ⟨_,rfl,pp,rfl,Ht (sqH.same s1) (fun i σ H'=>∃ (o1 o2:Option V) (us':List V) (ss':List Sm),σ=[some (.ref L),some (.ref pp),some (.int (n0:Int)),o1,o2]∧cA L H1 H'∧H' L=some (.lst us')∧vA C H' us' ss'∧LsOk xs ss'∧ss'.length=ss.length+i∧i≤ys.length∧qp (kF n0) ss ys=qp (kF n0) ss' (ys.drop i)) ⟨none,none,us,ss,rfl,fun _ _ z _=>z,s1 _ _ hL,hS.aN (aQ.of s1),ls,rfl,Nat.zero_le _,rfl⟩ (fun i σ H' q=>(let ⟨_,_,_,_,_,b,_⟩:=q;fun o z=>b _ _ z Xy)) ?_ ?_⟩
   ·rintro i x t σ H' hi ht ⟨o1,o2,us',ss',rfl,b1,nE,qU,xS,hl1,il,he⟩
    have n1:=new (o:=.tup [.int i,x]) ht
    have sA:aP H0 (upd H' t (.tup [.int i,x])):=fun b o z=>n1 _ _ (b1 _ _ (s1 _ _ (s0 _ _ z)) fun q=>by rw [q,h0] at z;cases z)
    have bA:cA L H (upd H' t (.tup [.int i,x])):=((cA.of s1).trans b1).trans (cA.of n1)
    have nE:=n1 _ _ nE
    have qU:=qU.aN (aQ.of n1)
    have HY:(upd H' t (.tup [.int i,x])) t=some (.tup [.int i,x]):=ah
    have bA1:cA L H1 (upd H' t (.tup [.int i,x])):=b1.trans (cA.of n1)
    generalize upd H' t (.tup [.int i,x])=H2 at n1 sA bA bA1 nE qU HY ⊢
    refine ⟨t,_,rfl,cR.of HY,rfl,_,_,rfl,_,_,rfl,rfl,?_⟩
    obtain ⟨l,hli,ol⟩:=bf hp hi
    have hc:i < ys.length:=(List.getElem?_eq_some_iff.mp hli).1
    have hdr:ys.drop i=l::ys.drop (i+1):=by
     rw [List.drop_eq_getElem_cons hc]
     rw [List.getElem?_eq_getElem hc] at hli
     rw [Option.some.inj hli]
    rw [hdr] at he
    have tS:=Wj l (List.mem_of_getElem? hli)
    have XH:=aA qU
    refine ⟨_,rfl,xs,x,l,rfl,ol.same sA,ls.x6,tS,fun H3 s3=>⟨_,rfl,?_⟩⟩
    have FZ:=sA.trans s3
    cases pG:nY l with
    | some w =>
     obtain ⟨s,x',y'⟩:=w
     rw [ir pG] at he
     rw [he] at k
     have UR:vz H3 pp vs:=E2.same FZ
     refine cT ⟨_,rfl,_,rfl,pp,_,rfl,lP UR,_,_,rfl,rfl,rfl,_,rfl,?_⟩
     by_cases wg:i+1=ys.length
     ·have er:(ys.drop (i+1)).isEmpty=true:=by rw [List.drop_of_length_le (by omega)];rfl
      rw [er,Bool.true_and] at k
      refine cM (by show V.int (i:Int)=V.int ((vs.length:Int) - 1);congr 1;omega) ⟨_,rfl,_,_,rfl,rfl,_,rfl,?_⟩
      cases n0 with
      | zero=>exact cN (by decide) (k _ (bA.trans (cA.of s3)))
      | succ m =>
       have ZD:=(gd ys rfl).2 l (List.mem_of_getElem? hli)
       obtain ⟨gs,zs⟩:=tS.sp s x' y' pG
       obtain ⟨g1,g2⟩:=ZD.2 s x' y' pG
       refine cM (by show (0:Int) < ((m+1:Nat):Int);omega) ⟨_,rfl,_,rfl,_,rfl,_,_,rfl,rfl,m,xs,L,x,l,x',y',us',ss',s,(by simp),by omega,s3 _ _ nE,qU.aN (aQ.of s3),xS,by omega,ol.same FZ,pG,gs,zs,g1,g2,fun H4 s4=>?_⟩
       exact k _ (bA.trans (cA.of (s3.trans s4)))
     ·have er:(ys.drop (i+1)).isEmpty=false:=by
       cases e:ys.drop (i+1) with
       | nil =>
        have:=List.drop_eq_nil_iff.mp e
        omega
       | cons _ _=>rfl
      rw [er,Bool.false_and] at k
      exact cN (fun z=>wg (by have:=V.int.inj z;omega)) (k _ (bA.trans (cA.of s3)))
    | none =>
     refine dO ⟨_,rfl,_,rfl,xs,L,us',ss',x,l,rfl,s3 _ _ nE,qU.aN (aQ.of s3),ol.same FZ,tS,fun H4 s4=>⟨_,rfl,?_⟩⟩
     have E3:=s3.trans s4
     cases CP:mH ss' l with
     | none =>
      rw [C3 pG CP] at he
      rw [he] at k
      exact cT (k _ (bA.trans (cA.of E3)))
     | some ln =>
      refine dO ⟨_,rfl,.inl ⟨rfl,_,bz.of (E3 _ _ nE)⟩,_,rfl,_,rfl,xs,L,us',ss',x,l,ln,100*ss'.length+200,rfl,E3 _ _ nE,qU.aN (aQ.of E3),xS.x6,xS.gm,xS.sz,by omega,ol.same (sA.trans E3),tS,CP,fun r sm H5 s5 hIs S5=>?_⟩
      have OO:=E3.trans s5
      have P8:=OO _ _ nE
      refine ⟨L,_,_,rfl,rfl,P8,line _ (by omega),?_⟩
      have h5:aQ H5 (upd H5 L (.lst (us'++[V.ref r]))):=gi P8
      rw [uy pG CP hIs] at he
      exact ⟨_,_,us'++[V.ref r],ss'++[sm],rfl,(bA1.trans (cA.of OO)).trans cA.upd,ah,bR ((qU.aN (aQ.of OO)).aN h5) ⟨r,rfl,S5.aN h5⟩,xS.ln tS CP hIs,(by rw [List.length_append,hl1];rfl),hc,he⟩
   ·rintro σ H' ⟨o1,o2,us',ss',rfl,b1,nE,qU,xS,hl1,il,he⟩
    have bE:=(cA.of s1).trans b1
    rw [lp,List.drop_length,kJ] at he
    rw [he] at k
    have Mc:=aA qU
    by_cases hz:ss'=[]
    ·subst hz
     have hz2:us'=[]:=List.length_eq_zero_iff.mp Mc
     subst hz2
     exact ⟨_,rfl,L,_,rfl,.inl (bz.of nE),_,_,rfl,rfl,_,rfl,cN (by decide) (k _ bE)⟩
    ·have pos:0 < us'.length:=by
      rw [Mc]
      exact List.length_pos_iff.mpr hz
     obtain ⟨p,s',ep,es,S⟩:=qD qU (k:=us'.length - 1) (by omega)
     have eg:ss'.getLast?=some s':=by rw [List.getLast?_eq_getElem?,← Mc];exact es
     rw [eg] at k
     refine ⟨_,rfl,L,_,rfl,.inl (bz.of nE),_,_,rfl,rfl,_,rfl,cM (by show (0:Int) < (us'.length:Int);omega) ?_⟩
     exact ⟨_,rfl,_,rfl,L,_,_,_,rfl,rfl,bz.of nE,uJ pos ep,p,s'.1,s'.2,rfl,S,k _ bE⟩
abbrev iW:Stmt:=top 7
theorem AF:aW ["case","paper"] ["case","paper"] (au iW):=⟨rfl,rfl,rfl,by decide +kernel,rfl,by decide +kernel,by decide +kernel⟩
theorem AL {f C:Addr} {fd:FuncData} {n:Nat} (F:iU K "refutes" "refutes" iW f fd) (T:Txt K mg C) (J:kW K mg) (O:mD K C) (dP:Dn P w K mg base 1 "is_several" ["what"] (mX C)) (uA:Dn P w K mg base 3 "is_sum" ["what"] (nZ C)) (lW:Dn P w K mg base 52 "ends_well" ["lines","paper","splits"] (vN C 21)):cL P w K mg base iB 53 f fd ["case","paper"] (mY C):=by
 obtain ⟨iT,iD,cX,cO,cP,cW⟩:=dP
 obtain ⟨HR,D3,uQ,qb,qi,uI⟩:=uA
 obtain ⟨zX,ye,jF,iQ,iS,jD⟩:=lW
 obtain ⟨tMS,XG⟩:=J.most
 refine F.ok AF (fun vs H Q E h=>?_) (fun cdv A outer s H vs Q E hr h=>?_)
 ·obtain ⟨xs,c,v,o,us,ss,rfl,sq,hS,ls,MB,ho,gd,k⟩:=h
  rfl
 ·obtain ⟨xs,c,v,o,us,ss,rfl,sq,hS,ls,MB,ho,gd,k⟩:=h
  have hu:=cH hr
  rw [show az iW=[_,_] from rfl]
  refine ⟨_,(ak (cE (PW.pt (jg (eT (cZ (ao cX (hr.mono (by first | decide | omega)) rfl cO cP cW .nil aB (af (pv 0) ai)))) (jf (eT (cZ (aJ (o9 rfl) (by rfl) J.all boot_all (af (fc (ck ["total"] [] [] rfl (by decide +kernel) (by decide +kernel) (by with_unfolding_all rfl) (by exact trivial) (by rfl) rfl (by rfl)) rfl (nu (pv 0)) (fun _ _ _ _=>(aS (i:=0) (show List.Nodup (["total"]:List Str) by decide +kernel) rfl (Or.inl rfl) (Or.inr rfl))) (fun _ _ _ _=>dZ) (fun _ _ _ _=>(ao uQ (hr.mono (by first | decide | omega)) rfl qb qi uI .nil aB (af (pv 0) ai)))) ai))))))) (ay (aH fG)) bN)
   (ay (aH (ao jF (hr.mono (by first | decide | omega)) rfl iQ iS jD .nil aB (af (bV cV (by rfl) T.list boot_list (af (pv 0) ai)) (af (pv 1) (af (xM (v:=.int 20) rfl XG ⟨_,rfl⟩) ai))))))),?_⟩
  have GK:=aA hS
  refine ⟨_,rfl,.ref c,.sq (ss.map .sm),rfl,cD sq (FO hS),fun H1 s1=>⟨_,rfl,dO ?_⟩⟩
  have OI:=sq.same s1
  refine ⟨_,rfl,c,rfl,uE OI (fun i ys H'=>aP H1 H'∧ys=(List.replicate i true).map V.bl) ⟨aP.refl _,rfl⟩ (fun i ys H' q o z=>q.1 _ _ z) ?_ ?_⟩
  ·rintro i w ys H' hi ⟨s2,rfl⟩
   obtain ⟨sm,es,p,rfl,S⟩:=bf hS hi
   have gs:=ls.gm sm (List.mem_of_getElem? es)
   have hil:i < us.length:=(List.getElem?_eq_some_iff.mp hi).1
   refine ⟨Ext.one,kR ⟨_,rfl,_,.sm sm,rfl,yU (S.same (s1.trans s2)),(fun s' e=>by cases e;exact ⟨gs.1,gs.len ls.x6⟩),fun H3 s3=>⟨?_,s2.trans s3,ze i⟩⟩⟩
   rw [Ct];exact line _ (by omega)
  rintro ys H' ⟨s2,rfl⟩ q hq
  refine ⟨q,_,rfl,bz.of ah,_,rfl,yR (by rw [Cu];rfl) ?_⟩
  have s3:=(s1.trans s2).trans (new (o:=.lst ((List.replicate us.length true).map V.bl)) hq)
  refine ⟨_,rfl,c,us,rfl,lP (sq.same s3),fun L hL=>?_⟩
  have s4:=s3.trans (new (o:=.lst us) hL)
  have hL0:H L=none:=s3.free hL
  refine ⟨_,rfl,20,xs,L,v,o,H,us,ss,rfl,(by decide),ah,hS.aN (aQ.of s4),ls,by omega,hL0,s4,ho,gd,fun H5 b5=>?_⟩
  exact k _ fun b o z=>b5 _ _ (s4 _ _ z) (aF z hL0)
abbrev iZ:Stmt:=top 31
theorem AG:aW ["_law_thing","_law_least"] ["_law_thing","_law_least"] (au iZ):=⟨rfl,rfl,rfl,by decide +kernel,rfl,by decide +kernel,by decide +kernel⟩
theorem AN {f C:Addr} {fd:FuncData} {n:Nat} (F:iU K "_law_whole" "_law_whole" iZ f fd) (T:Txt K mg C) (J:kW K mg) (O:mD K C) :cL P w K mg base iB 1 f fd ["_law_thing","_law_least"] (rF C):=by
 refine F.ok AG (fun vs H Q E h=>?_) (fun cdv A outer s H vs Q E hr h=>?_)
 ·obtain ⟨v,o,m,rfl,ho,k⟩:=h
  rfl
 ·obtain ⟨v,o,m,rfl,ho,k⟩:=h
  have hu:=cH hr
  rw [show az iZ=[_] from rfl]
  refine ⟨_,(ay (aH (dc (aJ (iK (c:=.ty "int") trivial) (by rfl) T.isinstance boot_isinstance (af (pv 0) (af (fF (v:=.ty "int") rfl T.int boot_int rfl) ai))) (dc (Gk (aJ (iK (c:=.ty "bool") trivial) (by rfl) T.isinstance boot_isinstance (af (pv 0) (af (fF (v:=.ty "bool") rfl J.bool boot_bool rfl) ai)))) (gu (cG K5 (pv 0) (pv 1) (aO _))))))),?_⟩
  obtain ⟨ty,h1,_,_,h4,h5,_⟩:=ho.ty T O
  refine ⟨_,rfl,_,ty,_,_,rfl,h1,rfl,h4,_,rfl,?_⟩
  unfold wV at k
  have hn:=GB o
  cases hi:G2 o with
  | false =>
   rw [hi] at hn
   cases e:gJ o with
   | none=>rw [e] at k;exact dO k
   | some i=>rw [e] at hn;cases hn
  | true =>
   rw [hi] at hn
   refine cT ⟨_,rfl,_,ty,_,_,rfl,h1,rfl,h5 hi,_,rfl,_,rfl,?_⟩
   cases hb:Y4 o with
   | true =>
    rw [hb] at hn
    cases e:gJ o with
    | none=>rw [e] at k;exact dO k
    | some i=>rw [e] at hn;cases hn
   | false =>
    rw [hb] at hn
    cases e:gJ o with
    | none=>rw [e] at hn;cases hn
    | some i =>
     rw [e] at k
     obtain rfl:=CD ho e
     exact cT ⟨_,rfl,_,rfl,_,_,rfl,rfl,k⟩
abbrev m8:Stmt:=top 32
theorem FT:aW ["_law_thing","_law_many"] ["_law_thing","_law_many"] (au m8):=⟨rfl,rfl,rfl,by decide +kernel,rfl,by decide +kernel,by decide +kernel⟩
theorem Gy {f C:Addr} {fd:FuncData} {n:Nat} (F:iU K "_law_row" "_law_row" m8 f fd) (T:Txt K mg C) (J:kW K mg) (O:mD K C) :cL P w K mg base iB 1 f fd ["_law_thing","_law_many"] (xj C):=by
 refine F.ok FT (fun vs H Q E h=>?_) (fun cdv A outer s H vs Q E hr h=>?_)
 ·obtain ⟨v,o,m,rfl,ho,k⟩:=h
  rfl
 ·obtain ⟨v,o,m,rfl,ho,k⟩:=h
  have hu:=cH hr
  rw [show az m8=[_] from rfl]
  refine ⟨_,(ay (aH (dc (aJ mw (by rfl) T.isinstance boot_isinstance (af (pv 0) (af (aM (af (fF (v:=.ty "tuple") rfl T.tuple boot_tuple rfl) (af (fF (v:=.ty "list") rfl T.list boot_list rfl) ai))) ai))) (gu (cG cU (aJ aG (by rfl) T.len PySem.boot_len (af (pv 0) ai)) (pv 1) (aO _)))))),?_⟩
  refine ⟨_,rfl,(szl 2),fun t ht=>?_⟩
  obtain ⟨ty,h1,_,h3,_⟩:=(ho.same (new ht)).ty T O
  refine ⟨v,ty,t,_,"tuple","list",rfl,h1,cR.of ah,h3,_,rfl,?_⟩
  have s1:=new (o:=.tup [.ty "tuple",.ty "list"]) ht
  cases o with
  | sc u=>exact dO (k _ s1)
  | sm s=>exact dO (k _ s1)
  | sq ys =>
   obtain ⟨a,ws,rfl,sq,hp⟩:=cY (ho.same s1)
   have lp:=aA hp
   refine cT ⟨_,rfl,a,_,rfl,lP sq,_,rfl,rfl,?_⟩
   have k:=k _ s1
   have e:xG m (.sq ys)=decide (V.int (ws.length:Int)=V.int (m:Int)):=by
    rw [Il,lp]
    show decide (ys.length=m)=_
    by_cases z:ys.length=m
    ·rw [decide_eq_true z,decide_eq_true (by omega)]
    ·rw [decide_eq_false z,decide_eq_false (by omega)]
   rw [e] at k
   exact k
abbrev i8:Stmt:=top 33
theorem AH:aW ["_law_thing","_law_lines"] ["_law_thing","_law_lines"] (au i8):=⟨rfl,rfl,rfl,by decide +kernel,rfl,by decide +kernel,by decide +kernel⟩
theorem AR {f C:Addr} {fd:FuncData} {n:Nat} (F:iU K "_law_place" "_law_place" i8 f fd) (T:Txt K mg C) (J:kW K mg) (O:mD K C) (qt:Dn P w K mg base 1 "_law_whole" ["_law_thing","_law_least"] (rF C)):cL P w K mg base iB 2 f fd ["_law_thing","_law_lines"] (xo C):=by
 obtain ⟨D8,Bm,mF,kC,kG,mC⟩:=qt
 refine F.ok AH (fun vs H Q E h=>?_) (fun cdv A outer s H vs Q E hr h=>?_)
 ·obtain ⟨v,o,L,us,rfl,hL,ho,k⟩:=h
  rfl
 ·obtain ⟨v,o,L,us,rfl,hL,ho,k⟩:=h
  have hu:=cH hr
  rw [show az i8=[_] from rfl]
  refine ⟨_,(ay (aH (dc (ao mF (hr.mono (by first | decide | omega)) rfl kC kG mC .nil aB (af (pv 0) (af aj ai))) (gu (cG mO (pv 0) (aJ aG (by rfl) T.len PySem.boot_len (af (pv 1) ai)) (aO _)))))),?_⟩
  refine ⟨_,rfl,v,o,0,rfl,ho,_,rfl,?_⟩
  unfold Dj at k
  unfold wV
  cases hn:gJ o with
  | none =>
   rw [hn] at k
   exact dO k
  | some i =>
   rw [hn] at k
   obtain rfl:=CD ho hn
   have k:Q (.bl (decide (0≤i) && decide (i < (us.length:Int)))) H:=k
   by_cases h0:0≤i
   ·rw [decide_eq_true h0,Bool.true_and] at k
    exact E4 (decide_eq_true h0) ⟨_,rfl,_,rfl,L,_,rfl,.inl (bz.of hL),_,_,rfl,rfl,k⟩
   ·rw [decide_eq_false h0,Bool.false_and] at k
    exact yR (decide_eq_false h0) k
abbrev xg:Stmt:=inClass (top 2) 4
theorem Ds:aW ["self","number"] ["self","number"] (au xg):=⟨rfl,rfl,rfl,by decide +kernel,rfl,by decide +kernel,by decide +kernel⟩
theorem Dz {f C:Addr} {fd:FuncData} {n:Nat} (F:iU K "times" "Sum.times" xg f fd) (T:Txt K mg C) (J:kW K mg) (O:mD K C) (bZ:Dn P w K mg base 3 "sum_of" ["pairs","number"] (ef C)):cL P w K mg base iB 4 f fd ["self","number"] (sV C):=by
 obtain ⟨fq,d9,bK,aY,aZ,bD⟩:=bZ
 refine F.ok Ds (fun vs H Q E h=>?_) (fun cdv A outer s H vs Q E hr h=>?_)
 ·obtain ⟨p,a,n,kk,b9,rfl,S,hz,hsz,IZ,hk,k⟩:=h
  rfl
 ·obtain ⟨p,a,n,kk,b9,rfl,S,hz,hsz,IZ,hk,k⟩:=h
  have hu:=cH hr
  rw [show az xg=[_] from rfl]
  refine ⟨_,(ay (aH (ao bK (hr.mono (by first | decide | omega)) rfl aY aZ bD .nil aB (af (fc (ck ["thing","weight"] ["number"] [1] rfl (by decide +kernel) (by decide +kernel) (by with_unfolding_all rfl) (by exact ⟨rfl,trivial⟩) (by rfl) rfl (by rfl)) rfl (jJ (dz (pv 0) rfl)) (fun _ _ _ _=>(iP (K:=K) (n:=2) rfl rfl (bT (aS (i:=0) (show List.Nodup (["thing","weight","number"]:List Str) by decide +kernel) rfl (Or.inl rfl) (Or.inr rfl)) (bT (aS (i:=1) (show List.Nodup (["thing","weight","number"]:List Str) by decide +kernel) rfl (Or.inl rfl) (Or.inr rfl)) fW)))) (fun _ _ _ _=>dZ) (fun _ _ _ _=>(aM (af (pv 0) (af (aR rK (pv 1) (pv 2)) ai))))) (af (aR rK (dz (pv 0) rfl) (pv 1)) ai))))),?_⟩
  obtain ⟨dx,t,hp,ht,hz'⟩:=id S
  have tz:=line _ (show a.length≤100000 by omega)
  refine ⟨_,rfl,p,C,dx,_,_,rfl,hp,T.cl,T.nT,cF _ _,t,rfl,gK ht (fun i ys H'=>aP H H'∧vB H' ys ((a.take i).map fun q=>(q.1,q.2*kk))) ⟨aP.refl _,.nil⟩ (fun i ys H' q=>Kp.of q.1) ?_ ?_⟩
  ·rintro i v pr ys H' hi ⟨b,rfl,hb⟩ ⟨sm,py⟩
   have hil:i < a.length:=(List.getElem?_eq_some_iff.mp hi).1
   refine ⟨b,_,rfl,cR.of hb,rfl,_,_,rfl,_,_,rfl,rfl,Ext.two,kR ⟨_,rfl,_,rfl,_,rfl,_,_,rfl,rfl,⟨FF hsz IZ (List.mem_of_getElem? hi),Ci hk⟩,(szl 2),fun q hq=>⟨?_,aP.new sm hq,?_⟩⟩⟩
   ·rw [d7 py,List.length_map,List.length_take]
    omega
   ·rw [take_snoc hi,List.map_append]
    exact gk (py.keep fun _ _ z=>new hq _ _ z) (gH ⟨q,rfl,ah⟩)
  ·rintro ys H' ⟨sm,py⟩ q hq
   rw [List.take_length] at py
   have s1:aP H (upd H' q (.lst ys)):=aP.new sm hq
   refine ⟨_,rfl,p,C,dx,_,_,rfl,s1 _ _ hp,T.cl,T.nN,bX _ _,_,rfl,_,_,rfl,rfl,⟨FG hsz IZ,Ci hk⟩,?_⟩
   refine ⟨q,n*kk,_,rfl,.inl ⟨ys,ah,py.keep fun _ _ z=>new hq _ _ z⟩,by rw [List.length_map];exact hz,fun r ts H2 LM g l S2=>k r ts H2 (s1.trans LM) g (by rw [List.length_map] at l;exact l) S2⟩
abbrev j9:Stmt:=top 34
theorem jU:aW ["_law_lines","_law_line_here","_law_terms","_law_found","_law_pair"] ["_law_lines","_law_line_here"] (au j9):=⟨rfl,rfl,rfl,by decide +kernel,rfl,by decide +kernel,by decide +kernel⟩
theorem DC {f C:Addr} {fd:FuncData} {n:Nat} (F:iU K "_law_line" "_law_line" j9 f fd) (T:Txt K mg C) (J:kW K mg) (O:mD K C) (yp:Dn P w K mg base 1 "_law_row" ["_law_thing","_law_many"] (xj C)) (Ek:Dn P w K mg base 2 "_law_place" ["_law_thing","_law_lines"] (xo C)) (qt:Dn P w K mg base 1 "_law_whole" ["_law_thing","_law_least"] (rF C)) (bZ:Dn P w K mg base 3 "sum_of" ["pairs","number"] (ef C)) (nG:Mt P w K mg base 4 C "plus" ["self","other"] (pO C)) (Io:Mt P w K mg base 4 C "times" ["self","number"] (sV C)):cL P w K mg base iB 6 f fd ["_law_lines","_law_line_here"] (xw C):=by
 obtain ⟨Kd,Hv,pC,lJ,lR,pe⟩:=yp
 obtain ⟨NZ,ML,wG,tY,uh,wF⟩:=Ek
 obtain ⟨D8,Bm,mF,kC,kG,mC⟩:=qt
 obtain ⟨fq,d9,bK,aY,aZ,bD⟩:=bZ
 obtain ⟨Bp,yd,fU,lN,fS⟩:=nG
 obtain ⟨Qg,NS,eX,jz,eW⟩:=Io
 refine F.ok jU (fun vs H Q E h=>?_) (fun cdv A outer s H vs Q E hr h=>?_)
 ·obtain ⟨xs,L,us,ss,v,o,b9,rfl,hL,hS,hx,hg,hsz,IZ,ho,ok,k0,k1⟩:=h
  rfl
 ·obtain ⟨xs,L,us,ss,v,o,b9,rfl,hL,hS,hx,hg,hsz,IZ,ho,ok,k0,k1⟩:=h
  have hu:=cH hr
  rw [show az j9=[_,_,_,_,_] from rfl]
  refine ⟨_,(ak (cE (PW.pt (nk (cZ (ao pC (hr.mono (by first | decide | omega)) rfl lJ lR pe .nil aB (af (pv 1) (af aj ai)))) (nk (bh cU (aD aX (pv 1) aj (fun _ _=>rfl)) cB (aO _)) (nk (cZ (ao wG (hr.mono (by first | decide | omega)) rfl tY uh wF .nil aB (af (aD aX (pv 1) aj (fun _ _=>rfl)) (af (pv 0) ai)))) (oq (cZ (ao mF (hr.mono (by first | decide | omega)) rfl kC kG mC .nil aB (af (aD aX (pv 1) aj (fun _ _=>rfl)) (af aj ai))))))))) (ak (bq (i:=2) jU.nd rfl (Or.inl rfl) (dz (aD aI (pv 0) (aD aX (pv 1) aj (fun _ _=>rfl)) (fun _ _=>rfl)) rfl))
   (ak (cE (bh (zg (uN hr)) (fc (ck ["_law_thing","_law_times"] ["_law_line_here"] [1] rfl (by decide +kernel) (by decide +kernel) (by with_unfolding_all rfl) (by exact ⟨rfl,trivial⟩) (by rfl) rfl (by rfl)) rfl (jJ (pv 2)) (fun _ _ _ _=>(iP (K:=K) (n:=2) rfl rfl (bT (aS (i:=0) (show List.Nodup (["_law_thing","_law_times","_law_line_here"]:List Str) by decide +kernel) rfl (Or.inl rfl) (Or.inr rfl)) (bT (aS (i:=1) (show List.Nodup (["_law_thing","_law_times","_law_line_here"]:List Str) by decide +kernel) rfl (Or.inl rfl) (Or.inr rfl)) fW)))) (fun _ _ _ _=>(Cv (bh oz (aR pZ (pv 1) (aD (CJ (K:=K) rfl) (pv 2) aj (fun _ _=>rfl))) aj (aO _)))) (fun _ _ _ _=>aj)) (bP ai) (aO _)) (ay (aH kr)) bN)
   (ay (aH (ao bK (hr.mono (by first | decide | omega)) rfl aY aZ bD .nil aB (af (fc (ck ["_law_thing","_law_times"] ["_law_line_here"] [1] rfl (by decide +kernel) (by decide +kernel) (by with_unfolding_all rfl) (by exact ⟨rfl,trivial⟩) (by rfl) rfl (by rfl)) rfl (jJ (pv 2)) (fun _ _ _ _=>(iP (K:=K) (n:=2) rfl rfl (bT (aS (i:=0) (show List.Nodup (["_law_thing","_law_times","_law_line_here"]:List Str) by decide +kernel) rfl (Or.inl rfl) (Or.inr rfl)) (bT (aS (i:=1) (show List.Nodup (["_law_thing","_law_times","_law_line_here"]:List Str) by decide +kernel) rfl (Or.inl rfl) (Or.inr rfl)) fW)))) (fun _ _ _ _=>dZ) (fun _ _ _ _=>(aM (af (pv 0) (af (aR oA (pv 1) (aD (CJ (K:=K) rfl) (pv 2) aj (fun _ _=>rfl))) ai))))) (af (aR oA (dz (aD aI (pv 0) (aD aX (pv 1) aj (fun _ _=>rfl)) (fun _ _=>rfl)) rfl) (aD aX (pv 1) aj (fun _ _=>rfl))) ai))))))) bN)
   (ak (cE (PW.pt (jg (eT (cZ (ao pC (hr.mono (by first | decide | omega)) rfl lJ lR pe .nil aB (af (pv 1) (af aj ai))))) (jg (bh oz (aD aX (pv 1) aj (fun _ _=>rfl)) cB (aO _)) (jg (eT (cZ (aJ mw (by rfl) T.isinstance boot_isinstance (af (aD aX (pv 1) aj (fun _ _=>rfl)) (af (aM (af (fF (v:=.ty "tuple") rfl T.tuple boot_tuple rfl) (af (fF (v:=.ty "list") rfl T.list boot_list rfl) ai))) ai))))) (jf (bh cU (aJ aG (by rfl) T.len PySem.boot_len (af (aD aX (pv 1) aj (fun _ _=>rfl)) ai)) aj (aO _))))))) (ay (aH kr)) bN)
   (ak (bq (i:=3) jU.nd rfl (Or.inl rfl) (ao bK (hr.mono (by first | decide | omega)) rfl aY aZ bD .nil aB (af (aM ai) (af aj ai))))
   (ak (gZ PassesOwn.never rfl (nu (aD aX (pv 1) aj (fun _ _=>rfl))) (aS (i:=4) jU.nd rfl (Or.inl rfl)) (ak (cE (PW.pt (jg (eT (cZ (ao pC (hr.mono (by first | decide | omega)) rfl lJ lR pe .nil aB (af (pv 4) (af aj ai))))) (jg (eT (cZ (ao mF (hr.mono (by first | decide | omega)) rfl kC kG mC .nil aB (af (aD aX (pv 4) aj (fun _ _=>rfl)) (af aj ai))))) (jf (eT (cZ (ao wG (hr.mono (by first | decide | omega)) rfl tY uh wF .nil aB (af (aD aX (pv 4) aj (fun _ _=>rfl)) (af (pv 0) ai))))))))) (ay (aH kr)) bN)
   (ay (bq (i:=3) jU.nd rfl (Or.inl rfl) (fX (pv 3) T.cl lN fU (hr.mono (by first | decide | omega)) fS .nil aB (af (fX (aD aI (pv 0) (aD aX (pv 4) aj (fun _ _=>rfl)) (fun _ _=>rfl)) T.cl jz eX (hr.mono (by first | decide | omega)) eW .nil aB (af (aD aX (pv 4) aj (fun _ _=>rfl)) ai)) ai))))))
   (ay (aH (pv 3))))))),?_⟩
  have hl:=aA hS
  refine ⟨_,rfl,v,o,3,rfl,ho,fun H1 s1=>⟨_,rfl,?_⟩⟩
  have nE:=s1 _ _ hL
  have qU:=hS.aN (aQ.of s1)
  cases h3:xG 3 o with
  | true =>
   obtain ⟨ys,rfl,l3⟩:=xF h3
   obtain ⟨h,b,d,rfl⟩:=Mf l3
   obtain ⟨a,ws,rfl,sq,hp⟩:=cY (ho.same s1)
   obtain ⟨u1,u2,u3,rfl,o1,o2,o3⟩:=lF hp
   obtain ⟨u,rfl⟩:=ok.hd h _ rfl
   obtain ⟨e1,e2⟩:=ql o1 "cut"
   have As:=qf ss (.sc u) b d
   refine cT ⟨_,rfl,gA sq rfl ⟨e1,_,rfl,?_⟩⟩
   rw [e2]
   by_cases z:hdS (.sc u)=some ("cut":Str)
   ·rw [decide_eq_true z,Bool.true_and] at As
    refine cM z ⟨_,rfl,gA sq rfl ⟨_,rfl,u2,b,L,us,rfl,nE,o2,_,rfl,?_⟩⟩
    rw [← hl] at As
    cases h4:Dj us.length b with
    | false =>
     rw [h4,Bool.false_and] at As
     refine dO (dO ⟨_,rfl,_,_,2,rfl,ho.same s1,fun H2 s2=>⟨_,rfl,cT (cT (k0 (dm As) _ (s1.trans s2)))⟩⟩)
    | true =>
     rw [h4,Bool.true_and] at As
     refine cT ⟨_,rfl,gA sq rfl ⟨u3,d,1,rfl,o3,_,rfl,?_⟩⟩
     rw [Cg]
     cases h5:jB d with
     | false =>
      rw [h5,Bool.false_and] at As
      refine dO ⟨_,rfl,_,_,2,rfl,ho.same s1,fun H2 s2=>⟨_,rfl,cT (cT (k0 (dm As) _ (s1.trans s2)))⟩⟩
     | true =>
      rw [h5,Bool.true_and] at As
      obtain ⟨i,hi,rfl⟩:=lX h4
      obtain ⟨j,hj,rfl⟩:=jn h5
      obtain ⟨rfl,_⟩:=pU o2
      obtain ⟨rfl,_⟩:=pU o3
      obtain ⟨p,s,ep,es,S⟩:=qD qU hi
      have As:(mH ss (.sq [.sc u,.sc (.int i),.sc (.int j)])).isSome=((ss.getD (i:Int).toNat s0).1.all fun q=>decide (q.2 % j=0)):=As
      rw [Int.toNat_natCast,fH es] at As
      obtain ⟨dx,tt,hp1,Mw,hz⟩:=id S
      have G:=hg s (List.mem_of_getElem? es)
      have l6:=G.len hx
      refine cT ⟨_,rfl,_,rfl,gA sq rfl ⟨L,_,_,_,rfl,rfl,bz.of nE,aK ep,p,C,dx,_,_,rfl,hp1,T.cl,T.nT,cF _ _,?_⟩⟩
      refine ⟨_,rfl,tt,rfl,gK Mw (fun i ys H'=>H'=H1∧ys=((s.1.take i).filter fun q=>!decide (q.2 % j=0)).map fun _=>V.int 1) ⟨rfl,rfl⟩ (fun i ys H' q=>q.1 ▸ Kp.refl) ?_ ?_⟩
      ·rintro i0 v pr ys H' hi0 ⟨b,rfl,hb⟩ ⟨rfl,rfl⟩
       have hil:i0 < s.1.length:=(List.getElem?_eq_some_iff.mp hi0).1
       refine ⟨b,_,rfl,cR.of hb,rfl,_,_,rfl,_,_,rfl,rfl,Ext.two,_,rfl,_,rfl,gA sq rfl ⟨_,_,rfl,rfl,(show 0 < j by omega),rfl,_,rfl,?_⟩⟩
       rw [Il]
       by_cases z0:pr.2 % j=0
       ·refine yR (by rw [decide_eq_true z0];rfl) ⟨rfl,?_⟩
        rw [take_snoc hi0,List.filter_append]
        simp [z0]
       ·refine E4 (by rw [decide_eq_false z0];rfl) ⟨?_,rfl,?_⟩
        ·rw [List.length_map]
         have:((s.1.take i0).filter fun q=>!decide (q.2 % j=0)).length≤(s.1.take i0).length:=List.length_filter_le _ _
         rw [List.length_take] at this
         exact line _ (by omega)
        ·rw [take_snoc hi0,List.filter_append]
         simp [z0]
      rintro ys H' ⟨rfl,rfl⟩ q1 hq1
      rw [List.take_length]
      refine ⟨Nat.zero_le _,fun q2 hq2=>?_⟩
      have s2:=(new (o:=.lst ((s.1.filter fun q=>!decide (q.2 % j=0)).map fun _=>V.int 1)) hq1).trans (new (o:=.lst []) hq2)
      refine ⟨q1,q2,_,rfl,rfl,bz.of (new hq2 _ _ ah),bz.of ah,_,rfl,?_⟩
      cases hall:s.1.all fun q=>decide (q.2 % j=0) with
      | false =>
       rw [hall] at As
       refine E4 ?_ (k0 (dm As) _ (s1.trans s2))
       rw [decide_eq_false]
       ·rfl
       ·intro e
        have e:=List.map_eq_nil_iff.mp e
        have:(s.1.all fun q=>decide (q.2 % j=0))=true:=by
         rw [List.all_eq_true]
         intro q hq
         by_cases z9:q.2 % j=0
         ·exact decide_eq_true z9
         ·have:q∈s.1.filter fun q=>!decide (q.2 % j=0):=List.mem_filter.mpr ⟨hq,by rw [decide_eq_false z9];rfl⟩
          rw [e] at this
          cases this
        rw [hall] at this
        cases this
      | true =>
       have hm:∀ q∈s.1,q.2 % j=0:=fun q hq=>of_decide_eq_true (List.all_eq_true.mp hall q hq)
       have CP:∃ l,mH ss (.sq [.sc u,.sc (.int i),.sc (.int j)])=some l:=Option.isSome_iff_exists.mp (by rw [As];exact hall)
       obtain ⟨l,CP⟩:=CP
       have hl9:l=.cut i j:=by
        rcases mj CP with ⟨k',d',e',el,_⟩ | ⟨_,_,e',_⟩
        ·cases e'
         exact el
        ·cases e'
       subst hl9
       have j70:j < 2 ^ 70:=ok.nb ss _ CP
       refine yR (by rw [decide_eq_true];rfl;exact List.map_eq_nil_iff.mpr (List.filter_eq_nil_iff.mpr fun q hq=>by rw [decide_eq_true (hm q hq)];simp)) ?_
       have LI:=sq.same s2
       generalize upd (upd H' q1 (.lst ((s.1.filter fun q=>!decide (q.2 % j=0)).map fun _=>V.int 1))) q2 (.lst [])=H2 at s2 LI ⊢
       have Y9:=Mw.same s2
       refine ⟨_,rfl,tt,rfl,gK Y9 (fun i ys H'=>aP H2 H'∧vB H' ys ((s.1.take i).map fun q=>(q.1,q.2 / j))) ⟨aP.refl _,.nil⟩ (fun i ys H' q=>Kp.of q.1) ?_ ?_⟩
       ·rintro i0 v pr ys H3 hi0 ⟨b,rfl,hb⟩ ⟨sm,py⟩
        have hil:i0 < s.1.length:=(List.getElem?_eq_some_iff.mp hi0).1
        refine ⟨b,_,rfl,cR.of hb,rfl,_,_,rfl,_,_,rfl,rfl,Ext.two,kR ⟨_,rfl,_,rfl,_,rfl,gA (LI.same sm) rfl ⟨_,_,rfl,rfl,⟨(show 0 < j by omega),(show j < 2 ^ 100 by omega)⟩,(szl 2),fun q hq=>⟨?_,aP.new sm hq,?_⟩⟩⟩⟩
        ·rw [d7 py,List.length_map,List.length_take]
         exact line _ (by omega)
        ·rw [take_snoc hi0,List.map_append]
         exact gk (py.keep fun _ _ z=>new hq _ _ z) (gH ⟨q,rfl,ah⟩)
       rintro ys H3 ⟨sm,py⟩ q hq
       rw [List.take_length] at py
       have s3:aP H2 (upd H3 q (.lst ys)):=aP.new sm hq
       have Vy:=s2.trans s3
       refine ⟨_,rfl,_,rfl,gA (LI.same s3) rfl ⟨L,_,_,_,rfl,rfl,bz.of (Vy _ _ nE),aK ep,p,C,dx,_,_,rfl,Vy _ _ hp1,T.cl,T.nN,bX _ _,_,rfl,gA (LI.same s3) rfl ⟨_,_,rfl,rfl,⟨(show 0 < j by omega),(show j < 2 ^ 100 by omega)⟩,?_⟩⟩⟩
       refine ⟨q,s.2 / j,s.1.map fun q=>(q.1,q.2 / j),rfl,.inl ⟨ys,ah,py.keep fun _ _ z=>new hq _ _ z⟩,by rw [List.length_map];omega,fun r ts H4 s4 g _ S4=>?_⟩
       have ec:Canon (s.1.map fun q=>(q.1,q.2 / j)):=jY (f:=fun q=>q.2 / j) G.1 fun q hq=>Ik hj (G.1.nz q hq) (hm q hq)
       have et:ts=s.1.map fun q=>(q.1,q.2 / j):=wj ec g
       subst et
       exact k1 _ r (s.1.map fun q=>(q.1,q.2 / j),s.2 / j) H4 CP ((s1.trans Vy).trans s4) ⟨s,es,rfl⟩ S4
   ·rw [decide_eq_false z,Bool.false_and] at As
    refine cN z (dO ⟨_,rfl,_,_,2,rfl,ho.same s1,fun H2 s2=>⟨_,rfl,cT (cT (k0 (dm As) _ (s1.trans s2)))⟩⟩)
  | false =>
   refine dO (dO ⟨_,rfl,v,o,2,rfl,ho.same s1,fun H2 s2=>⟨_,rfl,?_⟩⟩)
   have s12:=s1.trans s2
   cases h2:xG 2 o with
   | false=>exact cT (cT (k0 (GQ h2 h3) _ s12))
   | true =>
    obtain ⟨ys,rfl,l2⟩:=xF h2
    obtain ⟨h,b,rfl⟩:=v8 l2
    obtain ⟨a,ws,rfl,sq,hp⟩:=cY (ho.same s12)
    obtain ⟨u1,u2,rfl,o1,o2⟩:=jI hp
    obtain ⟨u,rfl⟩:=ok.hd h _ rfl
    obtain ⟨e1,e2⟩:=ql o1 "add"
    have NK:=xU ss (.sc u) b
    refine dO ⟨_,rfl,gA sq rfl ⟨e1,_,rfl,?_⟩⟩
    rw [e2]
    by_cases z:hdS (.sc u)=some ("add":Str)
    ·rw [decide_eq_true z,Bool.true_and] at NK
     refine yR (by rw [decide_eq_true z];rfl) ⟨_,rfl,gA sq rfl ⟨(szl 2),fun t ht=>?_⟩⟩
     have st:=new (o:=.tup [.ty "tuple",.ty "list"]) ht
     obtain ⟨ty,h1,_,h3',_⟩:=(o2.same st).ty T O
     refine ⟨u2,ty,t,_,"tuple","list",rfl,h1,cR.of ah,h3',_,rfl,?_⟩
     have s3:=s12.trans st
     have UU:=sq.same st
     have o23:=o2.same st
     generalize upd H2 t (.tup [.ty "tuple",.ty "list"])=H3 at st s3 UU o23 ⊢
     cases b with
     | sc w=>exact cT (cT (k0 (dm NK) _ s3))
     | sm w=>exact cT (cT (k0 (dm NK) _ s3))
     | sq ps =>
      obtain ⟨a2,IU,rfl,OH,PX⟩:=cY o23
      have Su:=aA PX
      have K9:ps.length≤10:=(ok.le _ rfl).2 _ _ rfl
      refine dO ⟨_,rfl,gA UU rfl ⟨a2,_,rfl,lP OH,rfl,_,rfl,?_⟩⟩
      by_cases h0:ps=[]
      ·subst h0
       have hv0:IU=[]:=List.length_eq_zero_iff.mp Su
       exact cM (by rw [hv0];rfl) (k0 (dm NK) _ s3)
      ·have hp0:0 < ps.length:=List.length_pos_iff.mpr h0
       refine cN (fun z=>by have:=V.int.inj z;omega) ⟨Nat.zero_le _,fun t0 ht0=>?_⟩
       refine ⟨t0,0,[],rfl,.inr ⟨[],ah,.nil⟩,by decide,fun r0 ts0 H4 s4 g0 tl0 S4=>?_⟩
       have E3:=(new (o:=.tup []) ht0).trans s4
       have sH4:=s3.trans E3
       have sq4:=UU.same E3
       have US:=OH.same E3
       refine ⟨_,rfl,gA sq4 rfl ⟨a2,rfl,CW US (fun i σ H'=>∃ (o4:Option V) (r:Addr) (t:Sm) (ws:List (Int×Nat)),σ=[some (.ref L),some (.ref a),none,some (.ref r),o4]∧aP H4 H'∧cJ C H' r t.1 t.2∧mK (jv ss ws) t.1∧t.2=kL ss ws∧gQ ss.length (ps.take i)=some ws) ⟨none,r0,(ts0,0),[],rfl,aP.refl _,S4,g0,rfl,rfl⟩ (fun i σ H' q o z=>(let ⟨_,_,_,_,_,s,_⟩:=q;s _ _ z)) ?_ ?_⟩⟩
       ·rintro i w σ H5 hi ⟨o4,r,t,ws,rfl,s5,Sr,gt,et,hw⟩
        obtain ⟨p,J6,op⟩:=bf PX hi
        have il:i < ps.length:=(List.getElem?_eq_some_iff.mp J6).1
        have op5:=(op.same E3).same s5
        have OO:=E3.trans s5
        refine ⟨_,rfl,w,p,2,rfl,op5,fun H6 s6=>⟨_,rfl,?_⟩⟩
        have NF:=(s3.trans OO).trans s6
        have bad:nP ss.length p=none→mH ss (.sq [.sc u,.sq ps])=none:=fun e=>GR (vH J6 e)
        cases hr2:xG 2 p with
        | false=>exact cT (cT (k0 (bad (by cases p with | sc v=>rfl | sm s=>rfl | sq ys=>exact wX (of_decide_eq_false hr2))) _ NF))
        | true =>
         obtain ⟨zs,rfl,z2⟩:=xF hr2
         obtain ⟨p1,p2,rfl⟩:=v8 z2
         obtain ⟨aq,qs,rfl,E2,hq2⟩:=cY (op5.same s6)
         obtain ⟨v1,v2,rfl,o5,o6⟩:=jI hq2
         have w2:=wW ss.length p1 p2
         refine dO ⟨_,rfl,gA E2 rfl ⟨v1,p1,1,rfl,o5,_,rfl,?_⟩⟩
         rw [Cg]
         cases hf1:jB p1 with
         | false =>
          rw [hf1,Bool.false_and] at w2
          exact cT (cT (k0 (bad (dm w2)) _ NF))
         | true =>
          rw [hf1,Bool.true_and] at w2
          refine dO ⟨_,rfl,gA E2 rfl ⟨_,rfl,v2,p2,L,us,rfl,NF _ _ hL,o6,_,rfl,?_⟩⟩
          rw [← hl] at w2
          cases hf2:Dj us.length p2 with
          | false =>
           rw [hf2,hl] at w2
           exact cT (k0 (bad (dm w2)) _ NF)
          | true =>
           obtain ⟨k2,hk2,rfl⟩:=lX hf2
           obtain ⟨w1,hw1,rfl⟩:=jn hf1
           obtain ⟨rfl,_⟩:=pU o5
           obtain ⟨rfl,_⟩:=pU o6
           have hwo:nP ss.length (.sq [.sc (.int w1),.sc (.int k2)])=some (w1,k2):=by
            show (if 1≤w1∧0≤(k2:Int)∧(k2:Int) < (ss.length:Int) then some (w1,(k2:Int).toNat) else none)=_
            rw [if_pos ⟨hw1,by omega,by omega⟩,Int.toNat_natCast]
           have w70:w1.natAbs < 2 ^ 70:=AY (jh (oF (jh (oF (jh (oF ok.nn) (x:=.sq ps) (by simp))) (List.mem_of_getElem? J6))) (x:=.sc (.int w1)) (by simp))
           obtain ⟨p9,s9,ep9,Up,S9⟩:=qD (hS.aN (aQ.of NF)) hk2
           have G9:=hg s9 (List.mem_of_getElem? Up)
           have Z9:=hsz s9 (List.mem_of_getElem? Up)
           have l9:=G9.len hx
           obtain ⟨dx9,t9,e9,_,_⟩:=id S9
           have Sr6:=Sr.same s6
           obtain ⟨Z1,tr,er,_,_⟩:=id Sr6
           have Gt:Gm xs t:=qo (n:=t.2) gt (yu hg fun q hq=>by
            have pw:=pN hw
            obtain ⟨j,hj⟩:=List.mem_iff_getElem?.mp hq
            have lp:=aA pw
            have jl:j < (ps.take i).length:=by rw [lp];exact (List.getElem?_eq_some_iff.mp hj).1
            obtain ⟨w',PK,_,_,h3⟩:=bf pw (List.getElem?_eq_getElem jl)
            rw [hj] at PK
            cases PK
            exact h3)
           have lt:=Gt.len hx
           refine dO ⟨_,rfl,r,Z1,_,rfl,er,eS _ _ (by decide +kernel) (by decide +kernel),_,rfl,_,rfl,gA E2 rfl ⟨L,_,_,_,rfl,rfl,bz.of (NF _ _ hL),aK ep9,p9,dx9,_,rfl,e9,eS _ _ (by decide +kernel) (by decide +kernel),_,rfl,gA E2 rfl ?_⟩⟩
           refine ⟨p9,s9.1,s9.2,w1,b9,rfl,S9,by omega,Z9,IZ,w70,fun r5 NB H7 s7 g5 Oj S5=>?_⟩
           refine ⟨r,r5,t.1,NB,t.2,_,rfl,Sr6.same s7,S5,by omega,fun r6 KU H8 s8 g6 NC S6=>?_⟩
           refine ⟨_,r6,(KU,t.2+s9.2*w1),ws++[(w1,k2)],rfl,((s5.trans s6).trans s7).trans s8,S6,Iw (fH Up) gt g5 g6,?_,?_⟩
           ·show t.2+s9.2*w1=_
            rw [qx,et,fH Up,Int.mul_comm]
           ·rw [take_snoc J6]
            exact vG hw hwo
       ·rintro σ H5 ⟨o4,r,t,ws,rfl,s5,Sr,gt,et,hw⟩
        rw [Su,List.take_length] at hw
        exact ⟨_,rfl,k1 (.add ws) r t H5 (A8 z h0 hw) (sH4.trans s5) ⟨gt,et⟩ Sr⟩
    ·rw [decide_eq_false z,Bool.false_and] at NK
     exact E4 (by rw [decide_eq_false z];rfl) (cT (k0 (dm NK) _ s12))
abbrev i6:Stmt:=top 35
theorem je:aW ["_law_case","_law_paper","_law_deep","_law_lines","_law_at","_law_line_here","_law_found"] ["_law_case","_law_paper","_law_deep"] (au i6):=⟨rfl,rfl,rfl,by decide +kernel,rfl,by decide +kernel,by decide +kernel⟩
theorem AO {f C:Addr} {fd:FuncData} {n:Nat} (F:iU K "_law_sound" "_law_sound" i6 f fd) (T:Txt K mg C) (J:kW K mg) (O:mD K C) (Ir:Dn P w K mg base 6 "_law_line" ["_law_lines","_law_line_here"] (xw C)) (yp:Dn P w K mg base 1 "_law_row" ["_law_thing","_law_many"] (xj C)) (bZ:Dn P w K mg base 3 "sum_of" ["pairs","number"] (ef C)) (Bx:Mt P w K mg base 5 C "less" ["self","other"] (xx C)) (qu:Dn P w K mg base (n+8) "_law_sound" ["_law_case","_law_paper","_law_deep"] (jS C n)):cL P w K mg base iB (n+9) f fd ["_law_case","_law_paper","_law_deep"] (jS C (n+1)):=by
 obtain ⟨Qj,NU,IG,DJ,DM,IA⟩:=Ir
 obtain ⟨Kd,Hv,pC,lJ,lR,pe⟩:=yp
 obtain ⟨fq,d9,bK,aY,aZ,bD⟩:=bZ
 obtain ⟨MQ,J8,kO,xR,kM⟩:=Bx
 obtain ⟨D9,Bo,j0,ji,jk,jZ⟩:=qu
 refine F.ok je (fun vs H Q E h=>?_) (fun cdv A outer s H vs Q E hr h=>?_)
 ·obtain ⟨n0,xs,c,v,o,us,ss,rfl,Zk,hn,sq,hS,ls,hlen,ho,gd,k⟩:=h
  rfl
 ·obtain ⟨n0,xs,c,v,o,us,ss,rfl,Zk,hn,sq,hS,ls,hlen,ho,gd,k⟩:=h
  have hu:=cH hr
  rw [show az i6=[_,_,_,_] from rfl]
  refine ⟨_,(ak (bq (i:=3) je.nd rfl (Or.inl rfl) (bV cV (by rfl) T.list boot_list (af (pv 0) ai)))
   (ak (cE (eT (cZ (aJ mw (by rfl) T.isinstance boot_isinstance (af (pv 1) (af (aM (af (fF (v:=.ty "tuple") rfl T.tuple boot_tuple rfl) (af (fF (v:=.ty "list") rfl T.list boot_list rfl) ai))) ai))))) (ay (aH fG)) bN)
   (ak (gZ PassesOwn.never rfl (fu rfl T.range (af (aJ aG (by rfl) T.len PySem.boot_len (af (pv 1) ai)) ai)) (aS (i:=4) je.nd rfl (Or.inl rfl)) (ak (bq (i:=5) je.nd rfl (Or.inl rfl) (aD aX (pv 1) (pv 4) (fun _ _=>rfl)))
   (ak (bq (i:=6) je.nd rfl (Or.inl rfl) (ao IG (hr.mono (by first | decide | omega)) rfl DJ DM IA .nil aB (af (pv 3) (af (pv 5) ai))))
   (ay (cE (bh JI (pv 6) kr (aO _)) (ay (iC (mL PySem.F.plainAttrs_list PySem.F.slot_list_append PySem.F.type_list_append fY (pv 3) (af (pv 6) ai)))) (ay (cE (PW.pt (jg (bh mO (pv 4) (aR ia (aJ aG (by rfl) T.len PySem.boot_len (af (pv 1) ai)) aj) (aO _)) (jg (bh cU (pv 2) aj (aO _)) (jf (eT (cZ (ao pC (hr.mono (by first | decide | omega)) rfl lJ lR pe .nil aB (af (pv 5) (af aj ai))))))))) (ay (aH fG)) (ay (cE (PW.pt (jg (bh oz (aD aX (pv 5) aj (fun _ _=>rfl)) cB (aO _)) (jf (eT (cZ (aJ (iK (c:=.ref C) trivial) (by rfl) T.isinstance boot_isinstance (af (aD aX (pv 5) aj (fun _ _=>rfl)) (af (xM (v:=.ref C) rfl T.ua rfl) ai)))))))) (ay (aH fG)) (ak (cE (eT (cZ (ao j0 (hr.mono (by first | decide | omega)) rfl ji jk jZ .nil aB (af (aR fz (pv 3) (bP (af (aD aX (pv 5) aj (fun _ _=>rfl)) ai))) (af (aD aX (pv 5) aj (fun _ _=>rfl)) (af (aR cS (pv 2) aj) ai)))))) (ay (aH fG)) bN)
   (ay (aH (ao j0 (hr.mono (by first | decide | omega)) rfl ji jk jZ .nil aB (af (aR fz (pv 3) (bP (af (fX (ao bK (hr.mono (by first | decide | omega)) rfl aY aZ bD .nil aB (af (aM ai) (af (fE dw aj) ai))) T.cl xR kO (hr.mono (by first | decide | omega)) kM .nil aB (af (aD aX (pv 5) aj (fun _ _=>rfl)) ai)) ai))) (af (aD aX (pv 5) aj (fun _ _=>rfl)) (af (aR cS (pv 2) aj) ai))))))))))))))))
   (ay (aH (dc (cG (zg (uN hr)) (pv 3) (bP ai) (aO _)) (dc (cG (Gu (uN hr)) (dz (aD aI (pv 3) (fE dw aj) (fun _ _=>rfl)) rfl) (aM ai) (aO _)) (gu (cG mO (dz (aD aI (pv 3) (fE dw aj) (fun _ _=>rfl)) rfl) aj (aO _)))))))))),?_⟩
  have GK:=aA hS
  refine ⟨_,rfl,c,us,rfl,lP sq,fun L hL=>?_⟩
  have sL:=new (o:=.lst us) hL
  have eL:(upd H L (.lst us)) L=some (.lst us):=ah
  generalize upd H L (.lst us)=H1 at sL eL ⊢
  refine ⟨_,rfl,(szl 2),fun t ht=>?_⟩
  have st:=new (o:=.tup [.ty "tuple",.ty "list"]) ht
  have K0:=sL.trans st
  obtain ⟨ty,h1,_,h3,_⟩:=(ho.same K0).ty T O
  refine ⟨v,ty,t,_,"tuple","list",rfl,h1,cR.of ah,h3,_,rfl,?_⟩
  have eL2:=st _ _ eL
  generalize upd H1 t (.tup [.ty "tuple",.ty "list"])=H2 at st K0 eL2 ⊢
  clear h1 h3
  cases o with
  | sc u =>
   rw [HW] at k
   exact cT (k _ K0)
  | sm u =>
   rw [HV] at k
   exact cT (k _ K0)
  | sq ys =>
   obtain ⟨pp,vs,rfl,E2,hp⟩:=cY ho
   have lp:=aA hp
   obtain ⟨l9,Wj⟩:=gd.ln
   rw [ig] at k
   refine dO ⟨_,rfl,pp,_,rfl,lP (E2.same K0),(vs.length:Int),rfl,by omega,by omega,fZ (n:=(vs.length:Int).toNat) (fun i σ H'=>∃ (o4 o5 o6:Option V) (us':List V) (ss':List Sm),σ=[some (.ref c),some (.ref pp),some (.int (20 - (n0:Int))),some (.ref L),o4,o5,o6]∧cA L H2 H'∧H' L=some (.lst us')∧vA C H' us' ss'∧LsOk xs ss'∧ss'.length=ss.length+i∧i≤ys.length∧qp (kF n0) ss ys=qp (kF n0) ss' (ys.drop i)) ⟨none,none,none,us,ss,rfl,fun _ _ z _=>z,eL2,hS.aN (aQ.of K0),ls,rfl,Nat.zero_le _,rfl⟩ ?_ ?_⟩
   ·rintro i σ H3 hi ⟨o4,o5,o6,us',ss',rfl,b1,nE,qU,xS,hl1,il,he⟩
    have hi:i < vs.length:=hi
    rw [show (0:Int)+(i:Int)=(i:Int) from Int.zero_add _]
    have FZ:aP H H3:=fun b o z=>b1 _ _ (K0 _ _ z) (aF z hL)
    have hxi:=List.getElem?_eq_getElem hi
    generalize vs[i]=x at hxi
    obtain ⟨l,hli,ol⟩:=bf hp hxi
    have hc:i < ys.length:=(List.getElem?_eq_some_iff.mp hli).1
    have hdr:ys.drop i=l::ys.drop (i+1):=by
     rw [List.drop_eq_getElem_cons hc]
     rw [List.getElem?_eq_getElem hc] at hli
     rw [Option.some.inj hli]
    rw [hdr] at he
    have hlm:=List.mem_of_getElem? hli
    have tS:=Wj l hlm
    have XH:=aA qU
    refine ⟨_,rfl,_,rfl,gA (E2.same FZ) (aK hxi) ?_⟩
    refine ⟨_,rfl,_,rfl,xs,L,us',ss',x,l,100*ss'.length+200,rfl,nE,qU,xS.x6,xS.gm,xS.sz,by omega,ol.same FZ,tS,fun hnone H4 s4=>?_,fun ln r s H4 CP s4 hIs S4=>?_⟩
    ·refine ⟨_,rfl,rfl,_,rfl,yR (by rw [decide_eq_true rfl];rfl) ?_⟩
     have OP:=FZ.trans s4
     have UQ:=E2.same OP
     have bad:nY l=none→qp (kF n0) ss ys=false:=fun e=>by rw [he,C3 e hnone]
     refine ⟨_,rfl,_,rfl,pp,_,rfl,lP UQ,_,_,rfl,rfl,_,_,rfl,rfl,_,rfl,?_⟩
     by_cases wg:i+1 < ys.length
     ·have e:qp (kF n0) ss ys=false:=by
       cases pG:nY l with
       | none=>exact bad pG
       | some w =>
        obtain ⟨s,x',y'⟩:=w
        rw [he,ir pG]
        have er:(ys.drop (i+1)).isEmpty=false:=by
         cases e:ys.drop (i+1) with
         | nil=>have:=List.drop_eq_nil_iff.mp e;omega
         | cons _ _=>rfl
        rw [er];rfl
      rw [e] at k
      exact cM (by show (i:Int) < (vs.length:Int) - 1;omega) (cT (k _ OP))
     ·have er:(ys.drop (i+1)).isEmpty=true:=by rw [List.drop_of_length_le (by omega)];rfl
      refine cN (by show ¬ (i:Int) < (vs.length:Int) - 1;omega) ⟨_,rfl,rfl,_,rfl,?_⟩
      cases n0 with
      | zero =>
       have e:qp (kF 0) ss ys=false:=by
        cases pG:nY l with
        | none=>exact bad pG
        | some w =>
         obtain ⟨s,x',y'⟩:=w
         rw [he,ir pG]
         exact Bool.and_false _
       rw [e] at k
       exact cM (by decide) (cT (k _ OP))
      | succ m =>
       refine cN (fun z=>by have:=V.int.inj z;omega) ⟨_,rfl,x,l,4,rfl,ol.same OP,fun H5 s5=>⟨_,rfl,?_⟩⟩
       have KZ:=OP.trans s5
       cases h4:xG 4 l with
       | false =>
        have e:nY l=none:=by
         cases l with
         | sc v=>rfl
         | sm s=>rfl
         | sq zs=>exact Cp (of_decide_eq_false h4)
        rw [bad e] at k
        exact cT (k _ KZ)
       | true =>
        obtain ⟨zs,rfl,z4⟩:=xF h4
        obtain ⟨h,b,x',y',rfl⟩:=Pu z4
        obtain ⟨a,ws,rfl,sql,hpl⟩:=cY ol
        obtain ⟨u1,u2,q1,q2,rfl,p1,p2,p3,p4⟩:=mh hpl
        obtain ⟨u,rfl⟩:=tS.hd h _ rfl
        obtain ⟨e1,e2⟩:=ql (p1.same KZ) "split"
        have LH:=sql.same KZ
        refine dO ⟨_,rfl,gA LH rfl ⟨e1,_,rfl,?_⟩⟩
        rw [e2]
        by_cases z:hdS (.sc u)=some ("split":Str)
        ·refine yR (by rw [decide_eq_true z];rfl) ⟨_,rfl,gA LH rfl ?_⟩
         obtain ⟨ty,t1,_,_,_,_,t6⟩:=(p2.same KZ).ty T O
         refine ⟨u2,ty,_,_,rfl,t1,rfl,t6,_,rfl,?_⟩
         have Pb:DS b=false→nY (.sq [.sc u,b,x',y'])=none:=fun e=>dm (by rw [nX,e,Bool.and_false])
         cases b with
         | sc w =>
          rw [bad (Pb rfl)] at k
          exact cT (k _ KZ)
         | sq w =>
          rw [bad (Pb rfl)] at k
          exact cT (k _ KZ)
         | sm s =>
          have pG:nY (.sq [.sc u,.sm s,x',y'])=some (s,x',y'):=by
           show (if hdS (.sc u)=some ("split":Str) then some (s,x',y') else none)=_
           rw [if_pos z]
          rw [he,ir pG,er,Bool.true_and] at k
          have ZD:=(gd ys rfl).2 _ hlm
          obtain ⟨gs,zs'⟩:=tS.sp s x' y' pG
          obtain ⟨g1,g2⟩:=ZD.2 s x' y' pG
          obtain ⟨p,rfl,S⟩:=LL p2
          have P8:=(s4.trans s5) _ _ nE
          have hS5:=qU.aN (aQ.of (s4.trans s5))
          have lone:∀ s1:Sm,(ss'++[s1]).length+10*(m+1)≤500:=fun s1=>by rw [List.length_append];show ss'.length+1+_≤_;omega
          refine dO ⟨_,rfl,_,rfl,gA LH rfl ⟨(Nat.le_of_lt (line 1 (by decide))),fun l1 h1=>?_⟩⟩
          have y1:=new (o:=.lst [V.ref p]) h1
          refine ⟨L,l1,us',[V.ref p],rfl,rfl,y1 _ _ P8,ah,(Nat.le_of_lt (line _ (by show us'.length+1≤_;omega))),fun l2 h2=>?_⟩
          have y2:=y1.trans (new (o:=.lst (us'++[V.ref p])) h2)
          have Sf:=KZ.trans y2
          refine ⟨_,rfl,gA (sql.same Sf) rfl ⟨_,rfl,_,_,rfl,rfl,m,xs,l2,q1,x',us'++[V.ref p],ss'++[s],(by show [_,_,V.int ((20:Int) - ((m+1:Nat):Int)+1)]=_;rw [show (20:Int) - ((m+1:Nat):Int)+1=20 - (m:Int) by omega]),by omega,by omega,.inl ah,bR (hS5.aN (aQ.of y2)) ⟨p,rfl,S.same Sf⟩,xS.add gs (zs'.mono (by decide)),lone s,p3.same Sf,g1,fun H6 s6=>⟨_,rfl,?_⟩⟩⟩
          have VA:=Sf.trans s6
          have y7:=y2.trans s6
          cases hb:kZ m (ss'++[s]) x' with
          | false =>
           have k:∀ H',aP H H'→Q (.bl (kZ m (ss'++[s]) x' && kZ m (ss'++[tR s]) y')) H':=k
           rw [hb,Bool.false_and] at k
           exact cT (k _ VA)
          | true =>
           have k:∀ H',aP H H'→Q (.bl (kZ m (ss'++[s]) x' && kZ m (ss'++[tR s]) y')) H':=k
           rw [hb,Bool.true_and] at k
           refine dO ⟨_,rfl,Nat.zero_le _,fun t0 ht0=>⟨_,rfl,t0,-1,[],rfl,.inr ⟨[],ah,.nil⟩,by decide,fun r3 ts3 H8 s8 g8 tl8 S8=>?_⟩⟩
           have y8:=(new (o:=.tup []) ht0).trans s8
           have s08:=VA.trans y8
           obtain ⟨Z2,t3,e3,_,_⟩:=id S8
           have gl:=gs.len xS.x6
           have lt3:ts3=[]:=Canon.same g8.1 Canon.nil g8.2
           refine ⟨r3,Z2,_,rfl,e3,eS _ _ (by decide +kernel) (by decide +kernel),_,rfl,gA (sql.same s08) rfl ⟨r3,p,ts3,s.1,_,s.2,rfl,S8,S.same s08,(by rw [lt3];show 0+s.1.length < 64;omega),fun r4 ts4 H9 s9 g9 tl9 S9=>⟨(Nat.le_of_lt (line 1 (by decide))),fun l5 h5=>?_⟩⟩⟩
           obtain ⟨eo1,eo2⟩:=Gr gs g8 g9
           subst eo1
           have S9:cJ C H9 r4 (tR s).1 (tR s).2:=by rw [← eo2];exact S9
           have y9:=(y8.trans s9).trans (new (o:=.lst [V.ref r4]) h5)
           refine ⟨L,l5,us',[V.ref r4],rfl,rfl,y9 _ _ (y7 _ _ P8),ah,(Nat.le_of_lt (line _ (by show us'.length+1≤_;omega))),fun l6 h6=>?_⟩
           have y10:=y9.trans (new (o:=.lst (us'++[V.ref r4])) h6)
           have Vz:=VA.trans y10
           have S10:=(S9.same (new (o:=.lst [V.ref r4]) h5)).same (new (o:=.lst (us'++[V.ref r4])) h6)
           exact ⟨_,rfl,gA (sql.same Vz) rfl ⟨_,rfl,_,_,rfl,rfl,m,xs,l6,q2,y',us'++[V.ref r4],ss'++[tR s],(by show [_,_,V.int ((20:Int) - ((m+1:Nat):Int)+1)]=_;rw [show (20:Int) - ((m+1:Nat):Int)+1=20 - (m:Int) by omega]),by omega,by omega,.inl ah,bR (hS5.aN (aQ.of (y7.trans y10))) ⟨r4,rfl,S10⟩,xS.add (ya gs) (Cn zs'),lone _,p4.same Vz,g2,fun H11 s11=>k _ (Vz.trans s11)⟩⟩
        ·have e:nY (.sq [.sc u,b,x',y'])=none:=dm (by rw [nX,decide_eq_false z,Bool.false_and])
         rw [bad e] at k
         exact E4 (by rw [decide_eq_false z];rfl) (cT (k _ KZ))
    ·refine ⟨_,rfl,rfl,_,rfl,E4 (by rw [decide_eq_false (fun z=>nomatch z)];rfl) ?_⟩
     have Zw:=s4 _ _ nE
     refine ⟨_,rfl,.inl ⟨rfl,_,bz.of Zw⟩,_,rfl,L,_,_,rfl,rfl,Zw,line _ (by omega),?_⟩
     have h5:aQ H4 (upd H4 L (.lst (us'++[V.ref r]))):=gi Zw
     rw [uy (Pp CP) CP hIs] at he
     exact ⟨_,_,_,us'++[V.ref r],ss'++[s],rfl,(b1.trans (cA.of s4)).trans cA.upd,ah,bR ((qU.aN (aQ.of s4)).aN h5) ⟨r,rfl,S4.aN h5⟩,xS.ln tS CP hIs,(by rw [List.length_append,hl1];rfl),hc,he⟩
   ·rintro σ H3 ⟨o4,o5,o6,us',ss',rfl,b1,nE,qU,xS,hl1,il,he⟩
    have FZ:aP H H3:=fun b o z=>b1 _ _ (K0 _ _ z) (aF z hL)
    have evl:(vs.length:Int).toNat=ys.length:=by rw [lp];rfl
    rw [evl,List.drop_length,kJ] at he
    rw [he] at k
    have Mc:=aA qU
    refine ⟨_,rfl,Nat.zero_le _,fun q hq=>?_⟩
    have yq:=new (o:=.lst []) hq
    refine ⟨L,q,us',rfl,rfl,bz.of (yq _ _ nE),bz.of ah,_,rfl,?_⟩
    by_cases hz:ss'=[]
    ·subst hz
     have hz2:us'=[]:=List.length_eq_zero_iff.mp Mc
     exact yR (by rw [decide_eq_true hz2];rfl) (k _ (FZ.trans yq))
    ·have pos:0 < us'.length:=by
      rw [Mc]
      exact List.length_pos_iff.mpr hz
     have IX:us'≠[]:=List.length_pos_iff.mp pos
     obtain ⟨p,s',ep,es,S⟩:=qD qU (k:=us'.length - 1) (by omega)
     have eg:ss'.getLast?=some s':=by rw [List.getLast?_eq_getElem?,← Mc];exact es
     rw [eg] at k
     have k:∀ H',aP H H'→Q (.bl (s'.1.isEmpty && decide (s'.2 < 0))) H':=k
     obtain ⟨dx,tt,hp1,⟨ws,ew,pw⟩,hz'⟩:=S.same yq
     have lw:=aA pw
     refine E4 (by rw [decide_eq_false IX];rfl) ⟨_,rfl,_,rfl,L,_,_,_,rfl,rfl,bz.of (yq _ _ nE),uJ pos ep,p,C,dx,_,_,rfl,hp1,T.cl,T.nT,cF _ _,Nat.zero_le _,fun q2 hq2=>?_⟩
     have y2:=new (o:=.tup []) hq2
     refine ⟨tt,q2,ws,rfl,rfl,cR.of (y2 _ _ ew),cR.of ah,_,rfl,?_⟩
     by_cases hw0:s'.1=[]
     ·have hws:ws=[]:=List.length_eq_zero_iff.mp (by rw [lw,hw0];rfl)
      rw [hw0] at k
      exact cM hws ⟨_,rfl,_,rfl,L,_,_,_,rfl,rfl,bz.of (y2 _ _ (yq _ _ nE)),uJ pos ep,p,C,dx,_,_,rfl,y2 _ _ hp1,T.cl,T.nN,bX _ _,_,_,rfl,rfl,k _ ((FZ.trans yq).trans y2)⟩
     ·have hws:ws≠[]:=fun z=>hw0 (List.length_eq_zero_iff.mp (by rw [← lw,z];rfl))
      have ei:s'.1.isEmpty=false:=by cases h:s'.1 with | nil=>exact absurd h hw0 | cons _ _=>rfl
      rw [ei,Bool.false_and] at k
      exact cN hws (k _ ((FZ.trans yq).trans y2))
abbrev m9:Stmt:=top 37
theorem FU:aW ["_law_row_here","_law_at","_law_thing"] ["_law_row_here","_law_at","_law_thing"] (au m9):=⟨rfl,rfl,rfl,by decide +kernel,rfl,by decide +kernel,by decide +kernel⟩
seal L2.PE L2.PS L2.rR L2.PA L2.PT in
theorem Gz {f C:Addr} {fd:FuncData} {n:Nat} (F:iU K "_law_put" "_law_put" m9 f fd) (T:Txt K mg C) (J:kW K mg) (O:mD K C) :cL P w K mg base iB 1 f fd ["_law_row_here","_law_at","_law_thing"] sW:=by
 refine F.ok FU (fun vs H Q E h=>?_) (fun cdv A outer s H vs Q E hr h=>?_)
 ·obtain ⟨a,us,kk,v,rfl,sq,hk,hl,k⟩:=h
  rfl
 ·obtain ⟨a,us,kk,v,rfl,sq,hk,hl,k⟩:=h
  have hu:=cH hr
  rw [show az m9=[_] from rfl]
  refine ⟨_,(ay (aH (aR fz (aR fz (bV cV (by rfl) T.list boot_list (af (eF Cr (pv 0) fD (fB (pv 1))) ai)) (bP (af (pv 2) ai))) (bV cV (by rfl) T.list boot_list (af (eF Cr (pv 0) (fB (aR cS (pv 1) aj)) fD) ai))))),?_⟩
  refine ⟨_,rfl,_,rfl,_,rfl,a,us,rfl,sq,Ac hk,fun p1 o1 h1 IY=>?_⟩
  rw [uC] at IY
  have s1:=new (o:=o1) h1
  have OI:vz (upd H p1 o1) p1 (us.take kk):=by rcases IY with e | e <;> subst e <;> first | exact .inl ah | exact .inr ah
  refine ⟨p1,_,rfl,lP OI,fun l1 hl1=>⟨_,rfl,(Nat.le_of_lt (line 1 (by decide))),fun q1 hq1=>?_⟩⟩
  have s2:=s1.trans (new (o:=.lst (us.take kk)) hl1)
  have s3:=s2.trans (new (o:=.lst [v]) hq1)
  have e1:(upd (upd (upd H p1 o1) l1 (.lst (us.take kk))) q1 (.lst [v])) l1=some (.lst (us.take kk)):=new hq1 _ _ ah
  refine ⟨l1,q1,us.take kk,[v],rfl,rfl,e1,ah,(by rw [List.length_take];show _+1≤_;exact Nat.le_of_lt (line _ (by omega))),fun l2 hl2=>?_⟩
  have s4:=s3.trans (new (o:=.lst (us.take kk++[v])) hl2)
  have e2:(upd (upd (upd (upd H p1 o1) l1 (.lst (us.take kk))) q1 (.lst [v])) l2 (.lst (us.take kk++[v]))) l2=some (.lst (us.take kk++[v])):=ah
  generalize upd (upd (upd (upd H p1 o1) l1 (.lst (us.take kk))) q1 (.lst [v])) l2 (.lst (us.take kk++[v]))=H4 at s4 e2 ⊢
  refine ⟨_,rfl,_,rfl,_,_,rfl,rfl,_,rfl,a,us,rfl,sq.same s4,BD hk,fun p5 o5 h5 ho5=>?_⟩
  rw [show ((kk:Int)+1)=((kk+1:Nat):Int) from rfl,oX] at ho5
  have s5:=new (o:=o5) h5
  have sq5:vz (upd H4 p5 o5) p5 (us.drop (kk+1)):=by rcases ho5 with e | e <;> subst e <;> first | exact .inl ah | exact .inr ah
  refine ⟨p5,_,rfl,lP sq5,fun l6 hl6=>?_⟩
  have s6:=s5.trans (new (o:=.lst (us.drop (kk+1))) hl6)
  refine ⟨l2,l6,us.take kk++[v],us.drop (kk+1),rfl,rfl,s6 _ _ e2,ah,(by rw [List.length_append,List.length_take,List.length_drop];show _+1+_≤_;exact Nat.le_of_lt (line _ (by omega))),fun r hr0=>?_⟩
  exact k r _ ((s4.trans s6).trans (new hr0)) ((s4.trans s6).free hr0) ah
abbrev nc:Stmt:=top 36
theorem yW:aW ["_law_draw","_law_lines","_law_some"] ["_law_draw","_law_lines"] (au nc):=⟨rfl,rfl,rfl,by decide +kernel,rfl,by decide +kernel,by decide +kernel⟩
seal L2.PE L2.PS L2.rR L2.PA L2.PT in
theorem GA {f C:Addr} {fd:FuncData} {n:Nat} (F:iU K "_law_odd" "_law_odd" nc f fd) (T:Txt K mg C) (J:kW K mg) (O:mD K C) (dg:Dn P w K mg base 2 "_law_next" ["_law_draw","_law_size"] iX):cL P w K mg base iB 3 f fd ["_law_draw","_law_lines"] (FN C):=by
 obtain ⟨iJ,gD,bw,aT,aU,bu⟩:=dg
 refine F.ok yW (fun vs H Q E h=>?_) (fun cdv A outer s H vs Q E hr h=>?_)
 ·obtain ⟨d,m,rfl,hd,hm,k⟩:=h
  rfl
 ·obtain ⟨d,m,rfl,hd,hm,k⟩:=h
  have hu:=cH hr
  rw [show az nc=[_,_] from rfl]
  refine ⟨_,(ak (bq (i:=2) yW.nd rfl (Or.inl rfl) (bP (af aj (af aj (af (fE dw aj) (af (pv 1) (af (aR ia (pv 1) aj) (af (aR cS (pv 1) aj) (af fG (af fG (af kr (af cB (af (aM ai) (af aj (af aj (af (aR L0 aj aj) ai))))))))))))))))
   (ay (aH (aD aI (pv 2) (ao bw (hr.mono (by first | decide | omega)) rfl aT aU bu .nil aB (af (pv 0) (af aj ai))) (fun _ _=>rfl))))),?_⟩
  refine ⟨_,rfl,_,rfl,_,rfl,_,_,rfl,rfl,_,rfl,_,_,rfl,rfl,Nat.zero_le _,fun t ht=>⟨_,_,rfl,rfl,⟨by decide,by decide,by decide⟩,(szl 14),fun l hl=>?_⟩⟩
  have st:=new (o:=.tup []) ht
  have sl:=new (o:=.lst [V.int 0,.int 1,.int (-1),.int m,.int (m - 1),.int (m+1),.bl true,.bl false,.gc,.str "1",.ref t,.int 2,.int 3,.int ((10:Int) ^ (20:Int).toNat)]) hl
  have nA:l≠d:=(hd.same st).ne hl
  have ntd:t≠d:=hd.ne ht
  refine ⟨_,rfl,_,rfl,d,14,rfl,(hd.same st).same sl,by decide,fun r H1 hr1 b1 d1=>?_⟩
  have Bt:H1 t=some (.tup []):=b1 _ _ (sl _ _ ah) ntd
  obtain ⟨v,o,hz,ov,nb,od⟩:∃ v o,([V.int 0,.int 1,.int (-1),.int m,.int (m - 1),.int (m+1),.bl true,.bl false,.gc,.str "1",.ref t,.int 2,.int 3,.int ((10:Int) ^ (20:Int).toNat)]:List V)[r]?=some v∧bW C H1 v o∧iM o∧((∃ u,o=.sc u)∨o=.sq []):=by
   have:r=0∨r=1∨r=2∨r=3∨r=4∨r=5∨r=6∨r=7∨r=8∨r=9∨r=10∨r=11∨r=12∨r=13:=by omega
   rcases this with e | e | e | e | e | e | e | e | e | e | e | e | e | e <;> subst e
   ·exact ⟨_,.sc _,rfl,cz rfl,br (by omega),.inl ⟨_,rfl⟩⟩
   ·exact ⟨_,.sc _,rfl,cz rfl,br (by omega),.inl ⟨_,rfl⟩⟩
   ·exact ⟨_,.sc _,rfl,cz rfl,br (by omega),.inl ⟨_,rfl⟩⟩
   ·exact ⟨_,.sc _,rfl,cz rfl,br (by omega),.inl ⟨_,rfl⟩⟩
   ·exact ⟨_,.sc _,rfl,cz rfl,br (by omega),.inl ⟨_,rfl⟩⟩
   ·exact ⟨_,.sc _,rfl,cz rfl,br (by omega),.inl ⟨_,rfl⟩⟩
   ·exact ⟨_,.sc _,rfl,cz rfl,(by unfold iM;trivial),.inl ⟨_,rfl⟩⟩
   ·exact ⟨_,.sc _,rfl,cz rfl,(by unfold iM;trivial),.inl ⟨_,rfl⟩⟩
   ·exact ⟨_,.sc _,rfl,cz rfl,(by unfold iM;trivial),.inl ⟨_,rfl⟩⟩
   ·exact ⟨_,.sc _,rfl,cz rfl,(by unfold iM;trivial),.inl ⟨_,rfl⟩⟩
   ·exact ⟨.ref t,.sq [],rfl,cD (.inr Bt) .nil,cI bQ,.inr rfl⟩
   ·exact ⟨_,.sc _,rfl,cz rfl,br (by decide),.inl ⟨_,rfl⟩⟩
   ·exact ⟨_,.sc _,rfl,cz rfl,br (by decide),.inl ⟨_,rfl⟩⟩
   ·exact ⟨_,.sc _,rfl,cz rfl,br (by decide),.inl ⟨_,rfl⟩⟩
  exact ⟨l,_,_,_,rfl,rfl,bz.of (b1 _ _ ah nA),aK hz,k v o H1 (((cA.of st).trans (cA.of sl)).trans b1) d1 ov ⟨nb,od⟩⟩
abbrev gS:Stmt:=top 42
theorem jx:aW ["_law_deep","_law_paper","_law_k"] ["_law_deep"] (au gS):=⟨rfl,rfl,rfl,by decide +kernel,rfl,by decide +kernel,by decide +kernel⟩
seal L2.PE L2.PS L2.rR L2.PA L2.PT in
theorem zj {f C:Addr} {fd:FuncData} {n:Nat} (F:iU K "_law_nested" "_law_nested" gS f fd) (T:Txt K mg C) (J:kW K mg) (O:mD K C) (bZ:Dn P w K mg base 3 "sum_of" ["pairs","number"] (ef C)):cL P w K mg base iB 5 f fd ["_law_deep"] (Az C):=by
 obtain ⟨fq,d9,bK,aY,aZ,bD⟩:=bZ
 refine F.ok jx (fun vs H Q E h=>?_) (fun cdv A outer s H vs Q E hr h=>?_)
 ·obtain ⟨n,rfl,hn,k⟩:=h
  rfl
 ·obtain ⟨n,rfl,hn,k⟩:=h
  have hu:=cH hr
  rw [show az gS=[_,_,_] from rfl]
  refine ⟨_,(ak (bq (i:=1) jx.nd rfl (Or.inl rfl) (aM (af (aM (af cB (af (aM (af (aM (af aj (af aj ai))) ai)) ai))) ai)))
   (ak (gZ PassesOwn.never rfl (fu rfl T.range (af (pv 0) ai)) (aS (i:=2) jx.nd rfl (Or.inl rfl)) (ay (bq (i:=1) jx.nd rfl (Or.inl rfl) (aM (af (aM (af cB (af (ao bK (hr.mono (by first | decide | omega)) rfl aY aZ bD .nil aB (af (aM ai) (af aj ai))) (af (pv 1) (af (aM ai) ai))))) ai)))))
   (ay (aH (pv 1))))),?_⟩
  refine ⟨(szl 2),fun t1 h1=>⟨(Nat.le_of_lt (line 1 (by decide))),fun t2 h2=>⟨(szl 2),fun t3 h3=>⟨(Nat.le_of_lt (line 1 (by decide))),fun t4 h4=>?_⟩⟩⟩⟩
  have y1:=new (o:=.tup [V.int 1,.int 0]) h1
  have y2:=new (o:=.tup [V.ref t1]) h2
  have y3:=new (o:=.tup [V.str "add",.ref t2]) h3
  have y4:=new (o:=.tup [V.ref t3]) h4
  have yy:=((y1.trans y2).trans y3).trans y4
  have b0:iO C (upd (upd (upd (upd H t1 (.tup [V.int 1,.int 0])) t2 (.tup [V.ref t1])) t3 (.tup [V.str "add",.ref t2])) t4 (.tup [V.ref t3])) (.ref t4) (.sq [cy [(1,0)]]):=by
   refine gB ah (.cons (gB (y4 _ _ ah) (.cons (iV rfl) (.cons (gB (y4 _ _ (y3 _ _ ah)) (.cons (gB (y4 _ _ (y3 _ _ (y2 _ _ ah))) (.cons (iV rfl) (.cons (iV rfl) .nil))) .nil)) .nil))) .nil)
  generalize upd (upd (upd (upd H t1 (.tup [V.int 1,.int 0])) t2 (.tup [V.ref t1])) t3 (.tup [V.str "add",.ref t2])) t4 (.tup [V.ref t3])=H0 at yy b0 ⊢
  refine ⟨_,rfl,(n:Int),rfl,by omega,by omega,fZ (n:=(n:Int).toNat) (fun i σ H'=>∃ (v:V) (o2:Option V),σ=[some (.int (n:Int)),some v,o2]∧aP H H'∧iO C H' v (lG i)) ⟨_,none,rfl,yy,b0⟩ ?_ ?_⟩
  ·rintro i σ H1 hi ⟨v,o2,rfl,s1,ov⟩
   refine ⟨Nat.zero_le _,fun t0 ht0=>⟨t0,0,[],rfl,.inr ⟨[],ah,.nil⟩,by decide,fun r ts H2 s2 g _ S2=>⟨_,rfl,Nat.zero_le _,fun t5 h5=>⟨(szl 4),fun t6 h6=>⟨(Nat.le_of_lt (line 1 (by decide))),fun t7 h7=>?_⟩⟩⟩⟩⟩
   have e0:ts=[]:=Canon.same g.1 Canon.nil g.2
   subst e0
   have z5:=new (o:=.tup []) h5
   have z6:=new (o:=.tup [V.str "split",.ref r,v,.ref t5]) h6
   have z7:=new (o:=.tup [V.ref t6]) h7
   have sA:=((new (o:=.tup []) ht0).trans s2).trans ((z5.trans z6).trans z7)
   refine ⟨_,_,rfl,s1.trans sA,?_⟩
   exact gB ah (.cons (gB (z7 _ _ ah) (.cons (iV rfl) (.cons (Fz (((S2.same z5).same z6).same z7)) (.cons (ov.aN (aQ.of sA)) (.cons (gB (z7 _ _ (z6 _ _ ah)) .nil) .nil))))) .nil)
  ·rintro σ H1 ⟨v,o2,rfl,s1,ov⟩
   exact ⟨_,rfl,k v H1 s1 ov⟩
abbrev i9:Stmt:=top 43
theorem ki:aW ["_law_deep","_law_paper","_law_k"] ["_law_deep"] (au i9):=⟨rfl,rfl,rfl,by decide +kernel,rfl,by decide +kernel,by decide +kernel⟩
seal L2.PE L2.PS L2.rR L2.PA L2.PT in
theorem AS {f C:Addr} {fd:FuncData} {n:Nat} (F:iU K "_law_bushy" "_law_bushy" i9 f fd) (T:Txt K mg C) (J:kW K mg) (O:mD K C) (bZ:Dn P w K mg base 3 "sum_of" ["pairs","number"] (ef C)):cL P w K mg base iB 5 f fd ["_law_deep"] (AB C):=by
 obtain ⟨fq,d9,bK,aY,aZ,bD⟩:=bZ
 refine F.ok ki (fun vs H Q E h=>?_) (fun cdv A outer s H vs Q E hr h=>?_)
 ·obtain ⟨n,rfl,hn,k⟩:=h
  rfl
 ·obtain ⟨n,rfl,hn,k⟩:=h
  have hu:=cH hr
  rw [show az i9=[_,_,_] from rfl]
  refine ⟨_,(ak (bq (i:=1) ki.nd rfl (Or.inl rfl) (aM (af (aM (af cB (af (aM (af (aM (af aj (af aj ai))) ai)) ai))) ai)))
   (ak (gZ PassesOwn.never rfl (fu rfl T.range (af (pv 0) ai)) (aS (i:=2) ki.nd rfl (Or.inl rfl)) (ay (bq (i:=1) ki.nd rfl (Or.inl rfl) (aM (af (aM (af cB (af (ao bK (hr.mono (by first | decide | omega)) rfl aY aZ bD .nil aB (af (aM (af (aM (af cB (af aj ai))) ai)) (af (pv 2) ai))) (af (pv 1) (af (pv 1) ai))))) ai)))))
   (ay (aH (pv 1))))),?_⟩
  refine ⟨(szl 2),fun t1 h1=>⟨(Nat.le_of_lt (line 1 (by decide))),fun t2 h2=>⟨(szl 2),fun t3 h3=>⟨(Nat.le_of_lt (line 1 (by decide))),fun t4 h4=>?_⟩⟩⟩⟩
  have y1:=new (o:=.tup [V.int 1,.int 0]) h1
  have y2:=new (o:=.tup [V.ref t1]) h2
  have y3:=new (o:=.tup [V.str "add",.ref t2]) h3
  have y4:=new (o:=.tup [V.ref t3]) h4
  have yy:=((y1.trans y2).trans y3).trans y4
  have b0:iO C (upd (upd (upd (upd H t1 (.tup [V.int 1,.int 0])) t2 (.tup [V.ref t1])) t3 (.tup [V.str "add",.ref t2])) t4 (.tup [V.ref t3])) (.ref t4) (.sq [cy [(1,0)]]):=by
   refine gB ah (.cons (gB (y4 _ _ ah) (.cons (iV rfl) (.cons (gB (y4 _ _ (y3 _ _ ah)) (.cons (gB (y4 _ _ (y3 _ _ (y2 _ _ ah))) (.cons (iV rfl) (.cons (iV rfl) .nil))) .nil)) .nil))) .nil)
  generalize upd (upd (upd (upd H t1 (.tup [V.int 1,.int 0])) t2 (.tup [V.ref t1])) t3 (.tup [V.str "add",.ref t2])) t4 (.tup [V.ref t3])=H0 at yy b0 ⊢
  refine ⟨_,rfl,(n:Int),rfl,by omega,by omega,fZ (n:=(n:Int).toNat) (fun i σ H'=>∃ (v:V) (o2:Option V),σ=[some (.int (n:Int)),some v,o2]∧aP H H'∧iO C H' v (jC i)) ⟨_,none,rfl,yy,b0⟩ ?_ ?_⟩
  ·rintro i σ H1 hi ⟨v,o2,rfl,s1,ov⟩
   rw [show (0:Int)+(i:Int)=(i:Int) from Int.zero_add _]
   refine ⟨(szl 2),fun a1 g1=>⟨(Nat.le_of_lt (line 1 (by decide))),fun a2 g2=>⟨_,rfl,a2,(i:Int),[("?0",1)],rfl,.inr ⟨[V.ref a1],ah,gH ⟨a1,rfl,new g2 _ _ ah⟩⟩,by decide,fun r ts H2 s2 g _ S2=>⟨_,rfl,_,rfl,(szl 4),fun t6 h6=>⟨(Nat.le_of_lt (line 1 (by decide))),fun t7 h7=>?_⟩⟩⟩⟩⟩
   have e0:ts=[(("?0":Str),(1:Int))]:=wj Rz g
   subst e0
   have z6:=new (o:=.tup [V.str "split",.ref r,v,v]) h6
   have z7:=new (o:=.tup [V.ref t6]) h7
   have sA:=(((new (o:=.tup [V.str "?0",.int 1]) g1).trans (new (o:=.tup [V.ref a1]) g2)).trans s2).trans (z6.trans z7)
   refine ⟨_,_,rfl,s1.trans sA,?_⟩
   exact gB ah (.cons (gB (z7 _ _ ah) (.cons (iV rfl) (.cons (Fz (s:=([(("?0":Str),(1:Int))],(i:Int))) ((S2.same z6).same z7)) (.cons (ov.aN (aQ.of sA)) (.cons (ov.aN (aQ.of sA)) .nil))))) .nil)
  ·rintro σ H1 ⟨v,o2,rfl,s1,ov⟩
   exact ⟨_,rfl,k v H1 s1 ov⟩
abbrev dU:Stmt:=top 38
theorem fV:aW ["_law_line_here","_law_draw","_law_lines","_law_way","_law_at","_law_pair"] ["_law_line_here","_law_draw","_law_lines"] (au dU):=⟨rfl,rfl,rfl,by decide +kernel,rfl,by decide +kernel,by decide +kernel⟩
seal L2.PE L2.PS L2.rR L2.PA L2.PT in
theorem p6 {f C:Addr} {fd:FuncData} {n:Nat} (F:iU K "_law_line_spoilt" "_law_line_spoilt" dU f fd) (T:Txt K mg C) (J:kW K mg) (O:mD K C) (dg:Dn P w K mg base 2 "_law_next" ["_law_draw","_law_size"] iX) (Kv:Dn P w K mg base 3 "_law_odd" ["_law_draw","_law_lines"] (FN C)) (oW:Dn P w K mg base 1 "_law_put" ["_law_row_here","_law_at","_law_thing"] sW) (bZ:Dn P w K mg base 3 "sum_of" ["pairs","number"] (ef C)):cL P w K mg base iB 4 f fd ["_law_line_here","_law_draw","_law_lines"] (sX C):=by
 obtain ⟨iJ,gD,bw,aT,aU,bu⟩:=dg
 obtain ⟨TH,Qf,yI,tZ,um,yC⟩:=Kv
 obtain ⟨C1,zV,iF,gg,gh,iE⟩:=oW
 obtain ⟨fq,d9,bK,aY,aZ,bD⟩:=bZ
 refine F.ok fV (fun vs H Q E h=>?_) (fun cdv A outer s H vs Q E hr h=>?_)
 ·obtain ⟨xs,v,g,d,m,rfl,ov,ok,hd,hm,k⟩:=h
  rfl
 ·obtain ⟨xs,v,g,d,m,rfl,ov,ok,hd,hm,k⟩:=h
  have hu:=cH hr
  rw [show az dU=[_,_,_,_,_,_,_,_] from rfl]
  refine ⟨_,(ak (bq (i:=3) fV.nd rfl (Or.inl rfl) (ao bw (hr.mono (by first | decide | omega)) rfl aT aU bu .nil aB (af (pv 1) (af aj ai))))
   (ak (cE (bh cU (pv 3) aj (aO _)) (ay (aH (aD aI (bP (af kr (af aj (af cB (af (aM ai) (af (aM (af cB ai)) (af (aM (af cB (af (aM ai) ai))) (af (aM (af cB (af kr ai))) (af fG (af (ao bK (hr.mono (by first | decide | omega)) rfl aY aZ bD .nil aB (af (aM ai) (af (fE dw aj) ai))) ai)))))))))) (ao bw (hr.mono (by first | decide | omega)) rfl aT aU bu .nil aB (af (pv 1) (af aj ai))) (fun _ _=>rfl)))) bN)
   (ak (cE (bh cU (pv 3) aj (aO _)) (ay (aH (aR fz (bV cV (by rfl) T.list boot_list (af (pv 0) ai)) (bP (af (ao yI (hr.mono (by first | decide | omega)) rfl tZ um yC .nil aB (af (pv 1) (af (pv 2) ai))) ai))))) bN)
   (ak (cE (bh cU (pv 3) aj (aO _)) (ay (aH (ao iF (hr.mono (by first | decide | omega)) rfl gg gh iE .nil aB (af (pv 0) (af aj (af (aD aI (bP (af cB (af cB (af cB (af cB (af kr (af aj ai))))))) (ao bw (hr.mono (by first | decide | omega)) rfl aT aU bu .nil aB (af (pv 1) (af aj ai))) (fun _ _=>rfl)) ai)))))) bN)
   (ak (cE (PW.pt (jg (bh oz (aD aX (pv 0) aj (fun _ _=>rfl)) cB (aO _)) (jf (bh cU (pv 3) aj (aO _))))) (ay (aH (ao iF (hr.mono (by first | decide | omega)) rfl gg gh iE .nil aB (af (pv 0) (af (aR cS aj (ao bw (hr.mono (by first | decide | omega)) rfl aT aU bu .nil aB (af (pv 1) (af (aR ia (aJ aG (by rfl) T.len PySem.boot_len (af (pv 0) ai)) aj) ai)))) (af (ao yI (hr.mono (by first | decide | omega)) rfl tZ um yC .nil aB (af (pv 1) (af (pv 2) ai))) ai)))))) bN)
   (ak (bq (i:=4) fV.nd rfl (Or.inl rfl) (ao bw (hr.mono (by first | decide | omega)) rfl aT aU bu .nil aB (af (pv 1) (af (aJ aG (by rfl) T.len PySem.boot_len (af (aD aX (pv 0) aj (fun _ _=>rfl)) ai)) ai))))
   (ak (bq (i:=5) fV.nd rfl (Or.inl rfl) (ao iF (hr.mono (by first | decide | omega)) rfl gg gh iE .nil aB (af (aD aX (aD aX (pv 0) aj (fun _ _=>rfl)) (pv 4) (fun _ _=>rfl)) (af (ao bw (hr.mono (by first | decide | omega)) rfl aT aU bu .nil aB (af (pv 1) (af aj ai))) (af (ao yI (hr.mono (by first | decide | omega)) rfl tZ um yC .nil aB (af (pv 1) (af (pv 2) ai))) ai)))))
   (ay (aH (bP (af cB (af (ao iF (hr.mono (by first | decide | omega)) rfl gg gh iE .nil aB (af (aD aX (pv 0) aj (fun _ _=>rfl)) (af (pv 4) (af (pv 5) ai)))) ai)))))))))))),?_⟩
  obtain ⟨a,us,rfl,et,hp⟩:=fm (ys:=.sc (.str (vF g))::we g) (by rw [← zO];exact ov)
  have lg:=Bg g
  have lu:us.length=(we g).length+1:=aA hp
  refine ⟨_,rfl,d,5,rfl,hd,by decide,fun w H1 hw b1 d1=>?_⟩
  have h1:=hd.soft b1
  have Bt:=h1.t _ _ et
  have hp1:=L2.Paired.dX hp fun _ _ z=>z.aN h1
  refine ⟨_,rfl,rfl,_,rfl,?_⟩
  by_cases w0:w=0
  ·refine cM (by rw [w0];rfl) ⟨Nat.zero_le _,fun a1 g1=>⟨(Nat.le_of_lt (line 1 (by decide))),fun a2 g2=>⟨Nat.zero_le _,fun a3 g3=>⟨(szl 2),fun a4 g4=>⟨(szl 2),fun a5 g5=>⟨Nat.zero_le _,fun a6 g6=>⟨_,rfl,a6,-1,[],rfl,.inr ⟨[],ah,.nil⟩,by decide,fun r ts H2 s2 g' _ S2=>⟨(szl 9),fun l hl=>?_⟩⟩⟩⟩⟩⟩⟩⟩
   have y1:=new (o:=.tup []) g1
   have y2:=new (o:=.tup [V.str "cut"]) g2
   have y3:=new (o:=.tup []) g3
   have y4:=new (o:=.tup [V.str "add",.ref a3]) g4
   have y5:=new (o:=.tup [V.str "add",.gc]) g5
   have y6:=new (o:=.tup []) g6
   have yl:=new (o:=.lst [V.gc,.int 7,.str "add",.ref a1,.ref a2,.ref a4,.ref a5,.bl true,.ref r]) hl
   have t25:=((y5.trans y6).trans s2).trans yl
   have t24:=y4.trans t25
   have t23:=y3.trans t24
   have t22:=y2.trans t23
   have sA:=y1.trans t22
   have nA:l≠d:=(d1.same ((y1.trans ((y2.trans ((y3.trans (y4.trans y5)).trans y6)).trans s2)))).ne hl
   refine ⟨_,rfl,d,9,rfl,d1.same sA,by decide,fun r2 H3 hr2 b3 d3=>?_⟩
   have h3:=(d1.same sA).soft b3
   have e1:=h3.t _ _ (t22 _ _ (ah (a:=a1) (o:=.tup [])))
   have e2:=h3.t _ _ (t23 _ _ (ah (a:=a2) (o:=.tup [V.str "cut"])))
   have e3:=h3.t _ _ (t24 _ _ (ah (a:=a3) (o:=.tup [])))
   have e4:=h3.t _ _ (t25 _ _ (ah (a:=a4) (o:=.tup [V.str "add",.ref a3])))
   have e5:=h3.t _ _ (((y6.trans s2).trans yl) _ _ (ah (a:=a5) (o:=.tup [V.str "add",.gc])))
   have S3:=(S2.same yl).aN h3
   obtain ⟨v',o',hz,mG,lo⟩:∃ v' o',([V.gc,.int 7,.str "add",.ref a1,.ref a2,.ref a4,.ref a5,.bl true,.ref r]:List V)[r2]?=some v'∧bW C H3 v' o'∧uM xs o':=by
    have:r2=0∨r2=1∨r2=2∨r2=3∨r2=4∨r2=5∨r2=6∨r2=7∨r2=8:=by omega
    rcases this with e | e | e | e | e | e | e | e | e <;> subst e
    ·exact ⟨_,.sc _,rfl,cz rfl,ud (fun _=>by simp) (by unfold iM;trivial)⟩
    ·exact ⟨_,.sc _,rfl,cz rfl,ud (fun _=>by simp) (br (by decide))⟩
    ·exact ⟨_,.sc _,rfl,cz rfl,ud (fun _=>by simp) dN⟩
    ·exact ⟨_,.sq [],rfl,cD (.inr e1) .nil,xT⟩
    ·exact ⟨_,.sq [.sc (.str "cut")],rfl,cD (.inr e2) (.cons (cz rfl) .nil),gb (Nat.zero_le _) (fun ys e=>by cases e) (aE dN bQ) (fun s x y e=>by cases e)⟩
    ·exact ⟨_,.sq [.sc (.str "add"),.sq []],rfl,cD (.inr e4) (.cons (cz rfl) (.cons (cD (.inr e3) .nil) .nil)),qe (Nat.zero_le _) bQ⟩
    ·exact ⟨_,.sq [.sc (.str "add"),.sc .gc],rfl,cD (.inr e5) (.cons (cz rfl) (.cons (cz rfl) .nil)),gb (by show 1≤50;decide) (fun ys e=>by cases e) (aE dN (aE (by unfold iM;trivial) bQ)) (fun s x y e=>by cases e)⟩
    ·exact ⟨_,.sc _,rfl,cz rfl,ud (fun _=>by simp) (by unfold iM;trivial)⟩
    ·exact ⟨_,.sm (ts,-1),rfl,yU S3,ud (fun _=>by simp) mP⟩
   exact ⟨l,_,_,_,rfl,rfl,bz.of (b3 _ _ ah nA),aK hz,k v' o' H3 ((b1.trans (cA.of sA)).trans b3) d3 mG lo⟩
  refine cN (fun z=>w0 (by have:=V.int.inj z;omega)) ⟨_,rfl,rfl,_,rfl,?_⟩
  by_cases w1:w=1
  ·refine cM (by rw [w1];rfl) ⟨_,rfl,a,us,rfl,.inr (cR.of Bt),fun q hq=>?_⟩
   have yq:=new (o:=.lst us) hq
   have Xx:q≠d:=d1.ne hq
   refine ⟨_,rfl,_,rfl,d,m,rfl,d1.same yq,hm,fun v' o' H2 b2 d2 mG od=>⟨(Nat.le_of_lt (line 1 (by decide))),fun q2 hq2=>?_⟩⟩
   have y2:=new (o:=.lst [v']) hq2
   have eq2:=y2 _ _ (b2 _ _ (ah (a:=q) (o:=.lst us)) Xx)
   refine ⟨q,q2,us,[v'],rfl,rfl,eq2,ah,Nat.le_of_lt (line _ (by show us.length+1≤_;omega)),fun r hr0=>?_⟩
   have y3:=new (o:=.lst (us++[v'])) hr0
   have h12:=(aQ.of yq).trans ((d1.same yq).soft b2)
   have sB:=y2.trans y3
   refine k (.ref r) (.sq (.sc (.str (vF g))::we g++[o'])) _ (((b1.trans (cA.of yq)).trans b2).trans (cA.of sB)) (d2.same sB) (cD (.inl ah) (cu (L2.Paired.dX hp1 fun _ _ z=>((z.aN h12).aN (aQ.of sB)).ov) (.cons (mG.same sB) .nil))) (GN ok od)
  refine cN (fun z=>w1 (by have:=V.int.inj z;omega)) ⟨_,rfl,rfl,_,rfl,?_⟩
  by_cases w2:w=2
  ·refine cM (by rw [w2];rfl) ⟨_,rfl,(szl 6),fun l hl=>?_⟩
   have yl:=new (o:=.lst [V.str "add",.str "cut",.str "split",.str "",.gc,.int 1]) hl
   have nA:l≠d:=d1.ne hl
   refine ⟨_,rfl,d,6,rfl,d1.same yl,by decide,fun r2 H3 hr2 b3 d3=>?_⟩
   obtain ⟨v',hz,hf,nb⟩:∃ v',([V.str "add",.str "cut",.str "split",.str "",.gc,.int 1]:List V)[r2]?=some v'∧gj v'=true∧iM (.sc v'):=by
    have:r2=0∨r2=1∨r2=2∨r2=3∨r2=4∨r2=5:=by omega
    rcases this with e | e | e | e | e | e <;> subst e
    ·exact ⟨_,rfl,rfl,dN⟩
    ·exact ⟨_,rfl,rfl,dN⟩
    ·exact ⟨_,rfl,rfl,dN⟩
    ·exact ⟨_,rfl,rfl,dN⟩
    ·exact ⟨_,rfl,rfl,by unfold iM;trivial⟩
    ·exact ⟨_,rfl,rfl,br (by decide)⟩
   have h13:=(aQ.of yl).trans ((d1.same yl).soft b3)
   refine ⟨l,_,_,_,rfl,rfl,bz.of (b3 _ _ ah nA),aK hz,a,us,0,v',rfl,.inr (h13.t _ _ Bt),by omega,by omega,fun r H4 s4 f4 e4=>?_⟩
   have pp:=ff (L2.Paired.dX hp1 fun _ _ z=>((z.aN h13).aN (aQ.of s4)).ov) (cz (C:=C) (H:=H4) hf) 0
   exact k (.ref r) (.sq (.sc v'::we g)) H4 (((b1.trans (cA.of yl)).trans b3).trans (cA.of s4)) (d3.same s4) (cD (.inl e4) pp) (GO ok nb)
  refine cN (fun z=>w2 (by have:=V.int.inj z;omega)) ?_
  have u0:us[0]?=some (V.str (vF g)):=by
   cases hp with
   | cons x t=>rw [(wZ x).1];rfl
  refine ⟨_,rfl,gA (.inr Bt) (aK (j:=0) u0) ⟨rfl,_,rfl,?_⟩⟩
  have reach:(!decide (V.str (vF g)=V.str "add"))=true∨w=3∨(∃ ws,g=.add ws∧w=4):=by
   cases g with
   | cut k d=>exact .inl (by show (!decide (V.str "cut"=V.str "add"))=true;decide +kernel)
   | split s w1 w2=>exact .inl (by show (!decide (V.str "split"=V.str "add"))=true;decide +kernel)
   | add ws=>by_cases z:w=3;exact .inr (.inl z);exact .inr (.inr ⟨ws,rfl,by omega⟩)
  have a7t:((us.length:Int) - 1)=(((we g).length:Nat):Int):=by omega
  have put2:∀ (r2:Nat) (v':V) (o':Ov) (H3:Hp),r2 < (we g).length→cA d H H3→Dr H3 d→bW C H3 v' o'→yF o'→∀ (r:Addr) (H4:Hp),aP H3 H4→H4 r=some (.lst (us.take (1+r2)++[v']++us.drop (1+r2+1)))→Q (.ref r) H4:=fun r2 v' o' H3 hr2 b3 d3 mG od r H4 s4 e4=>by
   have hH:=(hd.soft b3).trans (aQ.of s4)
   have pp:=ff (L2.Paired.dX hp fun _ _ z=>(z.aN hH).ov) (mG.same s4) (1+r2)
   exact k (.ref r) _ H4 (b3.trans (cA.of s4)) (d3.same s4) (cD (.inl e4) pp) (rN ok hr2 od.1 (fun _ ys e=>od.le e) (fun _ s e=>od.nsm e) od.gda)
  rcases reach with c1 | c1
  ·exact E4 c1 (cT ⟨_,rfl,_,rfl,_,rfl,a,us,rfl,.inr (cR.of Bt),_,_,rfl,rfl,d,(us.length:Int) - 1,rfl,d1,(by omega),fun r2 H3 hr2 b3 d3=>⟨_,_,rfl,rfl,_,rfl,_,rfl,d,m,rfl,d3,hm,fun v' o' H5 b5 d5 mG od=>⟨a,us,1+r2,v',(by rw [Int.natCast_add];rfl),.inr (((d1.soft b3).trans (d3.soft b5)).t _ _ Bt),by omega,by omega,fun r H6 s6 f6 e6=>put2 r2 v' o' H5 (by omega) ((b1.trans b3).trans b5) d5 mG od r H6 s6 e6⟩⟩⟩)
  ·by_cases cc:(!decide (V.str (vF g)=V.str "add"))=true
   ·exact E4 cc (cT ⟨_,rfl,_,rfl,_,rfl,a,us,rfl,.inr (cR.of Bt),_,_,rfl,rfl,d,(us.length:Int) - 1,rfl,d1,(by omega),fun r2 H3 hr2 b3 d3=>⟨_,_,rfl,rfl,_,rfl,_,rfl,d,m,rfl,d3,hm,fun v' o' H5 b5 d5 mG od=>⟨a,us,1+r2,v',(by rw [Int.natCast_add];rfl),.inr (((d1.soft b3).trans (d3.soft b5)).t _ _ Bt),by omega,by omega,fun r H6 s6 f6 e6=>put2 r2 v' o' H5 (by omega) ((b1.trans b3).trans b5) d5 mG od r H6 s6 e6⟩⟩⟩)
   have cc:(!decide (V.str (vF g)=V.str "add"))=false:=by simpa using cc
   rcases c1 with c1 | ⟨ws,rfl,c1⟩
   ·exact yR cc ⟨_,rfl,rfl,_,rfl,cM (by rw [c1];rfl) ⟨_,rfl,_,rfl,_,rfl,a,us,rfl,.inr (cR.of Bt),_,_,rfl,rfl,d,(us.length:Int) - 1,rfl,d1,(by omega),fun r2 H3 hr2 b3 d3=>⟨_,_,rfl,rfl,_,rfl,_,rfl,d,m,rfl,d3,hm,fun v' o' H5 b5 d5 mG od=>⟨a,us,1+r2,v',(by rw [Int.natCast_add];rfl),.inr (((d1.soft b3).trans (d3.soft b5)).t _ _ Bt),by omega,by omega,fun r H6 s6 f6 e6=>put2 r2 v' o' H5 (by omega) ((b1.trans b3).trans b5) d5 mG od r H6 s6 e6⟩⟩⟩⟩
   ·refine yR cc ⟨_,rfl,rfl,_,rfl,cN (fun z=>by have:=V.int.inj z;omega) ?_⟩
    have Gv:pA ws:=ok
    obtain ⟨v0,v1,rfl,ov0,Si⟩:=jI (a:=Ov.sc (.str "add")) (b:=Ov.sq (ws.map gf)) hp
    obtain ⟨t,ps,rfl,HY,hps⟩:=fm Si
    have Ss:=aA hps
    rw [List.length_map] at Ss
    have w5:=Gv.2.1
    have w1':=Gv.1
    have at1:([v0,V.ref t]:List V)[1]?=some (.ref t):=rfl
    refine ⟨_,rfl,_,rfl,gA (.inr Bt) (aK (j:=1) at1) ⟨t,ps,rfl,.inr (cR.of (h1.t _ _ HY)),d,(ps.length:Int),rfl,d1,by omega,fun r2 H3 hr2 b3 d3=>?_⟩⟩
    have h3:=h1.trans (d1.soft b3)
    have K3:r2 < ps.length:=by omega
    have hat:=List.getElem?_eq_getElem K3
    obtain ⟨po,My,O2⟩:=bf hps hat
    obtain ⟨wp,hwp,rfl⟩:∃ wp,ws[r2]?=some wp∧po=gf wp:=by
     rw [List.getElem?_map] at My
     obtain ⟨wp,a1,a2⟩:=Option.map_eq_some_iff.mp My
     exact ⟨wp,a1,a2.symm⟩
    obtain ⟨q,qs,eq,ZU,Tu⟩:=fm (ys:=[.sc (.int wp.1),.sc (.int wp.2)]) O2
    rw [eq] at hat
    have lqs:qs.length=2:=aA Tu
    refine ⟨_,rfl,gA (.inr (h3.t _ _ et)) (aK (j:=1) at1) ⟨_,rfl,gA (.inr (h3.t _ _ HY)) (aK hat) ⟨_,rfl,d,2,rfl,d3,by decide,fun r4 H4 Tt b4 d4=>⟨_,rfl,_,rfl,d,m,rfl,d4,hm,fun v' o' H5 b5 d5 mG od=>?_⟩⟩⟩⟩
    have h5:=(h3.trans (d3.soft b4)).trans (d4.soft b5)
    refine ⟨q,qs,r4,v',rfl,.inr (h5.t _ _ ZU),by omega,by omega,fun r6 H6 s6 f6 e6=>?_⟩
    have h6:=h5.trans (aQ.of s6)
    have pq:=ff (L2.Paired.dX Tu fun _ _ z=>(z.aN h6).ov) (mG.same s6) r4
    refine ⟨_,rfl,gA (.inr (h6.t _ _ et)) (aK (j:=1) at1) ⟨_,rfl,_,rfl,t,ps,r2,.ref r6,rfl,.inr (h6.t _ _ HY),K3,by omega,fun r7 H7 s7 f7 e7=>⟨(szl 2),fun r8 hr8=>?_⟩⟩⟩
    have y8:=new (o:=.lst [V.str "add",.ref r7]) hr8
    have sE:=s7.trans y8
    have h7:=h6.trans (aQ.of sE)
    have ob:bW C (upd H7 r8 (.lst [V.str "add",.ref r7])) (.ref r6) (.sq (([.sc (.int wp.1),.sc (.int wp.2)]:List Ov).take r4++[o']++([.sc (.int wp.1),.sc (.int wp.2)]:List Ov).drop (r4+1))):=(cD (.inl e6) pq).same sE
    have pp:=ff (L2.Paired.dX hps fun _ _ z=>(z.aN h7).ov) ob r2
    have nbp:mE ([.sc (.int wp.1),.sc (.int wp.2)]:List Ov):=oF (CF (Gv.2.2 wp (List.mem_of_getElem? hwp)))
    refine k (.ref r8) (.sq [.sc (.str "add"),.sq _]) _ (((((b1.trans b3).trans b4).trans b5).trans (cA.of s6)).trans (cA.of sE)) ((d5.same s6).same sE) (cD (.inl ah) (.cons (cz rfl) (.cons (cD (.inl (y8 _ _ e7)) pp) .nil))) (qe ?_ ?_)
    ·simp only [List.length_append,List.length_take,List.length_drop,List.length_map,List.length_singleton]
     omega
    ·exact jy (jy (zx (oG Gv) _) (aE (cI (jy (jy (zx nbp _) (aE od.1 bQ)) (zy nbp _))) bQ)) (zy (oG Gv) _)
abbrev gR:Stmt:=top 39
theorem iG:aW ["_law_paper","_law_draw","_law_lines","_law_way","_law_at","_law_side","_law_inner"] ["_law_paper","_law_draw","_law_lines"] (au gR):=⟨rfl,rfl,rfl,by decide +kernel,rfl,by decide +kernel,by decide +kernel⟩
seal L2.PE L2.PS L2.rR L2.PA L2.PT in
theorem zh {f C:Addr} {fd:FuncData} {n:Nat} (F:iU K "_law_spoilt" "_law_spoilt" gR f fd) (T:Txt K mg C) (J:kW K mg) (O:mD K C) (dg:Dn P w K mg base 2 "_law_next" ["_law_draw","_law_size"] iX) (nH:Dn P w K mg base (n+5) "_law_spoilt" ["_law_paper","_law_draw","_law_lines"] (jR C n)) (oW:Dn P w K mg base 1 "_law_put" ["_law_row_here","_law_at","_law_thing"] sW) (qX:Dn P w K mg base 4 "_law_line_spoilt" ["_law_line_here","_law_draw","_law_lines"] (sX C)) (bZ:Dn P w K mg base 3 "sum_of" ["pairs","number"] (ef C)):cL P w K mg base iB (n+6) f fd ["_law_paper","_law_draw","_law_lines"] (jR C (n+1)):=by
 obtain ⟨iJ,gD,bw,aT,aU,bu⟩:=dg
 obtain ⟨Bq,zU,nM,lI,lQ,nJ⟩:=nH
 obtain ⟨C1,zV,iF,gg,gh,iE⟩:=oW
 obtain ⟨E6,DZ,rB,qa,qh,qZ⟩:=qX
 obtain ⟨fq,d9,bK,aY,aZ,bD⟩:=bZ
 refine F.ok iG (fun vs H Q E h=>?_) (fun cdv A outer s H vs Q E hr h=>?_)
 ·obtain ⟨xs,l,us,gs,d,m,rfl,hn1,pG,hl,nA,hp,hok,hg4,hd,hm,k⟩:=h
  rfl
 ·obtain ⟨xs,l,us,gs,d,m,rfl,hn1,pG,hl,nA,hp,hok,hg4,hd,hm,k⟩:=h
  have hu:=cH hr
  rw [show az gR=[_,_,_,_,_,_,_,_] from rfl]
  refine ⟨_,(ak (bq (i:=3) iG.nd rfl (Or.inl rfl) (ao bw (hr.mono (by first | decide | omega)) rfl aT aU bu .nil aB (af (pv 1) (af aj ai))))
   (ak (cE (PW.pt (jg (bh (Dy (uN hr)) (pv 0) (bP ai) (aO _)) (jf (bh cU (pv 3) aj (aO _))))) (ay (aH (aD aI (bP (af kr (af aj (af cB (af (aM ai) (af (bP ai) (af fG (af (ao bK (hr.mono (by first | decide | omega)) rfl aY aZ bD .nil aB (af (aM ai) (af (fE dw aj) ai))) (af (aM (af (aM ai) ai)) ai))))))))) (ao bw (hr.mono (by first | decide | omega)) rfl aT aU bu .nil aB (af (pv 1) (af aj ai))) (fun _ _=>rfl)))) bN)
   (ak (bq (i:=4) iG.nd rfl (Or.inl rfl) (ao bw (hr.mono (by first | decide | omega)) rfl aT aU bu .nil aB (af (pv 1) (af (aJ aG (by rfl) T.len PySem.boot_len (af (pv 0) ai)) ai))))
   (ak (cE (bh cU (pv 3) aj (aO _)) (ay (aH (aR fz (eF gG (pv 0) fD (fB (pv 4))) (eF gG (pv 0) (fB (aR cS (pv 4) aj)) fD)))) bN)
   (ak (cE (bh cU (pv 3) aj (aO _)) (ay (aH (aR fz (aR fz (eF gG (pv 0) fD (fB (pv 4))) (bP (af (aD aI (pv 0) (pv 4) (fun _ _=>rfl)) ai))) (eF gG (pv 0) (fB (pv 4)) fD)))) bN)
   (ak (cE (bh cU (pv 3) aj (aO _)) (ay (aH (aR fz (eF gG (pv 0) (fB (pv 4)) fD) (eF gG (pv 0) fD (fB (pv 4)))))) bN)
   (ak (cE (PW.pt (nk (bh cU (aD aX (aD aI (pv 0) (fE dw aj) (fun _ _=>rfl)) aj (fun _ _=>rfl)) cB (aO _)) (oq (bh mO (pv 3) aj (aO _))))) (ak (bq (i:=5) iG.nd rfl (Or.inl rfl) (aR cS aj (ao bw (hr.mono (by first | decide | omega)) rfl aT aU bu .nil aB (af (pv 1) (af aj ai)))))
   (ak (bq (i:=6) iG.nd rfl (Or.inl rfl) (ao nM (hr.mono (by first | decide | omega)) rfl lI lQ nJ .nil aB (af (bV cV (by rfl) T.list boot_list (af (aD aX (aD aI (pv 0) (fE dw aj) (fun _ _=>rfl)) (pv 5) (fun _ _=>rfl)) ai)) (af (pv 1) (af (aR cS (pv 2) aj) ai)))))
   (ay (aH (aR fz (eF gG (pv 0) fD (fB (fE dw aj))) (bP (af (ao iF (hr.mono (by first | decide | omega)) rfl gg gh iE .nil aB (af (aD aI (pv 0) (fE dw aj) (fun _ _=>rfl)) (af (pv 5) (af (pv 6) ai)))) ai))))))) bN)
   (ay (aH (ao iF (hr.mono (by first | decide | omega)) rfl gg gh iE .nil aB (af (pv 0) (af (pv 4) (af (ao rB (hr.mono (by first | decide | omega)) rfl qa qh qZ .nil aB (af (aD aI (pv 0) (pv 4) (fun _ _=>rfl)) (af (pv 1) (af (pv 2) ai)))) ai))))))))))))),?_⟩
  have lu:us.length=gs.length:=by have:=aA hp;rw [List.length_map] at this;exact this
  have Aj:=Hj hok
  refine ⟨_,rfl,d,7,rfl,hd,by decide,fun w H1 hw b1 d1=>?_⟩
  have h1:=hd.soft b1
  have Bu:=b1 _ _ hl nA
  refine ⟨_,rfl,Nat.zero_le _,fun q hq=>?_⟩
  have yq:=new (o:=.lst []) hq
  have b1:=b1.trans (cA.of yq)
  have d1:=d1.same yq
  have h1:=h1.trans (aQ.of yq)
  have Bu:=yq _ _ Bu
  refine ⟨l,q,us,rfl,rfl,bz.of Bu,bz.of ah,_,rfl,?_⟩
  generalize upd H1 q (.lst [])=H1 at yq b1 d1 h1 Bu ⊢
  by_cases IX:us=[]
  ·refine cM IX (cT ⟨Nat.zero_le _,fun a1 g1=>⟨Nat.zero_le _,fun a2 g2=>⟨Nat.zero_le _,fun a3 g3=>⟨_,rfl,a3,-1,[],rfl,.inr ⟨[],ah,.nil⟩,by decide,fun r ts H2 s2 g' _ S2=>⟨Nat.zero_le _,fun a4 g4=>⟨(Nat.le_of_lt (line 1 (by decide))),fun a5 g5=>⟨(szl 8),fun l2 hl2=>?_⟩⟩⟩⟩⟩⟩⟩)
   have y1:=new (o:=.tup []) g1
   have y2:=new (o:=.lst []) g2
   have y3:=new (o:=.tup []) g3
   have y4:=new (o:=.tup []) g4
   have y5:=new (o:=.tup [V.ref a4]) g5
   have yl:=new (o:=.lst [V.gc,.int 5,.str "",.ref a1,.ref a2,.bl true,.ref r,.ref a5]) hl2
   have t5:=y5.trans yl
   have t4:=y4.trans t5
   have t2:=(y3.trans s2).trans t4
   have t1:=y2.trans t2
   have sA:=y1.trans t1
   have XF:a2≠d:=(d1.same y1).ne g2
   have L7:l2≠d:=(d1.same (((y1.trans y2).trans ((y3.trans s2).trans (y4.trans y5))))).ne hl2
   refine ⟨_,rfl,d,8,rfl,d1.same sA,by decide,fun r9 H3 hr9 b3 d3=>?_⟩
   have h3:=(d1.same sA).soft b3
   have e1:=h3.t _ _ (t1 _ _ (ah (a:=a1) (o:=.tup [])))
   have e2:=b3 _ _ (t2 _ _ (ah (a:=a2) (o:=.lst []))) XF
   have e4:=h3.t _ _ (t5 _ _ (ah (a:=a4) (o:=.tup [])))
   have e5:=h3.t _ _ (yl _ _ (ah (a:=a5) (o:=.tup [V.ref a4])))
   have S3:=(S2.same t4).aN h3
   obtain ⟨v',o',hz,mG,go,no⟩:∃ v' o',([V.gc,.int 5,.str "",.ref a1,.ref a2,.bl true,.ref r,.ref a5]:List V)[r9]?=some v'∧bW C H3 v' o'∧vC xs o'∧iM o':=by
    have:r9=0∨r9=1∨r9=2∨r9=3∨r9=4∨r9=5∨r9=6∨r9=7:=by omega
    rcases this with e | e | e | e | e | e | e | e <;> subst e
    ·exact ⟨_,.sc _,rfl,cz rfl,kH,by unfold iM;trivial⟩
    ·exact ⟨_,.sc _,rfl,cz rfl,kH,br (by decide)⟩
    ·exact ⟨_,.sc _,rfl,cz rfl,kH,dN⟩
    ·exact ⟨_,.sq [],rfl,cD (.inr e1) .nil,eU (Nat.zero_le _) (fun l hl=>nomatch hl),cI bQ⟩
    ·exact ⟨_,.sq [],rfl,cD (.inl e2) .nil,eU (Nat.zero_le _) (fun l hl=>nomatch hl),cI bQ⟩
    ·exact ⟨_,.sc _,rfl,cz rfl,kH,by unfold iM;trivial⟩
    ·exact ⟨_,.sm (ts,-1),rfl,yU S3,Hr,mP⟩
    ·exact ⟨_,.sq [.sq []],rfl,cD (.inr e5) (.cons (cD (.inr e4) .nil) .nil),eU (by show 1≤9;decide) (fun l hl=>by rw [List.mem_singleton.mp hl];exact xT),cI (aE (cI bQ) bQ)⟩
   exact ⟨l2,_,_,_,rfl,rfl,bz.of (b3 _ _ ah L7),aK hz,k v' o' H3 ((b1.trans (cA.of sA)).trans b3) d3 mG go no⟩
  refine cN IX ⟨_,rfl,rfl,_,rfl,?_⟩
  by_cases w0:w=0
  ·refine cM (by rw [w0];rfl) ⟨Nat.zero_le _,fun a1 g1=>⟨Nat.zero_le _,fun a2 g2=>⟨Nat.zero_le _,fun a3 g3=>⟨_,rfl,a3,-1,[],rfl,.inr ⟨[],ah,.nil⟩,by decide,fun r ts H2 s2 g' _ S2=>⟨Nat.zero_le _,fun a4 g4=>⟨(Nat.le_of_lt (line 1 (by decide))),fun a5 g5=>⟨(szl 8),fun l2 hl2=>?_⟩⟩⟩⟩⟩⟩⟩
   have y1:=new (o:=.tup []) g1
   have y2:=new (o:=.lst []) g2
   have y3:=new (o:=.tup []) g3
   have y4:=new (o:=.tup []) g4
   have y5:=new (o:=.tup [V.ref a4]) g5
   have yl:=new (o:=.lst [V.gc,.int 5,.str "",.ref a1,.ref a2,.bl true,.ref r,.ref a5]) hl2
   have t5:=y5.trans yl
   have t4:=y4.trans t5
   have t2:=(y3.trans s2).trans t4
   have t1:=y2.trans t2
   have sA:=y1.trans t1
   have XF:a2≠d:=(d1.same y1).ne g2
   have L7:l2≠d:=(d1.same (((y1.trans y2).trans ((y3.trans s2).trans (y4.trans y5))))).ne hl2
   refine ⟨_,rfl,d,8,rfl,d1.same sA,by decide,fun r9 H3 hr9 b3 d3=>?_⟩
   have h3:=(d1.same sA).soft b3
   have e1:=h3.t _ _ (t1 _ _ (ah (a:=a1) (o:=.tup [])))
   have e2:=b3 _ _ (t2 _ _ (ah (a:=a2) (o:=.lst []))) XF
   have e4:=h3.t _ _ (t5 _ _ (ah (a:=a4) (o:=.tup [])))
   have e5:=h3.t _ _ (yl _ _ (ah (a:=a5) (o:=.tup [V.ref a4])))
   have S3:=(S2.same t4).aN h3
   obtain ⟨v',o',hz,mG,go,no⟩:∃ v' o',([V.gc,.int 5,.str "",.ref a1,.ref a2,.bl true,.ref r,.ref a5]:List V)[r9]?=some v'∧bW C H3 v' o'∧vC xs o'∧iM o':=by
    have:r9=0∨r9=1∨r9=2∨r9=3∨r9=4∨r9=5∨r9=6∨r9=7:=by omega
    rcases this with e | e | e | e | e | e | e | e <;> subst e
    ·exact ⟨_,.sc _,rfl,cz rfl,kH,by unfold iM;trivial⟩
    ·exact ⟨_,.sc _,rfl,cz rfl,kH,br (by decide)⟩
    ·exact ⟨_,.sc _,rfl,cz rfl,kH,dN⟩
    ·exact ⟨_,.sq [],rfl,cD (.inr e1) .nil,eU (Nat.zero_le _) (fun l hl=>nomatch hl),cI bQ⟩
    ·exact ⟨_,.sq [],rfl,cD (.inl e2) .nil,eU (Nat.zero_le _) (fun l hl=>nomatch hl),cI bQ⟩
    ·exact ⟨_,.sc _,rfl,cz rfl,kH,by unfold iM;trivial⟩
    ·exact ⟨_,.sm (ts,-1),rfl,yU S3,Hr,mP⟩
    ·exact ⟨_,.sq [.sq []],rfl,cD (.inr e5) (.cons (cD (.inr e4) .nil) .nil),eU (by show 1≤9;decide) (fun l hl=>by rw [List.mem_singleton.mp hl];exact xT),cI (aE (cI bQ) bQ)⟩
   exact ⟨l2,_,_,_,rfl,rfl,bz.of (b3 _ _ ah L7),aK hz,k v' o' H3 ((b1.trans (cA.of sA)).trans b3) d3 mG go no⟩
  have Oi:0 < us.length:=List.length_pos_iff.mpr IX
  refine cN (fun z=>w0 (by have:=V.int.inj z;omega)) ⟨_,rfl,_,rfl,l,us,rfl,.inl (bz.of Bu),d,(us.length:Int),rfl,d1,by omega,fun r2 H3 hr2 b3 d3=>?_⟩
  have K3:r2 < us.length:=by omega
  have Ef:=b3 _ _ Bu nA
  have h3:=h1.trans (d1.soft b3)
  have Ut:=b1.trans b3
  have hp3:=L2.Paired.dX hp fun _ _ z=>z.aN h3
  have ES:∀ (r:Addr) (vs:List V) (ls:List Ov) (H4:Hp),aP H3 H4→H4 r=some (.lst vs)→Paired (bW C H4) vs ls→ls.length≤9→(∀ x∈ls,uM xs x)→Q (.ref r) H4:=fun r vs ls H4 s4 e4 pv l9 lg=>k (.ref r) (.sq ls) H4 (Ut.trans (cA.of s4)) (d3.same s4) (cD (.inl e4) pv) (eU l9 lg) (GF lg)
  have LY:∀ {H4:Hp},aP H3 H4→Paired (bW C H4) us (gs.map mq):=fun s4=>L2.Paired.dX hp3 fun _ _ z=>(z.aN (aQ.of s4)).ov
  have lgm:(gs.map mq).length=gs.length:=List.length_map ..
  refine ⟨_,rfl,rfl,_,rfl,?_⟩
  by_cases w1:w=1
  ·refine cM (by rw [w1];rfl) ⟨_,rfl,_,rfl,_,rfl,l,us,rfl,bz.of Ef,fun p1 hp1=>?_⟩
   rw [uC]
   have y1:=new (o:=.lst (us.take r2)) hp1
   refine ⟨_,rfl,_,rfl,_,_,rfl,rfl,_,rfl,l,us,rfl,bz.of (y1 _ _ Ef),fun p2 hp2=>?_⟩
   rw [show ((r2:Int)+1)=((r2+1:Nat):Int) from rfl,oX]
   have y2:=new (o:=.lst (us.drop (r2+1))) hp2
   refine ⟨p1,p2,_,_,rfl,rfl,y2 _ _ ah,ah,(by rw [List.length_take,List.length_drop];exact Nat.le_of_lt (line _ (by omega))),fun r hr0=>?_⟩
   have sA:=(y1.trans y2).trans (new (o:=.lst (us.take r2++us.drop (r2+1))) hr0)
   refine ES r _ ((gs.map mq).take r2++(gs.map mq).drop (r2+1)) _ sA ah (cu (cQ (LY sA) _) (iH (LY sA) _)) ?_ (fun x hx=>?_)
   ·rw [List.length_append,List.length_take,List.length_drop];omega
   ·rcases List.mem_append.mp hx with z | z
    ·exact Aj x (List.mem_of_mem_take z)
    ·exact Aj x (List.mem_of_mem_drop z)
  refine cN (fun z=>w1 (by have:=V.int.inj z;omega)) ⟨_,rfl,rfl,_,rfl,?_⟩
  have hat:=List.getElem?_eq_getElem K3
  by_cases w2:w=2
  ·refine cM (by rw [w2];rfl) ⟨_,rfl,_,rfl,_,rfl,l,us,rfl,bz.of Ef,fun p1 hp1=>?_⟩
   rw [uC]
   have y1:=new (o:=.lst (us.take r2)) hp1
   refine ⟨_,rfl,_,rfl,l,_,_,_,rfl,rfl,bz.of (y1 _ _ Ef),aK hat,(Nat.le_of_lt (line 1 (by decide))),fun p2 hp2=>?_⟩
   have y2:=new (o:=.lst [us[r2]]) hp2
   refine ⟨p1,p2,_,_,rfl,rfl,y2 _ _ ah,ah,(by rw [List.length_take];show _+1≤_;exact Nat.le_of_lt (line _ (by omega))),fun p3 Zf=>?_⟩
   have y3:=new (o:=.lst (us.take r2++[us[r2]])) Zf
   have Og:=(y1.trans y2).trans y3
   refine ⟨_,rfl,_,rfl,_,rfl,l,us,rfl,bz.of (Og _ _ Ef),fun p4 hp4=>?_⟩
   rw [oX]
   have y4:=new (o:=.lst (us.drop r2)) hp4
   refine ⟨p3,p4,_,_,rfl,rfl,y4 _ _ ah,ah,(by rw [List.length_append,List.length_take,List.length_drop];show _+1+_≤_;exact Nat.le_of_lt (line _ (by omega))),fun r hr0=>?_⟩
   have sA:=(Og.trans y4).trans (new (o:=.lst (us.take r2++[us[r2]]++us.drop r2)) hr0)
   obtain ⟨x,hx,ox⟩:=bf (LY sA) hat
   refine ES r _ ((gs.map mq).take r2++[x]++(gs.map mq).drop r2) _ sA ah (cu (cu (cQ (LY sA) _) (.cons ox .nil)) (iH (LY sA) _)) ?_ (fun x' hx'=>?_)
   ·rw [List.length_append,List.length_append,List.length_take,List.length_drop];show _+1+_≤9;omega
   ·rcases List.mem_append.mp hx' with z | z
    ·rcases List.mem_append.mp z with z | z
     ·exact Aj x' (List.mem_of_mem_take z)
     ·rw [List.mem_singleton.mp z];exact Aj x (List.mem_of_getElem? hx)
    ·exact Aj x' (List.mem_of_mem_drop z)
  refine cN (fun z=>w2 (by have:=V.int.inj z;omega)) ⟨_,rfl,rfl,_,rfl,?_⟩
  by_cases w3:w=3
  ·refine cM (by rw [w3];rfl) ⟨_,rfl,_,rfl,_,rfl,l,us,rfl,bz.of Ef,fun p1 hp1=>?_⟩
   rw [oX]
   have y1:=new (o:=.lst (us.drop r2)) hp1
   refine ⟨_,rfl,_,rfl,_,rfl,l,us,rfl,bz.of (y1 _ _ Ef),fun p2 hp2=>?_⟩
   rw [uC]
   have y2:=new (o:=.lst (us.take r2)) hp2
   refine ⟨p1,p2,_,_,rfl,rfl,y2 _ _ ah,ah,(by rw [List.length_take,List.length_drop];exact Nat.le_of_lt (line _ (by omega))),fun r hr0=>?_⟩
   have sA:=(y1.trans y2).trans (new (o:=.lst (us.drop r2++us.take r2)) hr0)
   refine ES r _ ((gs.map mq).drop r2++(gs.map mq).take r2) _ sA ah (cu (iH (LY sA) _) (cQ (LY sA) _)) ?_ (fun x hx=>?_)
   ·rw [List.length_append,List.length_take,List.length_drop];omega
   ·rcases List.mem_append.mp hx with z | z
    ·exact Aj x (List.mem_of_mem_drop z)
    ·exact Aj x (List.mem_of_mem_take z)
  refine cN (fun z=>w3 (by have:=V.int.inj z;omega)) ?_
  have wg:=List.getElem?_eq_getElem (l:=us) (i:=us.length - 1) (by omega)
  obtain ⟨xl,hxl,OZ⟩:=bf hp wg
  obtain ⟨gl,Zo,rfl⟩:∃ gl,gs[us.length - 1]?=some gl∧xl=mq gl:=by
   rw [List.getElem?_map] at hxl
   obtain ⟨g,a1,a2⟩:=Option.map_eq_some_iff.mp hxl
   exact ⟨g,a1,a2.symm⟩
  have glm:=List.mem_of_getElem? Zo
  have tS:=hok gl glm
  obtain ⟨al,ul,eal,Ja,hpl⟩:=fm (ys:=.sc (.str (vF gl))::we gl) (by rw [← zO];exact OZ)
  rw [eal] at wg
  have m1:=uJ Oi wg
  have RY:ul[0]?=some (V.str (vF gl)):=by
   cases hpl with
   | cons x t=>rw [(wZ x).1];rfl
  have RI:∀ (r:Addr) (H6:Hp) (v':V) (o':Ov) (H5:Hp),cA d H H5→Dr H5 d→bW C H5 v' o'→uM xs o'→aP H5 H6→H6 r=some (.lst (us.take r2++[v']++us.drop (r2+1)))→Q (.ref r) H6:=fun r H6 v' o' H5 b5 d5 mG lo s6 e6=>by
   have pp:=ff (L2.Paired.dX hp fun _ _ z=>((z.aN (hd.soft b5)).aN (aQ.of s6)).ov) (mG.same s6) r2
   have lg:∀ x∈(gs.map mq).take r2++[o']++(gs.map mq).drop (r2+1),uM xs x:=fun x hx=>by
    rcases List.mem_append.mp hx with z | z
    ·rcases List.mem_append.mp z with z | z
     ·exact Aj x (List.mem_of_mem_take z)
     ·rw [List.mem_singleton.mp z];exact lo
    ·exact Aj x (List.mem_of_mem_drop z)
   exact k (.ref r) (.sq _) H6 (b5.trans (cA.of s6)) (d5.same s6) (cD (.inl e6) pp) (eU (by rw [List.length_append,List.length_append,List.length_take,List.length_drop];show _+1+_≤9;omega) lg) (GF lg)
  obtain ⟨xa,hxa,NH⟩:=bf hp hat
  obtain ⟨ga,hga,rfl⟩:∃ ga,gs[r2]?=some ga∧xa=mq ga:=by
   rw [List.getElem?_map] at hxa
   obtain ⟨g,a1,a2⟩:=Option.map_eq_some_iff.mp hxa
   exact ⟨g,a1,a2.symm⟩
  refine ⟨_,rfl,_,rfl,l,_,_,_,rfl,rfl,bz.of Ef,m1,gA (.inr (h3.t _ _ Ja)) (aK (j:=0) RY) ⟨rfl,_,rfl,?_⟩⟩
  by_cases oS:vF gl="split"
  ·obtain ⟨s9,q1,q2,rfl⟩:∃ s9 q1 q2,gl=.split s9 q1 q2:=by
    cases gl with
    | cut k d=>exact absurd oS (by show ¬ ("cut":Str)="split";decide +kernel)
    | add ws=>exact absurd oS (by show ¬ ("add":Str)="split";decide +kernel)
    | split s w1 w2=>exact ⟨s,w1,w2,rfl⟩
   refine cM (congrArg V.str oS) ⟨_,rfl,_,_,rfl,rfl,_,rfl,?_⟩
   by_cases w6:w < 6
   ·refine cM (by omega) ⟨_,rfl,d,2,rfl,d3,by decide,fun r4 H4 Tt b4 d4=>⟨_,_,rfl,rfl,?_⟩⟩
    have h4:=h3.trans (d3.soft b4)
    have KH:=Ut.trans b4
    have el4:=b4 _ _ Ef nA
    obtain ⟨v0,v1,v2,v3,rfl,x0,x1,x2,x3⟩:=mh (a:=Ov.sc (.str "split")) (b:=Ov.sm s9) (c:=Ov.sq [cy q1]) (d:=Ov.sq [cy q2]) hpl
    have n2:2≤n+1:=pG ⟨s9,q1,q2,glm⟩
    obtain ⟨vv,qq,PL,O5,OY⟩:∃ vv qq,([v0,v1,v2,v3]:List V)[2+r4]?=some vv∧pA qq∧iO C H vv (.sq [cy qq]):=by
     have:r4=0∨r4=1:=by omega
     rcases this with e | e <;> subst e
     ·exact ⟨v2,q1,rfl,tS.2.2.1,x2⟩
     ·exact ⟨v3,q2,rfl,tS.2.2.2,x3⟩
    obtain ⟨av,uv,rfl,Qo,PU⟩:=fm OY
    refine ⟨_,rfl,_,rfl,l,_,_,_,rfl,rfl,bz.of el4,m1,_,rfl,gA (.inr (h4.t _ _ Ja)) (by rw [show (2+(r4:Int))=((2+r4:Nat):Int) by rw [Int.natCast_add];rfl];exact aK PL) ⟨av,uv,rfl,.inr (cR.of (h4.t _ _ Qo)),fun q9 NN=>?_⟩⟩
    have y9:=new (o:=.lst uv) NN
    refine ⟨_,rfl,_,rfl,_,_,rfl,rfl,xs,q9,uv,[.add qq],d,m+1,rfl,by omega,(fun ⟨_,_,_,h⟩=>by cases List.mem_singleton.mp h),ah,d4.ne NN,L2.Paired.dX PU fun _ _ z=>(z.aN h4).aN (aQ.of y9),(fun g hg=>by rw [List.mem_singleton.mp hg];exact O5),(by show 1≤4;decide),d4.same y9,by omega,fun v' o' H5 b5 d5 mG gd' nb'=>?_⟩
    have KG:=(KH.trans (cA.of y9)).trans b5
    have Lk:=b5 _ _ (y9 _ _ el4) nA
    have h5:=(h4.trans (aQ.of y9)).trans ((d4.same y9).soft b5)
    refine ⟨_,rfl,_,rfl,_,rfl,l,us,rfl,bz.of Lk,fun p1 hp1=>?_⟩
    rw [uD (α:=Nat) us Oi]
    have z1:=new (o:=.lst (us.take (us.length - 1))) hp1
    refine ⟨_,rfl,_,rfl,l,_,_,_,rfl,rfl,bz.of (z1 _ _ Lk),m1,_,rfl,_,rfl,al,_,2+r4,v',(by rw [Int.natCast_add];rfl),.inr (z1 _ _ (h5.t _ _ Ja)),(by show 2+r4 < 4;omega),(by show 4≤1000;decide),fun r6 H6 s6 f6 e6=>⟨(Nat.le_of_lt (line 1 (by decide))),fun p2 hp2=>?_⟩⟩
    have z2:=new (o:=.lst [V.ref r6]) hp2
    refine ⟨p1,p2,_,_,rfl,rfl,z2 _ _ (s6 _ _ ah),ah,(by rw [List.length_take];show _+1≤_;exact Nat.le_of_lt (line _ (by omega))),fun r hr0=>?_⟩
    have z3:=new (o:=.lst (us.take (us.length - 1)++[V.ref r6])) hr0
    have sB:=((z1.trans s6).trans z2).trans z3
    have hB:=h5.trans (aQ.of sB)
    have OX:=ff (L2.Paired.dX hpl fun _ _ z=>(z.aN hB).ov) (mG.same sB) (2+r4)
    have Po:uM xs (.sq (([.sc (.str "split"),.sm s9,.sq [cy q1],.sq [cy q2]]:List Ov).take (2+r4)++[o']++([.sc (.str "split"),.sm s9,.sq [cy q1],.sq [cy q2]]:List Ov).drop (2+r4+1))):=by
     have:=rN (g:=.split s9 q1 q2) (o:=o') (r:=1+r4) tS (by show 1+r4 < 3;omega) nb' (fun z=>by omega) (fun z=>by omega) gd'
     rw [show 1+(1+r4)=2+r4 by omega] at this
     exact this
    have ob:bW C _ (.ref r6) (.sq (([.sc (.str "split"),.sm s9,.sq [cy q1],.sq [cy q2]]:List Ov).take (2+r4)++[o']++([.sc (.str "split"),.sm s9,.sq [cy q1],.sq [cy q2]]:List Ov).drop (2+r4+1))):=cD (.inl ((z2.trans z3) _ _ e6)) OX
    have pp:=cu (cQ (L2.Paired.dX hp fun _ _ z=>(z.aN hB).ov) (us.length - 1)) (.cons ob .nil)
    have lg:∀ x∈(gs.map mq).take (us.length - 1)++[_],uM xs x:=fun x hx=>by
     rcases List.mem_append.mp hx with z | z
     ·exact Aj x (List.mem_of_mem_take z)
     ·rw [List.mem_singleton.mp z];exact Po
    exact k (.ref r) (.sq _) _ (KG.trans (cA.of sB)) (d5.same sB) (cD (.inl ah) pp) (eU (by rw [List.length_append,List.length_take];show _+1≤9;omega) lg) (GF lg)
   ·refine cN (by omega) ⟨_,rfl,_,rfl,_,rfl,_,rfl,l,_,_,_,rfl,rfl,bz.of Ef,aK hat,_,rfl,_,rfl,xs,us[r2],ga,d,m,rfl,NH.aN h3,hok ga (List.mem_of_getElem? hga),d3,(by omega),fun v' o' H5 b5 d5 mG lo=>⟨l,us,r2,v',rfl,.inl (b5 _ _ Ef nA),K3,by omega,fun r H6 s6 f6 e6=>RI r H6 v' o' H5 (Ut.trans b5) d5 mG lo s6 e6⟩⟩
  ·refine cN (fun z=>oS (V.str.inj z)) (dO ⟨_,rfl,_,rfl,_,rfl,_,rfl,l,_,_,_,rfl,rfl,bz.of Ef,aK hat,_,rfl,_,rfl,xs,us[r2],ga,d,m,rfl,NH.aN h3,hok ga (List.mem_of_getElem? hga),d3,(by omega),fun v' o' H5 b5 d5 mG lo=>⟨l,us,r2,v',rfl,.inl (b5 _ _ Ef nA),K3,by omega,fun r H6 s6 f6 e6=>RI r H6 v' o' H5 (Ut.trans b5) d5 mG lo s6 e6⟩⟩)
abbrev eZ:Stmt:=top 40
theorem fN:aW ["_law_line_here","_law_draw","_law_lines","_law_pairs","_law_at","_law_way"] ["_law_line_here","_law_draw","_law_lines"] (au eZ):=⟨rfl,rfl,rfl,by decide +kernel,rfl,by decide +kernel,by decide +kernel⟩
seal L2.PE L2.PS L2.rR L2.PA L2.PT in
theorem tT {f C:Addr} {fd:FuncData} {n:Nat} (F:iU K "_law_quiet_add" "_law_quiet_add" eZ f fd) (T:Txt K mg C) (J:kW K mg) (O:mD K C) (dg:Dn P w K mg base 2 "_law_next" ["_law_draw","_law_size"] iX):cL P w K mg base iB 3 f fd ["_law_line_here","_law_draw","_law_lines"] (mZ C):=by
 obtain ⟨iJ,gD,bw,aT,aU,bu⟩:=dg
 refine F.ok fN (fun vs H Q E h=>?_) (fun cdv A outer s H vs Q E hr h=>?_)
 ·obtain ⟨xs,v,ws,d,m,rfl,ov,Gv,hd,hm,k⟩:=h
  rfl
 ·obtain ⟨xs,v,ws,d,m,rfl,ov,Gv,hd,hm,k⟩:=h
  have hu:=cH hr
  rw [show az eZ=[_,_,_,_,_] from rfl]
  refine ⟨_,(ak (ou (i:=3) fN.nd rfl (Or.inl rfl) (ck ["_law_pair"] [] [] rfl (by decide +kernel) (by decide +kernel) (by with_unfolding_all rfl) (by exact trivial) (by rfl) rfl (by rfl)) rfl (nu (aD aX (pv 0) aj (fun _ _=>rfl))) (fun _ _ _ _=>(aS (i:=0) (show List.Nodup (["_law_pair"]:List Str) by decide +kernel) rfl (Or.inl rfl) (Or.inr rfl))) (fun _ _ _ _=>dZ) (fun _ _ _ _=>(bV (vp (K:=K) rfl) (by rfl) T.list boot_list (af (pv 0) ai))))
   (ak (bq (i:=4) fN.nd rfl (Or.inl rfl) (ao bw (hr.mono (by first | decide | omega)) rfl aT aU bu .nil aB (af (pv 1) (af (aJ aG (by rfl) T.len PySem.boot_len (af (pv 3) ai)) ai))))
   (ak (bq (i:=5) fN.nd rfl (Or.inl rfl) (ao bw (hr.mono (by first | decide | omega)) rfl aT aU bu .nil aB (af (pv 1) (af aj ai))))
   (ak (cE (bh cU (pv 5) aj (aO _)) (ay (iC (mL PySem.F.plainAttrs_list PySem.F.slot_list_append PySem.F.type_list_append fY (pv 3) (af (bP (af aj (af (pv 4) ai))) ai)))) (ay (cE (bh cU (pv 5) aj (aO _)) (ay (bq (i:=3) fN.nd rfl (Or.inl rfl) (aR fz (pv 3) (bP (af (bP (af aj (af (aD aI (aD aI (pv 3) (pv 4) (fun _ _=>rfl)) aj (fun _ _=>rfl)) ai))) (af (bP (af (fE dw aj) (af (aD aI (aD aI (pv 3) (pv 4) (fun _ _=>rfl)) aj (fun _ _=>rfl)) ai))) ai)))))) (ay (cE (bh cU (pv 5) aj (aO _)) (ay (tO (aR ia (aD aI (aD aI (pv 3) (pv 4) (fun _ _=>rfl)) aj (fun _ _=>rfl)) (pv 2)) (xJ (aD aI (pv 3) (pv 4) (fun _ _=>rfl)) aj set_list))) (ay (cE (bh cU (pv 5) aj (aO _)) (ay (tO (aD aI (bP (af (aD aI (aD aI (pv 3) (pv 4) (fun _ _=>rfl)) aj (fun _ _=>rfl)) (af fG ai))) (bV mz (by rfl) T.int boot_int (af (cG cU (aD aI (aD aI (pv 3) (pv 4) (fun _ _=>rfl)) aj (fun _ _=>rfl)) aj (aO _)) ai)) (fun _ _=>rfl)) (xJ (aD aI (pv 3) (pv 4) (fun _ _=>rfl)) aj set_list))) (ay (tO (aD aI (bP (af (aD aI (aD aI (pv 3) (pv 4) (fun _ _=>rfl)) aj (fun _ _=>rfl)) (af (cG cU (aD aI (aD aI (pv 3) (pv 4) (fun _ _=>rfl)) aj (fun _ _=>rfl)) aj (aO _)) ai))) (bV mz (by rfl) T.int boot_int (af (cG mO (aD aI (aD aI (pv 3) (pv 4) (fun _ _=>rfl)) aj (fun _ _=>rfl)) aj (aO _)) ai)) (fun _ _=>rfl)) (xJ (aD aI (pv 3) (pv 4) (fun _ _=>rfl)) aj set_list))))))))))
   (ay (aH (bP (af cB (af (pv 3) ai))))))))),?_⟩
  obtain ⟨a,us,rfl,et,hp⟩:=fm (ys:=[.sc (.str "add"),.sq (ws.map gf)]) ov
  obtain ⟨v0,v1,rfl,x0,x1⟩:=jI hp
  obtain ⟨t,ps,rfl,HY,hps⟩:=fm x1
  have Ss:=aA hps
  rw [List.length_map] at Ss
  have w5:=Gv.2.1
  have w1:=Gv.1
  refine ⟨_,rfl,gA (.inr et) (aK (j:=1) rfl) ⟨t,rfl,uE (.inr HY) (fun i ys H'=>aP H H'∧EI H d H' ys (ws.take i)∧ys.Nodup) ⟨aP.refl _,.nil,List.nodup_nil⟩ (fun i ys H' q o z=>q.1 _ _ z) ?_ ?_⟩⟩
  ·rintro i v ys H1 hi ⟨s1,pr,nd⟩
   have il:i < ps.length:=(List.getElem?_eq_some_iff.mp hi).1
   obtain ⟨po,My,O2⟩:=bf hps hi
   obtain ⟨wp,hwp,rfl⟩:∃ wp,ws[i]?=some wp∧po=gf wp:=by
    rw [List.getElem?_map] at My
    obtain ⟨wp,a1,a2⟩:=Option.map_eq_some_iff.mp My
    exact ⟨wp,a1,a2.symm⟩
   obtain ⟨q,qs,rfl,ZU,Tu⟩:=fm (ys:=[.sc (.int wp.1),.sc (.int wp.2)]) O2
   obtain ⟨q0,q1,rfl,z0,z1⟩:=jI Tu
   obtain ⟨rfl,_⟩:=wZ z0
   obtain ⟨rfl,_⟩:=wZ z1
   refine ⟨Ext.one,kR ⟨_,rfl,q,_,rfl,.inr (cR.of (s1 _ _ ZU)),fun l hl=>⟨?_,s1.trans (new hl),?_,?_⟩⟩⟩
   ·rw [aA pr,List.length_take];exact line _ (by omega)
   ·rw [take_snoc hwp]
    exact bR (pr.same (new hl)) ⟨l,rfl,ah,(hd.same s1).ne hl,s1.free hl⟩
   ·refine List.nodup_append.mpr ⟨nd,(by simp),fun x hx y hy=>?_⟩
    rw [List.mem_singleton.mp hy]
    intro z
    obtain ⟨j,hj⟩:=List.mem_iff_getElem?.mp hx
    obtain ⟨w',_,b,e,q',_⟩:=bf pr hj
    rw [e] at z
    cases z
    rw [hl] at q'
    cases q'
  rintro ys H1 ⟨s1,pr,nd⟩ L hL
  rw [Ss,List.take_length] at pr
  have ly:=aA pr
  have nL:L≠d:=(hd.same s1).ne hL
  have fL:H L=none:=s1.free hL
  have yL:=new (o:=.lst ys) hL
  have s1:=s1.trans yL
  have pr:=pr.same yL
  have d1:=hd.same s1
  have eL:(upd H1 L (.lst ys)) L=some (.lst ys):=ah
  have nLy:V.ref L ∉ ys:=fun z=>by
   obtain ⟨j,hj⟩:=List.mem_iff_getElem?.mp z
   obtain ⟨w',_,b,e,q',_⟩:=bf pr hj
   cases e
   rw [eL] at q'
   injection q' with q'
   injection q' with q'
   rw [q'] at hj
   have:([V.int w'.1,V.int w'.2]:List V)[j]?=some (.ref L):=hj
   match j,this with
   | 0,h=>cases h
   | 1,h=>cases h
  generalize upd H1 L (.lst ys)=H2 at s1 pr d1 eL ⊢
  refine ⟨_,rfl,_,rfl,L,ys,rfl,.inl (bz.of eL),d,(ys.length:Int),rfl,d1,by omega,fun r2 H3 hr2 b3 d3=>?_⟩
  refine ⟨_,rfl,d,5,rfl,d3,by decide,fun w H4 hw b4 d4=>?_⟩
  have RC:=b3.trans b4
  have KH:=(cA.of s1).trans RC
  have Sh:=pr.but RC
  have Au:=RC _ _ eL nL
  have K3:r2 < ys.length:=by omega
  have hat:=List.getElem?_eq_getElem K3
  obtain ⟨wp,hwp,aa,ea,Ih,naa,faa⟩:=bf Sh hat
  rw [ea] at hat
  have qm:ys[r2]?=some (.ref aa):=hat
  have XD:=oG Gv
  have Nz:=Gv.2.2 wp (List.mem_of_getElem? hwp)
  have naL:aa≠L:=fun z=>nLy (by rw [← z];exact List.mem_of_getElem? qm)
  have ES:∀ (L':Addr) (vs:List V) (qs:List Ov) (H5:Hp),cA d H H5→Dr H5 d→H5 L'=some (.lst vs)→Paired (bW C H5) vs qs→qs.length≤10→mE qs→∀ (r:Addr),H5 r=none→Q (.ref r) (upd H5 r (.lst [V.str "add",.ref L'])):=fun L' vs qs H5 b5 d5 e5 pv K9 nb r hr0=>by
   have y:=new (o:=.lst [V.str "add",.ref L']) hr0
   exact k (.ref r) (.sq [.sc (.str "add"),.sq qs]) _ (b5.trans (cA.of y)) (d5.same y) (cD (.inl ah) (.cons (cz rfl) (.cons (cD (.inl (y _ _ e5)) (L2.Paired.dX pv fun _ _ z=>z.same y)) .nil))) (qe K9 nb)
  have Np:∀ (x y:V) (H5:Hp),aP H4 H5→gj x=true→gj y=true→iM (.sc x)→iM (.sc y)→∀ (r:Addr),(upd H5 aa (.lst [x,y])) r=none→Q (.ref r) (upd (upd H5 aa (.lst [x,y])) r (.lst [V.str "add",.ref L])):=fun x y H5 s5 fx fy nx ny r hr0=>by
   have bU:cA aa H5 (upd H5 aa (.lst [x,y])):=cA.upd
   refine ES L ys ((ws.map gf).set r2 (.sq [.sc x,.sc y])) _ (fun b o z nb=>?_) (let ⟨p,q,e⟩:=d4.same s5;⟨p,q,bU _ _ e naa.symm⟩) (bU _ _ (s5 _ _ Au) naL.symm) (Cw fx fy (Sh.same s5) nd qm) (by rw [List.length_set,List.length_map];omega) (JT XD (cI (aE nx (aE ny bQ)))) r hr0
   exact bU _ _ (s5 _ _ (KH _ _ z nb)) (aF z faa)
  refine ⟨_,rfl,rfl,_,rfl,?_⟩
  by_cases c0:w=0
  ·refine cM (by rw [c0];rfl) ⟨_,rfl,.inl ⟨rfl,_,bz.of Au⟩,_,rfl,(szl 2),fun q hq=>?_⟩
   have yq:=new (o:=.lst [V.int 0,.int (r2:Int)]) hq
   refine ⟨L,_,_,rfl,rfl,yq _ _ Au,line _ (by omega),?_⟩
   have bU:cA L (upd H4 q (.lst [V.int 0,.int (r2:Int)])) (upd (upd H4 q (.lst [V.int 0,.int (r2:Int)])) L (.lst (ys++[V.ref q]))):=cA.upd
   have nqL:q≠L:=fun z=>by rw [z,Au] at hq;cases hq
   have pv:Paired (bW C (upd (upd H4 q (.lst [V.int 0,.int (r2:Int)])) L (.lst (ys++[V.ref q])))) (ys++[V.ref q]) (ws.map gf++[.sq [.sc (.int 0),.sc (.int (r2:Int))]]):=bR (pX (Sh.same yq) nLy) (cD (.inl (by rw [aL nqL];exact ah)) (.cons (cz rfl) (.cons (cz rfl) .nil)))
   refine ⟨_,rfl,(szl 2),fun r hr0=>ES L _ _ _ (fun b o z nb=>bU _ _ (yq _ _ (KH _ _ z nb)) (fun e=>by rw [e] at z;rw [fL] at z;cases z)) (let ⟨p,q',e⟩:=d4.same yq;⟨p,q',bU _ _ e nL.symm⟩) ah pv (by rw [List.length_append,List.length_map];show _+1≤10;omega) (jy XD (aE (cI (aE (br (by decide)) (aE (br (by omega)) bQ))) bQ)) r hr0⟩
  refine cN (fun z=>c0 (by have:=V.int.inj z;omega)) ⟨_,rfl,rfl,_,rfl,?_⟩
  by_cases c1:w=1
  ·refine cM (by rw [c1];rfl) ⟨_,rfl,_,rfl,_,rfl,L,_,_,_,rfl,rfl,bz.of Au,aK qm,aa,_,1,_,rfl,rfl,bz.of Ih,rfl,(szl 2),fun q1 hq1=>?_⟩
   have y1:=new (o:=.lst [V.int 1,.int (wp.2:Int)]) hq1
   refine ⟨_,rfl,_,rfl,_,rfl,L,_,_,_,rfl,rfl,bz.of (y1 _ _ Au),aK qm,aa,_,1,_,rfl,rfl,bz.of (y1 _ _ Ih),rfl,(szl 2),fun q2 hq2=>⟨(szl 2),fun q3 Zd=>?_⟩⟩
   have y2:=new (o:=.lst [V.int (-1),.int (wp.2:Int)]) hq2
   have y3:=new (o:=.lst [V.ref q1,.ref q2]) Zd
   have Og:=(y1.trans y2).trans y3
   refine ⟨L,q3,_,_,rfl,rfl,Og _ _ Au,ah,(by show ys.length+2≤_;exact Nat.le_of_lt (line _ (by omega))),fun L2 hL2=>?_⟩
   have y4:=new (o:=.lst (ys++[V.ref q1,.ref q2])) hL2
   have sA:=Og.trans y4
   have pv:=cu (EI.ov (C:=C) (Sh.same sA)) (.cons (cD (C:=C) (ys:=[.sc (.int 1),.sc (.int (wp.2:Int))]) (.inl (((y2.trans y3).trans y4) _ _ (ah (a:=q1) (o:=.lst [V.int 1,.int (wp.2:Int)])))) (.cons (cz rfl) (.cons (cz rfl) .nil))) (.cons (cD (C:=C) (ys:=[.sc (.int (-1)),.sc (.int (wp.2:Int))]) (.inl ((y3.trans y4) _ _ (ah (a:=q2) (o:=.lst [V.int (-1),.int (wp.2:Int)])))) (.cons (cz rfl) (.cons (cz rfl) .nil))) .nil))
   refine ⟨_,rfl,(szl 2),fun r hr0=>ES L2 _ _ _ (KH.trans (cA.of sA)) (d4.same sA) ah pv (by rw [List.length_append,List.length_map];show _+2≤10;omega) (jy XD (aE (cI (aE (br (by decide)) (aE (br (by omega)) bQ))) (aE (cI (aE (br (by decide)) (aE (br (by omega)) bQ))) bQ))) r hr0⟩
  refine cN (fun z=>c1 (by have:=V.int.inj z;omega)) ⟨_,rfl,rfl,_,rfl,?_⟩
  by_cases c2:w=2
  ·refine cM (by rw [c2];rfl) ⟨_,rfl,_,rfl,L,_,_,_,rfl,rfl,bz.of Au,aK qm,aa,_,1,_,rfl,rfl,bz.of Ih,rfl,_,rfl,_,_,rfl,rfl,?_⟩
   refine ⟨_,rfl,_,rfl,L,_,_,_,rfl,rfl,bz.of Au,aK qm,aa,_,1,1,rfl,rfl,Ih,rfl,?_⟩
   exact ⟨_,rfl,(szl 2),fun r hr0=>Np (.int wp.1) (.int ((wp.2:Int) - m)) H4 (aP.refl _) rfl rfl (br (by omega)) (br (by omega)) r hr0⟩
  refine cN (fun z=>c2 (by have:=V.int.inj z;omega)) ⟨_,rfl,rfl,_,rfl,?_⟩
  by_cases c3:w=3
  ·refine cM (by rw [c3];rfl) ⟨_,rfl,_,rfl,L,_,_,_,rfl,rfl,bz.of Au,aK qm,aa,_,0,_,rfl,rfl,bz.of Ih,rfl,(szl 2),fun q hq=>?_⟩
   have yq:=new (o:=.lst [V.int wp.1,.bl true]) hq
   refine ⟨_,rfl,_,rfl,L,_,_,_,rfl,rfl,bz.of (yq _ _ Au),aK qm,aa,_,0,_,rfl,rfl,bz.of (yq _ _ Ih),rfl,rfl,.inr ⟨decide (V.int wp.1=V.int 1),rfl,?_⟩⟩
   obtain ⟨x,hx,fx,nx⟩:∃ x,Ai [V.int wp.1,V.bl true] (if decide (V.int wp.1=V.int 1)=true then 1 else 0)=some x∧gj x=true∧iM (.sc x):=by
    by_cases z:V.int wp.1=V.int 1
    ·rw [if_pos (decide_eq_true z)];exact ⟨.bl true,rfl,rfl,by unfold iM;trivial⟩
    ·rw [if_neg (by rw [decide_eq_false z];simp)];exact ⟨.int wp.1,rfl,rfl,br (by omega)⟩
   refine ⟨q,_,_,_,rfl,rfl,bz.of ah,hx,?_⟩
   refine ⟨_,rfl,_,rfl,L,_,_,_,rfl,rfl,bz.of (yq _ _ Au),aK qm,aa,_,0,0,rfl,rfl,yq _ _ Ih,rfl,?_⟩
   exact ⟨_,rfl,(szl 2),fun r hr0=>Np x (.int (wp.2:Int)) _ yq fx rfl nx (br (by omega)) r hr0⟩
  refine cN (fun z=>c3 (by have:=V.int.inj z;omega)) ?_
  refine ⟨_,rfl,_,rfl,L,_,_,_,rfl,rfl,bz.of Au,aK qm,aa,_,1,_,rfl,rfl,bz.of Ih,rfl,_,rfl,_,rfl,L,_,_,_,rfl,rfl,bz.of Au,aK qm,aa,_,1,_,rfl,rfl,bz.of Ih,rfl,rfl,(szl 2),fun q hq=>?_⟩
  have yq:=new (o:=.lst [V.int (wp.2:Int),.bl (decide (V.int (wp.2:Int)=V.int 1))]) hq
  refine ⟨_,rfl,_,rfl,L,_,_,_,rfl,rfl,bz.of (yq _ _ Au),aK qm,aa,_,1,_,rfl,rfl,bz.of (yq _ _ Ih),rfl,_,_,rfl,rfl,.inr ⟨decide ((wp.2:Int) < 2),rfl,?_⟩⟩
  obtain ⟨x,hx,fx,nx⟩:∃ x,Ai [V.int (wp.2:Int),V.bl (decide (V.int (wp.2:Int)=V.int 1))] (if decide ((wp.2:Int) < 2)=true then 1 else 0)=some x∧gj x=true∧iM (.sc x):=by
   by_cases z:(wp.2:Int) < 2
   ·rw [if_pos (decide_eq_true z)];exact ⟨.bl _,rfl,rfl,by unfold iM;trivial⟩
   ·rw [if_neg (by rw [decide_eq_false z];simp)];exact ⟨.int (wp.2:Int),rfl,rfl,br (by omega)⟩
  refine ⟨q,_,_,_,rfl,rfl,bz.of ah,hx,?_⟩
  refine ⟨_,rfl,_,rfl,L,_,_,_,rfl,rfl,bz.of (yq _ _ Au),aK qm,aa,_,1,1,rfl,rfl,yq _ _ Ih,rfl,?_⟩
  exact ⟨_,rfl,(szl 2),fun r hr0=>Np (.int wp.1) x _ yq rfl fx (br (by omega)) nx r hr0⟩
abbrev i7:Stmt:=top 41
theorem gr:aW ["_law_case","_law_paper","_law_draw","_law_way","_law_last_here","_law_lines","_law_more","_law_side","_law_inner"] ["_law_case","_law_paper","_law_draw"] (au i7):=⟨rfl,rfl,rfl,by decide +kernel,rfl,by decide +kernel,by decide +kernel⟩
seal L2.PE L2.PS L2.rR L2.PA L2.PT in
theorem AQ {f C:Addr} {fd:FuncData} {n:Nat} (F:iU K "_law_quiet" "_law_quiet" i7 f fd) (T:Txt K mg C) (J:kW K mg) (O:mD K C) (dg:Dn P w K mg base 2 "_law_next" ["_law_draw","_law_size"] iX) (oW:Dn P w K mg base 1 "_law_put" ["_law_row_here","_law_at","_law_thing"] sW) (vn:Dn P w K mg base 3 "_law_quiet_add" ["_law_line_here","_law_draw","_law_lines"] (mZ C)) (bZ:Dn P w K mg base 3 "sum_of" ["pairs","number"] (ef C)) (nG:Mt P w K mg base 4 C "plus" ["self","other"] (pO C)):cL P w K mg base iB 7 f fd ["_law_case","_law_paper","_law_draw"] (xm C):=by
 obtain ⟨iJ,gD,bw,aT,aU,bu⟩:=dg
 obtain ⟨C1,zV,iF,gg,gh,iE⟩:=oW
 obtain ⟨I9,HN,mS,lK,lS,mR⟩:=vn
 obtain ⟨fq,d9,bK,aY,aZ,bD⟩:=bZ
 obtain ⟨Bp,yd,fU,lN,fS⟩:=nG
 refine F.ok gr (fun vs H Q E h=>?_) (fun cdv A outer s H vs Q E hr h=>?_)
 ·obtain ⟨xs,c,l,d,cs,ss,us,gs,rfl,hc,Sn,hS,MB,hx,NO,hg,hl,nA,hp,Dv,hd,k⟩:=h
  rfl
 ·obtain ⟨xs,c,l,d,cs,ss,us,gs,rfl,hc,Sn,hS,MB,hx,NO,hg,hl,nA,hp,Dv,hd,k⟩:=h
  have hu:=cH hr
  rw [show az i7=[_,_,_,_,_,_,_] from rfl]
  refine ⟨_,(ak (bq (i:=3) gr.nd rfl (Or.inl rfl) (ao bw (hr.mono (by first | decide | omega)) rfl aT aU bu .nil aB (af (pv 2) (af aj ai))))
   (ak (bq (i:=4) gr.nd rfl (Or.inl rfl) (aD aI (pv 1) (fE dw aj) (fun _ _=>rfl)))
   (ak (bq (i:=5) gr.nd rfl (Or.inl rfl) (aR ia (aR cS (aJ aG (by rfl) T.len PySem.boot_len (af (pv 0) ai)) (aJ aG (by rfl) T.len PySem.boot_len (af (pv 1) ai))) aj))
   (ak (cE (bh cU (pv 3) aj (aO _)) (ay (aH (aM (af (pv 0) (af (aR fz (pv 1) (bP (af (bP (af cB (af (bP (af (bP (af aj (af aj ai))) ai)) ai))) ai))) ai))))) bN)
   (ak (cE (PW.pt (nk (bh mO (pv 3) aj (aO _)) (oq (bh cU (aD aX (aD aI (pv 1) aj (fun _ _=>rfl)) aj (fun _ _=>rfl)) cB (aO _))))) (ak (bq (i:=6) gr.nd rfl (Or.inl rfl) (fX (aD aI (pv 0) (aD aX (aD aI (pv 1) aj (fun _ _=>rfl)) aj (fun _ _=>rfl)) (fun _ _=>rfl)) T.cl lN fU (hr.mono (by first | decide | omega)) fS .nil aB (af (ao bK (hr.mono (by first | decide | omega)) rfl aY aZ bD .nil aB (af (aM (af (aM (af cB (af (aR cS aj (ao bw (hr.mono (by first | decide | omega)) rfl aT aU bu .nil aB (af (pv 2) (af (aR ia (aD aX (aD aI (pv 1) aj (fun _ _=>rfl)) aj (fun _ _=>rfl)) aj) ai)))) ai))) ai)) (af aj ai))) ai)))
   (ay (aH (aM (af (ao iF (hr.mono (by first | decide | omega)) rfl gg gh iE .nil aB (af (pv 0) (af (aD aX (aD aI (pv 1) aj (fun _ _=>rfl)) aj (fun _ _=>rfl)) (af (pv 6) ai)))) (af (pv 1) ai)))))) bN)
   (ak (cE (bh cU (aD aX (pv 4) aj (fun _ _=>rfl)) cB (aO _)) (ak (bq (i:=7) gr.nd rfl (Or.inl rfl) (aR cS aj (ao bw (hr.mono (by first | decide | omega)) rfl aT aU bu .nil aB (af (pv 2) (af aj ai)))))
   (ak (bq (i:=8) gr.nd rfl (Or.inl rfl) (bP (af (ao mS (hr.mono (by first | decide | omega)) rfl lK lS mR .nil aB (af (aD aX (aD aX (pv 4) (pv 7) (fun _ _=>rfl)) aj (fun _ _=>rfl)) (af (pv 2) (af (aR cS (pv 5) aj) ai)))) ai)))
   (ay (aH (aM (af (pv 0) (af (aR fz (eF gG (pv 1) fD (fB (fE dw aj))) (bP (af (ao iF (hr.mono (by first | decide | omega)) rfl gg gh iE .nil aB (af (pv 4) (af (pv 7) (af (pv 8) ai)))) ai))) ai))))))) bN)
   (ay (aH (aM (af (pv 0) (af (aR fz (eF gG (pv 1) fD (fB (fE dw aj))) (bP (af (ao mS (hr.mono (by first | decide | omega)) rfl lK lS mR .nil aB (af (pv 4) (af (pv 2) (af (pv 5) ai)))) ai))) ai))))))))))),?_⟩
  have lu:us.length=gs.length:=by have:=aA hp;rw [List.length_map] at this;exact this
  have lcs:=aA hS
  have Aj:=Hj Dv.ok
  have ZA:0 < gs.length:=List.length_pos_iff.mpr Dv.ne
  have l4:=Dv.le
  have gAt:∀ i,i < gs.length→∃ v g,us[i]?=some v∧gs[i]?=some g∧iO C H v (mq g)∧uO xs g:=fun i hi=>by
   have h1:=List.getElem?_eq_getElem (l:=us) (i:=i) (by omega)
   obtain ⟨x,hx',ox⟩:=bf hp h1
   rw [List.getElem?_map] at hx'
   obtain ⟨g,a1,a2⟩:=Option.map_eq_some_iff.mp hx'
   subst a2
   exact ⟨_,g,h1,a1,ox,Dv.ok g (List.mem_of_getElem? a1)⟩
  obtain ⟨vl,gl,hul,Zo,OZ,tS⟩:=gAt (gs.length - 1) (by omega)
  have J7:∀ k d,gl≠.cut k d:=fun k d e=>Dv.lst k d (by rw [List.getLast?_eq_getElem?,Zo,e])
  obtain ⟨v00,g0,IX,hg0,ox0,ok0⟩:=gAt 0 ZA
  obtain ⟨al,ul,rfl,Ja,hpl⟩:=fm (ys:=.sc (.str (vF gl))::we gl) (by rw [← zO];exact OZ)
  obtain ⟨a0,u0,rfl,Qt,hp0⟩:=fm (ys:=.sc (.str (vF g0))::we g0) (by rw [← zO];exact ox0)
  have RY:ul[0]?=some (V.str (vF gl)):=by
   cases hpl with
   | cons x t=>rw [(wZ x).1];rfl
  have u00:u0[0]?=some (V.str (vF g0)):=by
   cases hp0 with
   | cons x t=>rw [(wZ x).1];rfl
  have m1:Ai us (-1)=some (.ref al):=uJ (by omega) (by rw [lu];exact hul)
  refine ⟨_,rfl,d,5,rfl,hd,by decide,fun w H1 hw b1 d1=>?_⟩
  have h1:=hd.soft b1
  have Bu:=b1 _ _ hl nA
  have ec1:=b1 _ _ hc Sn
  refine ⟨_,rfl,_,rfl,l,_,_,_,rfl,rfl,bz.of Bu,m1,?_⟩
  refine ⟨_,rfl,c,_,rfl,.inl (bz.of ec1),_,rfl,l,_,rfl,.inl (bz.of Bu),_,_,rfl,rfl,_,_,rfl,rfl,?_⟩
  have hg':∀ s∈ss,Gm xs s∧jE 110 s:=fun s hs=>⟨(hg s hs).1,(hg s hs).2.mono (by decide)⟩
  have ES:∀ (r:Addr) (vs:List V) (ls:List Ov) (H4:Hp),cA d H H4→Dr H4 d→H4 r=some (.lst vs)→Paired (bW C H4) vs ls→ls.length≤9→(∀ x∈ls,uM xs x)→∀ t,H4 t=none→Q (.ref t) (upd H4 t (.tup [.ref c,.ref r])):=fun r vs ls H4 b4 d4 e4 pv l9 lg t ht=>by
   have y:=new (o:=.tup [V.ref c,.ref r]) ht
   exact k t c (.ref r) cs ss (.sq ls) _ (b4.trans (cA.of y)) (d4.same y) ah (y _ _ (b4 _ _ hc Sn)) (hS.aN ((hd.soft b4).trans (aQ.of y))) rfl hg' ((cD (.inl e4) pv).same y) (eU l9 lg)
  have NI:∀ {H4:Hp},aQ H H4→Paired (bW C H4) us (gs.map mq):=fun h=>L2.Paired.dX hp fun _ _ z=>(z.aN h).ov
  have lgm:(gs.map mq).length=gs.length:=List.length_map ..
  refine ⟨_,rfl,rfl,_,rfl,?_⟩
  by_cases c0:w=0
  ·refine cM (by rw [c0];rfl) ⟨_,rfl,_,rfl,(szl 2),fun q1 hq1=>⟨(Nat.le_of_lt (line 1 (by decide))),fun q2 hq2=>⟨(szl 2),fun q3 Zd=>⟨(Nat.le_of_lt (line 1 (by decide))),fun q4 hq4=>?_⟩⟩⟩⟩
   have y1:=new (o:=.lst [V.int 1,.int 0]) hq1
   have y2:=new (o:=.lst [V.ref q1]) hq2
   have y3:=new (o:=.lst [V.str "add",.ref q2]) Zd
   have y4:=new (o:=.lst [V.ref q3]) hq4
   have y14:=((y1.trans y2).trans y3).trans y4
   refine ⟨l,q4,us,[V.ref q3],rfl,rfl,y14 _ _ Bu,ah,(by show us.length+1≤_;exact Nat.le_of_lt (line _ (by omega))),fun r hr0=>⟨(szl 2),fun t ht=>?_⟩⟩
   have y5:=new (o:=.lst (us++[V.ref q3])) hr0
   have sA:=y14.trans y5
   have ob:bW C (upd (upd (upd (upd (upd H1 q1 (.lst [V.int 1,.int 0])) q2 (.lst [V.ref q1])) q3 (.lst [V.str "add",.ref q2])) q4 (.lst [V.ref q3])) r (.lst (us++[V.ref q3]))) (.ref q3) (cy [(1,0)]):=cD (.inl ((y4.trans y5) _ _ (ah (a:=q3) (o:=.lst [V.str "add",.ref q2])))) (.cons (cz rfl) (.cons (cD (.inl (((y3.trans y4).trans y5) _ _ (ah (a:=q2) (o:=.lst [V.ref q1])))) (.cons (cD (.inl ((((y2.trans y3).trans y4).trans y5) _ _ (ah (a:=q1) (o:=.lst [V.int 1,.int 0])))) (.cons (cz rfl) (.cons (cz rfl) .nil))) .nil)) .nil))
   refine ES r _ (gs.map mq++[cy [(1,0)]]) _ (b1.trans (cA.of sA)) (d1.same sA) ah (bR (NI (h1.trans (aQ.of sA))) ob) (by rw [List.length_append,lgm];show _+1≤9;omega) (fun x hx=>?_) t ht
   rcases List.mem_append.mp hx with z | z
   ·exact Aj x z
   ·rw [List.mem_singleton.mp z];exact iR Ny
  refine cN (fun z=>c0 (by have:=V.int.inj z;omega)) ⟨_,rfl,_,_,rfl,rfl,_,rfl,?_⟩
  by_cases c3:w < 3
  ·refine cM (by omega) ⟨_,rfl,l,_,0,_,rfl,rfl,bz.of Bu,aK (j:=0) IX,gA (.inr (h1.t _ _ Qt)) (aK (j:=0) u00) ⟨rfl,_,rfl,?_⟩⟩
   by_cases Bh:vF g0="cut"
   ·obtain ⟨k0,d0,rfl⟩:∃ k0 d0,g0=.cut k0 d0:=by
     cases g0 with
     | cut k d=>exact ⟨k,d,rfl⟩
     | add ws=>exact absurd Bh (by show ¬ ("add":Str)="cut";decide +kernel)
     | split s w1 w2=>exact absurd Bh (by show ¬ ("split":Str)="cut";decide +kernel)
    have k0l:=Dv.fst k0 d0 hg0
    obtain ⟨kk,d2,d5⟩:=ok0
    obtain ⟨v0,v1,v2,rfl,x0,x1,x2⟩:=lF (a:=Ov.sc (.str "cut")) (b:=Ov.sc (.int (k0:Int))) (c:=Ov.sc (.int d0)) hp0
    obtain ⟨rfl,_⟩:=wZ x0
    obtain ⟨rfl,_⟩:=wZ x1
    obtain ⟨rfl,_⟩:=wZ x2
    have Qs:=h1.t _ _ Qt
    obtain ⟨p,s,ep,es,S⟩:=qD (hS.aN h1) (k:=k0) (by omega)
    obtain ⟨dx,tt,e1,_,_⟩:=id S
    have Gs:=hg s (List.mem_of_getElem? es)
    have l6:=Gs.1.len hx
    refine cM (congrArg V.str Bh) ⟨_,rfl,_,rfl,l,_,0,_,rfl,rfl,bz.of Bu,aK (j:=0) IX,gA (.inr Qs) (aK (j:=1) rfl) ⟨c,_,_,_,rfl,rfl,bz.of ec1,aK ep,p,dx,_,rfl,e1,eS _ _ (by decide +kernel) (by decide +kernel),_,rfl,_,rfl,l,_,0,_,rfl,rfl,bz.of Bu,aK (j:=0) IX,gA (.inr Qs) (aK (j:=2) rfl) ⟨_,_,rfl,rfl,d,d0 - 1,rfl,d1,(by omega),fun r4 H4 Tt b4 d4=>⟨_,_,rfl,rfl,(szl 2),fun a1 g1=>⟨(Nat.le_of_lt (line 1 (by decide))),fun a2 g2=>⟨a2,0,[("?0",1+(r4:Int))],rfl,.inr ⟨[V.ref a1],ah,gH ⟨a1,rfl,new g2 _ _ ah⟩⟩,(by show 1 < 64;decide),fun r5 ts H5 s5 g5 Oj S5=>?_⟩⟩⟩⟩⟩⟩
    have y2:=((new (o:=.tup [V.str "?0",.int (1+(r4:Int))]) g1).trans (new (o:=.tup [V.ref a1]) g2)).trans s5
    have h5:=(d1.soft b4).trans (aQ.of y2)
    have b5:=(b1.trans b4).trans (cA.of y2)
    have d5':=d4.same y2
    refine ⟨p,r5,s.1,ts,s.2,0,rfl,S.aN h5,S5,(by have:ts.length≤1:=Oj;omega),fun r6 KU H6 s6 g6 NC S6=>?_⟩
    have b6:=b5.trans (cA.of s6)
    have h6:=h5.trans (aQ.of s6)
    have d6:=d5'.same s6
    have el6:=b6 _ _ hl nA
    have ec6:=b6 _ _ hc Sn
    refine ⟨_,rfl,_,rfl,l,_,0,_,rfl,rfl,bz.of el6,aK (j:=0) IX,gA (.inr ((h1.trans h6).t _ _ Qt)) (aK (j:=1) rfl) ⟨_,rfl,c,cs,k0,.ref r6,rfl,.inl ec6,by omega,by omega,fun r7 H7 s7 f7 e7=>⟨_,rfl,(szl 2),fun t ht=>?_⟩⟩⟩
    have y8:=new (o:=.tup [V.ref r7,.ref l]) ht
    have sZ:=s7.trans y8
    have hZ:=(h1.trans h6).trans (aQ.of sZ)
    have gmn:=(CS (a:=s.1) (n:=s.2) (b:=ts) (m:=0) Gs.1 ⟨g5.1,fun t' ht'=>by
     have:=g5.keys ht'
     rw [List.mem_singleton.mp this];exact NO⟩ g6).1
    have szn:=JD Gs.2 l6 (by omega) g5 g6
    refine k t r7 (.ref l) (cs.take k0++[V.ref r6]++cs.drop (k0+1)) (ss.take k0++[(KU,s.2+0)]++ss.drop (k0+1)) (.sq (gs.map mq)) _ (b6.trans (cA.of sZ)) (d6.same sZ) ah (y8 _ _ e7) (ff (hS.aN hZ) ⟨r6,rfl,S6.same sZ⟩ k0) ?_ (fun s' hs'=>?_) (cD (.inl (sZ _ _ el6)) (NI hZ)) (eU (by omega) Aj)
    ·rw [List.length_append,List.length_append,List.length_take,List.length_drop];show _+1+_=_;omega
    ·rcases List.mem_append.mp hs' with z | z
     ·rcases List.mem_append.mp z with z | z
      ·exact hg' s' (List.mem_of_mem_take z)
      ·rw [List.mem_singleton.mp z];exact ⟨gmn,szn⟩
     ·exact hg' s' (List.mem_of_mem_drop z)
   ·refine cN (fun z=>Bh (V.str.inj z)) ⟨_,rfl,gA (.inr (h1.t _ _ Ja)) (aK (j:=0) RY) ⟨rfl,_,rfl,?_⟩⟩
    by_cases oS:vF gl="split"
    ·obtain ⟨s9,q1,q2,rfl⟩:∃ s9 q1 q2,gl=.split s9 q1 q2:=by
      cases gl with
      | cut k d=>exact absurd rfl (J7 k d)
      | add ws=>exact absurd oS (by show ¬ ("add":Str)="split";decide +kernel)
      | split s w1 w2=>exact ⟨s,w1,w2,rfl⟩
     refine cM (congrArg V.str oS) ⟨_,rfl,d,2,rfl,d1,by decide,fun r4 H4 Tt b4 d4=>⟨_,_,rfl,rfl,?_⟩⟩
     have h4:=h1.trans (d1.soft b4)
     have KH:=b1.trans b4
     obtain ⟨v0,v1,v2,v3,rfl,x0,x1,x2,x3⟩:=mh (a:=Ov.sc (.str "split")) (b:=Ov.sm s9) (c:=Ov.sq [cy q1]) (d:=Ov.sq [cy q2]) hpl
     obtain ⟨vv,qq,PL,O5,OY⟩:∃ vv qq,([v0,v1,v2,v3]:List V)[2+r4]?=some vv∧pA qq∧iO C H vv (.sq [cy qq]):=by
      have:r4=0∨r4=1:=by omega
      rcases this with e | e <;> subst e
      ·exact ⟨v2,q1,rfl,tS.2.2.1,x2⟩
      ·exact ⟨v3,q2,rfl,tS.2.2.2,x3⟩
     obtain ⟨av,uv,rfl,Qo,PU⟩:=fm OY
     obtain ⟨va,rfl,NH⟩:∃ va,uv=[va]∧iO C H va (cy qq):=by
      cases PU with
      | cons x t=>cases t;exact ⟨_,rfl,x⟩
     refine ⟨_,rfl,_,rfl,gA (.inr (h4.t _ _ Ja)) (by rw [show (2+(r4:Int))=((2+r4:Nat):Int) by rw [Int.natCast_add];rfl];exact aK PL) (gA (.inr (h4.t _ _ Qo)) (aK (j:=0) rfl) ⟨_,rfl,_,rfl,_,_,rfl,rfl,xs,va,qq,d,_,rfl,NH.aN h4,O5,d4,(by omega),fun v' o' H5 b5 d5 mG lo=>⟨(Nat.le_of_lt (line 1 (by decide))),fun q9 NN=>?_⟩⟩)⟩
     have y9:=new (o:=.lst [v']) NN
     have KG:=(KH.trans b5).trans (cA.of y9)
     have d5:=d5.same y9
     have h5:=(h4.trans (d4.soft b5)).trans (aQ.of y9)
     have Lk:=KG _ _ hl nA
     have O6:bW C (upd H5 q9 (.lst [v'])) (.ref q9) (.sq [o']):=cD (.inl ah) (.cons (mG.same y9) .nil)
     generalize upd H5 q9 (.lst [v'])=H5 at y9 KG d5 h5 Lk O6 ⊢
     refine ⟨_,rfl,_,rfl,_,rfl,_,rfl,l,us,rfl,bz.of Lk,fun p1 hp1=>?_⟩
     rw [uD (α:=Nat) us (by omega)]
     have z1:=new (o:=.lst (us.take (us.length - 1))) hp1
     refine ⟨_,rfl,_,rfl,_,rfl,al,_,2+r4,.ref q9,(by rw [Int.natCast_add];rfl),.inr (z1 _ _ (h5.t _ _ Ja)),(by show 2+r4 < 4;omega),(by show 4≤1000;decide),fun r6 H6 s6 f6 e6=>⟨(Nat.le_of_lt (line 1 (by decide))),fun p2 hp2=>?_⟩⟩
     have z2:=new (o:=.lst [V.ref r6]) hp2
     refine ⟨p1,p2,_,_,rfl,rfl,z2 _ _ (s6 _ _ ah),ah,(by rw [List.length_take];show _+1≤_;exact Nat.le_of_lt (line _ (by omega))),fun r hr0=>⟨(szl 2),fun t ht=>?_⟩⟩
     have z3:=new (o:=.lst (us.take (us.length - 1)++[V.ref r6])) hr0
     have sB:=((z1.trans s6).trans z2).trans z3
     have hB:=h5.trans (aQ.of sB)
     have OX:=ff (L2.Paired.dX hpl fun _ _ z=>(z.aN hB).ov) (O6.same sB) (2+r4)
     have ZC:vC xs (.sq [o']):=eU (by show 1≤9;decide) fun x hx=>by rw [List.mem_singleton.mp hx];exact lo
     have Po:uM xs (.sq (([.sc (.str "split"),.sm s9,.sq [cy q1],.sq [cy q2]]:List Ov).take (2+r4)++[.sq [o']]++([.sc (.str "split"),.sm s9,.sq [cy q1],.sq [cy q2]]:List Ov).drop (2+r4+1))):=by
      have:=rN (g:=.split s9 q1 q2) (o:=.sq [o']) (r:=1+r4) tS (by show 1+r4 < 3;omega) (cI (aE lo.1.nn bQ)) (fun z=>by omega) (fun z=>by omega) ZC
      rw [show 1+(1+r4)=2+r4 by omega] at this
      exact this
     have ob:bW C _ (.ref r6) (.sq (([.sc (.str "split"),.sm s9,.sq [cy q1],.sq [cy q2]]:List Ov).take (2+r4)++[.sq [o']]++([.sc (.str "split"),.sm s9,.sq [cy q1],.sq [cy q2]]:List Ov).drop (2+r4+1))):=cD (.inl ((z2.trans z3) _ _ e6)) OX
     have pp:=cu (cQ (NI hB) (us.length - 1)) (.cons ob .nil)
     refine ES r _ _ _ (KG.trans (cA.of sB)) (d5.same sB) ah pp (by rw [List.length_append,List.length_take];show _+1≤9;omega) (fun x hx=>?_) t ht
     rcases List.mem_append.mp hx with z | z
     ·exact Aj x (List.mem_of_mem_take z)
     ·rw [List.mem_singleton.mp z];exact Po
    ·obtain ⟨ws,rfl⟩:∃ ws,gl=.add ws:=by
      cases gl with
      | cut k d=>exact absurd rfl (J7 k d)
      | add ws=>exact ⟨ws,rfl⟩
      | split s w1 w2=>exact absurd rfl oS
     refine cN (fun z=>oS (V.str.inj z)) ⟨_,rfl,_,rfl,_,rfl,_,rfl,l,us,rfl,bz.of Bu,fun p1 hp1=>?_⟩
     rw [uD (α:=Nat) us (by omega)]
     have z1:=new (o:=.lst (us.take (us.length - 1))) hp1
     have Xz:p1≠d:=d1.ne hp1
     refine ⟨_,rfl,_,rfl,_,rfl,xs,.ref al,ws,d,_,rfl,(OZ.aN h1).aN (aQ.of z1),tS,d1.same z1,(by omega),fun v' o' H5 b5 d5 mG lo=>⟨(Nat.le_of_lt (line 1 (by decide))),fun p2 hp2=>?_⟩⟩
     have z2:=new (o:=.lst [v']) hp2
     refine ⟨p1,p2,_,_,rfl,rfl,z2 _ _ (b5 _ _ ah Xz),ah,(by rw [List.length_take];show _+1≤_;exact Nat.le_of_lt (line _ (by omega))),fun r hr0=>⟨(szl 2),fun t ht=>?_⟩⟩
     have z3:=new (o:=.lst (us.take (us.length - 1)++[v'])) hr0
     have sB:=z2.trans z3
     have hB:=((h1.trans (aQ.of z1)).trans ((d1.same z1).soft b5)).trans (aQ.of sB)
     have pp:=cu (cQ (NI hB) (us.length - 1)) (.cons (mG.same sB) .nil)
     refine ES r _ _ _ (((b1.trans (cA.of z1)).trans b5).trans (cA.of sB)) (d5.same sB) ah pp (by rw [List.length_append,List.length_take];show _+1≤9;omega) (fun x hx=>?_) t ht
     rcases List.mem_append.mp hx with z | z
     ·exact Aj x (List.mem_of_mem_take z)
     ·rw [List.mem_singleton.mp z];exact lo
  ·refine cN (by omega) (dO ⟨_,rfl,gA (.inr (h1.t _ _ Ja)) (aK (j:=0) RY) ⟨rfl,_,rfl,?_⟩⟩)
   by_cases oS:vF gl="split"
   ·obtain ⟨s9,q1,q2,rfl⟩:∃ s9 q1 q2,gl=.split s9 q1 q2:=by
     cases gl with
     | cut k d=>exact absurd rfl (J7 k d)
     | add ws=>exact absurd oS (by show ¬ ("add":Str)="split";decide +kernel)
     | split s w1 w2=>exact ⟨s,w1,w2,rfl⟩
    refine cM (congrArg V.str oS) ⟨_,rfl,d,2,rfl,d1,by decide,fun r4 H4 Tt b4 d4=>⟨_,_,rfl,rfl,?_⟩⟩
    have h4:=h1.trans (d1.soft b4)
    have KH:=b1.trans b4
    obtain ⟨v0,v1,v2,v3,rfl,x0,x1,x2,x3⟩:=mh (a:=Ov.sc (.str "split")) (b:=Ov.sm s9) (c:=Ov.sq [cy q1]) (d:=Ov.sq [cy q2]) hpl
    obtain ⟨vv,qq,PL,O5,OY⟩:∃ vv qq,([v0,v1,v2,v3]:List V)[2+r4]?=some vv∧pA qq∧iO C H vv (.sq [cy qq]):=by
     have:r4=0∨r4=1:=by omega
     rcases this with e | e <;> subst e
     ·exact ⟨v2,q1,rfl,tS.2.2.1,x2⟩
     ·exact ⟨v3,q2,rfl,tS.2.2.2,x3⟩
    obtain ⟨av,uv,rfl,Qo,PU⟩:=fm OY
    obtain ⟨va,rfl,NH⟩:∃ va,uv=[va]∧iO C H va (cy qq):=by
     cases PU with
     | cons x t=>cases t;exact ⟨_,rfl,x⟩
    refine ⟨_,rfl,_,rfl,gA (.inr (h4.t _ _ Ja)) (by rw [show (2+(r4:Int))=((2+r4:Nat):Int) by rw [Int.natCast_add];rfl];exact aK PL) (gA (.inr (h4.t _ _ Qo)) (aK (j:=0) rfl) ⟨_,rfl,_,rfl,_,_,rfl,rfl,xs,va,qq,d,_,rfl,NH.aN h4,O5,d4,(by omega),fun v' o' H5 b5 d5 mG lo=>⟨(Nat.le_of_lt (line 1 (by decide))),fun q9 NN=>?_⟩⟩)⟩
    have y9:=new (o:=.lst [v']) NN
    have KG:=(KH.trans b5).trans (cA.of y9)
    have d5:=d5.same y9
    have h5:=(h4.trans (d4.soft b5)).trans (aQ.of y9)
    have Lk:=KG _ _ hl nA
    have O6:bW C (upd H5 q9 (.lst [v'])) (.ref q9) (.sq [o']):=cD (.inl ah) (.cons (mG.same y9) .nil)
    generalize upd H5 q9 (.lst [v'])=H5 at y9 KG d5 h5 Lk O6 ⊢
    refine ⟨_,rfl,_,rfl,_,rfl,_,rfl,l,us,rfl,bz.of Lk,fun p1 hp1=>?_⟩
    rw [uD (α:=Nat) us (by omega)]
    have z1:=new (o:=.lst (us.take (us.length - 1))) hp1
    refine ⟨_,rfl,_,rfl,_,rfl,al,_,2+r4,.ref q9,(by rw [Int.natCast_add];rfl),.inr (z1 _ _ (h5.t _ _ Ja)),(by show 2+r4 < 4;omega),(by show 4≤1000;decide),fun r6 H6 s6 f6 e6=>⟨(Nat.le_of_lt (line 1 (by decide))),fun p2 hp2=>?_⟩⟩
    have z2:=new (o:=.lst [V.ref r6]) hp2
    refine ⟨p1,p2,_,_,rfl,rfl,z2 _ _ (s6 _ _ ah),ah,(by rw [List.length_take];show _+1≤_;exact Nat.le_of_lt (line _ (by omega))),fun r hr0=>⟨(szl 2),fun t ht=>?_⟩⟩
    have z3:=new (o:=.lst (us.take (us.length - 1)++[V.ref r6])) hr0
    have sB:=((z1.trans s6).trans z2).trans z3
    have hB:=h5.trans (aQ.of sB)
    have OX:=ff (L2.Paired.dX hpl fun _ _ z=>(z.aN hB).ov) (O6.same sB) (2+r4)
    have ZC:vC xs (.sq [o']):=eU (by show 1≤9;decide) fun x hx=>by rw [List.mem_singleton.mp hx];exact lo
    have Po:uM xs (.sq (([.sc (.str "split"),.sm s9,.sq [cy q1],.sq [cy q2]]:List Ov).take (2+r4)++[.sq [o']]++([.sc (.str "split"),.sm s9,.sq [cy q1],.sq [cy q2]]:List Ov).drop (2+r4+1))):=by
     have:=rN (g:=.split s9 q1 q2) (o:=.sq [o']) (r:=1+r4) tS (by show 1+r4 < 3;omega) (cI (aE lo.1.nn bQ)) (fun z=>by omega) (fun z=>by omega) ZC
     rw [show 1+(1+r4)=2+r4 by omega] at this
     exact this
    have ob:bW C _ (.ref r6) (.sq (([.sc (.str "split"),.sm s9,.sq [cy q1],.sq [cy q2]]:List Ov).take (2+r4)++[.sq [o']]++([.sc (.str "split"),.sm s9,.sq [cy q1],.sq [cy q2]]:List Ov).drop (2+r4+1))):=cD (.inl ((z2.trans z3) _ _ e6)) OX
    have pp:=cu (cQ (NI hB) (us.length - 1)) (.cons ob .nil)
    refine ES r _ _ _ (KG.trans (cA.of sB)) (d5.same sB) ah pp (by rw [List.length_append,List.length_take];show _+1≤9;omega) (fun x hx=>?_) t ht
    rcases List.mem_append.mp hx with z | z
    ·exact Aj x (List.mem_of_mem_take z)
    ·rw [List.mem_singleton.mp z];exact Po
   ·obtain ⟨ws,rfl⟩:∃ ws,gl=.add ws:=by
     cases gl with
     | cut k d=>exact absurd rfl (J7 k d)
     | add ws=>exact ⟨ws,rfl⟩
     | split s w1 w2=>exact absurd rfl oS
    refine cN (fun z=>oS (V.str.inj z)) ⟨_,rfl,_,rfl,_,rfl,_,rfl,l,us,rfl,bz.of Bu,fun p1 hp1=>?_⟩
    rw [uD (α:=Nat) us (by omega)]
    have z1:=new (o:=.lst (us.take (us.length - 1))) hp1
    have Xz:p1≠d:=d1.ne hp1
    refine ⟨_,rfl,_,rfl,_,rfl,xs,.ref al,ws,d,_,rfl,(OZ.aN h1).aN (aQ.of z1),tS,d1.same z1,(by omega),fun v' o' H5 b5 d5 mG lo=>⟨(Nat.le_of_lt (line 1 (by decide))),fun p2 hp2=>?_⟩⟩
    have z2:=new (o:=.lst [v']) hp2
    refine ⟨p1,p2,_,_,rfl,rfl,z2 _ _ (b5 _ _ ah Xz),ah,(by rw [List.length_take];show _+1≤_;exact Nat.le_of_lt (line _ (by omega))),fun r hr0=>⟨(szl 2),fun t ht=>?_⟩⟩
    have z3:=new (o:=.lst (us.take (us.length - 1)++[v'])) hr0
    have sB:=z2.trans z3
    have hB:=((h1.trans (aQ.of z1)).trans ((d1.same z1).soft b5)).trans (aQ.of sB)
    have pp:=cu (cQ (NI hB) (us.length - 1)) (.cons (mG.same sB) .nil)
    refine ES r _ _ _ (((b1.trans (cA.of z1)).trans b5).trans (cA.of sB)) (d5.same sB) ah pp (by rw [List.length_append,List.length_take];show _+1≤9;omega) (fun x hx=>?_) t ht
    rcases List.mem_append.mp hx with z | z
    ·exact Aj x (List.mem_of_mem_take z)
    ·rw [List.mem_singleton.mp z];exact lo
abbrev ja:Stmt:=top 30
theorem cK:aW ["_law_draw","_law_things","_law_sums_here","_law_case","_law_parting","_law_parted","_law_ends","_law_mores","_law_k","_law_paper","_law_places","_law_inner","_law_pairs"] ["_law_draw","_law_things"] (au ja):=⟨rfl,rfl,rfl,by decide +kernel,rfl,by decide +kernel,by decide +kernel⟩
seal L2.PE L2.PS L2.rR L2.PA L2.PT in
theorem AU {f C:Addr} {fd:FuncData} {n:Nat} (F:iU K "_law_built" "_law_built" ja f fd) (T:Txt K mg C) (J:kW K mg) (O:mD K C) (dg:Dn P w K mg base 2 "_law_next" ["_law_draw","_law_size"] iX) (Iq:Dn P w K mg base 4 "_law_sums" ["_law_draw","_law_things","_law_many"] (sY C)) (oV:Mt P w K mg base 4 C "times" ["self","number"] (nW C)) (nG:Mt P w K mg base 4 C "plus" ["self","other"] (pO C)) (bZ:Dn P w K mg base 3 "sum_of" ["pairs","number"] (ef C)) (Iu:Dn P w K mg base 6 "_law_last" ["_law_draw","_law_sums_here","_law_more"] (tu C)):cL P w K mg base iB 8 f fd ["_law_draw","_law_things"] (pQ C):=by
 obtain ⟨iJ,gD,bw,aT,aU,bu⟩:=dg
 obtain ⟨Qi,NT,Ak,vX,v9,Ag⟩:=Iq
 obtain ⟨C0,zT,eX,jz,eW⟩:=oV
 obtain ⟨Bp,yd,fU,lN,fS⟩:=nG
 obtain ⟨fq,d9,bK,aY,aZ,bD⟩:=bZ
 obtain ⟨Qk,NV,II,DK,DN,IB⟩:=Iu
 refine F.ok cK (fun vs H Q E h=>?_) (fun cdv A outer s H vs Q E hr h=>?_)
 ·obtain ⟨d,l,xs,rfl,hd,hl,hx,k⟩:=h
  rfl
 ·obtain ⟨d,l,xs,rfl,hd,hl,hx,k⟩:=h
  have hu:=cH hr
  rw [show az ja=[_,_,_,_,_,_,_,_,_,_,_,_,_,_,_] from rfl]
  refine ⟨_,(ak (bq (i:=2) cK.nd rfl (Or.inl rfl) (ao Ak (hr.mono (by first | decide | omega)) rfl vX v9 Ag .nil aB (af (pv 0) (af (pv 1) (af (aR cS aj (ao bw (hr.mono (by first | decide | omega)) rfl aT aU bu .nil aB (af (pv 0) (af aj ai)))) ai)))))
   (ak (ou (i:=3) cK.nd rfl (Or.inl rfl) (ck ["_law_one","_law_by","_law_rest"] [] [] rfl (by decide +kernel) (by decide +kernel) (by with_unfolding_all rfl) (by exact trivial) (by rfl) rfl (by rfl)) rfl (ow (pv 2)) (fun _ _ _ _=>(iP (K:=K) (n:=3) rfl rfl (bT (aS (i:=0) (show List.Nodup (["_law_one","_law_by","_law_rest"]:List Str) by decide +kernel) rfl (Or.inl rfl) (Or.inr rfl)) (bT (aS (i:=1) (show List.Nodup (["_law_one","_law_by","_law_rest"]:List Str) by decide +kernel) rfl (Or.inl rfl) (Or.inr rfl)) (bT (aS (i:=2) (show List.Nodup (["_law_one","_law_by","_law_rest"]:List Str) by decide +kernel) rfl (Or.inl rfl) (Or.inr rfl)) fW))))) (fun _ _ _ _=>dZ) (fun _ _ _ _=>(fX (fX (pv 0) T.cl jz eX (hr.mono (by first | decide | omega)) eW .nil aB (af (pv 1) ai)) T.cl lN fU (hr.mono (by first | decide | omega)) fS .nil aB (af (ao bK (hr.mono (by first | decide | omega)) rfl aY aZ bD .nil aB (af (aM ai) (af (pv 2) ai))) ai))))
   (ak (bq (i:=4) cK.nd rfl (Or.inl rfl) (aD ic (aD aI (ao Ak (hr.mono (by first | decide | omega)) rfl vX v9 Ag .nil aB (af (pv 0) (af (pv 1) (af aj ai)))) aj (fun _ _=>rfl)) aj (fun _ _=>rfl)))
   (ak (bq (i:=5) cK.nd rfl (Or.inl rfl) (cG cU (ao bw (hr.mono (by first | decide | omega)) rfl aT aU bu .nil aB (af (pv 0) (af aj ai))) aj (aO _)))
   (ak (bq (i:=6) cK.nd rfl (Or.inr rfl) (bP ai))
   (ak (bq (i:=7) cK.nd rfl (Or.inl rfl) (bP (af (pv 4) (af (fX (fX (pv 4) T.cl jz eX (hr.mono (by first | decide | omega)) eW .nil aB (af (fE dw aj) ai)) T.cl lN fU (hr.mono (by first | decide | omega)) fS .nil aB (af (ao bK (hr.mono (by first | decide | omega)) rfl aY aZ bD .nil aB (af (aM ai) (af (fE dw aj) ai))) ai)) ai))))
   (ak (gZ PassesOwn.never rfl (fu rfl T.range (af (aR cS aj (bV mz (by rfl) T.int boot_int (af (pv 5) ai))) ai)) (aS (i:=8) cK.nd rfl (Or.inr rfl)) (ay (iC (mL PySem.F.plainAttrs_list PySem.F.slot_list_append PySem.F.type_list_append fY (pv 6) (af (ao II (hr.mono (by first | decide | omega)) rfl DK DN IB .nil aB (af (pv 0) (af (pv 2) (af (aD aI (bP (af (ao bK (hr.mono (by first | decide | omega)) rfl aY aZ bD .nil aB (af (aM ai) (af aj ai))) (af (aD aI (pv 7) (pv 8) (fun _ _=>rfl)) ai))) (bV mz (by rfl) T.int boot_int (af (pv 5) ai)) (fun _ _=>rfl)) ai)))) ai)))))
   (ak (bq (i:=3) cK.nd rfl (Or.inl rfl) (aR fz (pv 3) (fc (ck ["_law_end"] [] [] rfl (by decide +kernel) (by decide +kernel) (by with_unfolding_all rfl) (by exact trivial) (by rfl) rfl (by rfl)) rfl (ow (pv 6)) (fun _ _ _ _=>(aS (i:=0) (show List.Nodup (["_law_end"]:List Str) by decide +kernel) rfl (Or.inl rfl) (Or.inr rfl))) (fun _ _ _ _=>dZ) (fun _ _ _ _=>(aD (xY (K:=K) rfl) (pv 0) aj (fun _ _=>rfl))))))
   (ak (bq (i:=9) cK.nd rfl (Or.inl rfl) (bP ai))
   (ak (bq (i:=10) cK.nd rfl (Or.inr rfl) (bP ai))
   (ak (gZ PassesOwn.never rfl (fu rfl T.range (af (aJ aG (by rfl) T.len PySem.boot_len (af (pv 2) ai)) ai)) (aS (i:=8) cK.nd rfl (Or.inr rfl)) (ak (iC (mL PySem.F.plainAttrs_list PySem.F.slot_list_append PySem.F.type_list_append fY (pv 10) (af (pv 8) ai)))
   (ay (cE (bh CC (aD ic (aD aI (pv 2) (pv 8) (fun _ _=>rfl)) aj (fun _ _=>rfl)) aj (aO _)) (ak (tO (aR cS (aJ aG (by rfl) T.len PySem.boot_len (af (pv 3) ai)) (aJ aG (by rfl) T.len PySem.boot_len (af (pv 9) ai))) (xJ (pv 10) (pv 8) set_list))
   (ay (iC (mL PySem.F.plainAttrs_list PySem.F.slot_list_append PySem.F.type_list_append fY (pv 9) (af (aM (af cB (af (pv 8) (af (aD ic (aD aI (pv 2) (pv 8) (fun _ _=>rfl)) aj (fun _ _=>rfl)) ai)))) ai))))) bN))))
   (ak (bq (i:=11) cK.nd rfl (Or.inl rfl) (bP ai))
   (ak (gZ PassesOwn.never rfl (fu rfl T.range (af (aJ aG (by rfl) T.len PySem.boot_len (af (pv 6) ai)) ai)) (aS (i:=8) cK.nd rfl (Or.inr rfl)) (ak (bq (i:=12) cK.nd rfl (Or.inl rfl) (aR fz (fc (ck ["_law_j"] ["_law_places","_law_ends","_law_k"] [10,6,8] rfl (by decide +kernel) (by decide +kernel) (by with_unfolding_all rfl) (by exact ⟨rfl,rfl,rfl,trivial⟩) (by rfl) rfl (by rfl)) rfl (fu rfl T.range (af (aJ aG (by rfl) T.len PySem.boot_len (af (pv 2) ai)) ai)) (fun _ _ _ _=>(aS (i:=0) (show List.Nodup (["_law_j","_law_places","_law_ends","_law_k"]:List Str) by decide +kernel) rfl (Or.inl rfl) (Or.inr rfl))) (fun _ _ _ _=>dZ) (fun _ _ _ _=>(aM (af (aD (oQ (K:=K) rfl) (aD (xY (K:=K) rfl) (aD (oQ (K:=K) rfl) (pv 2) (pv 3) (fun _ _=>rfl)) aj (fun _ _=>rfl)) (pv 0) (fun _ _=>rfl)) (af (aD (oQ (K:=K) rfl) (pv 1) (pv 0) (fun _ _=>rfl)) ai))))) (bP (af (aM (af aj (af (aR cS (aJ aG (by rfl) T.len PySem.boot_len (af (pv 2) ai)) (pv 8)) ai))) ai))))
   (ak (cE (cZ (pv 5)) (ay (iC (mL PySem.F.plainAttrs_list PySem.F.slot_list_append PySem.F.type_list_append fY (pv 12) (af (aM (af aj (af (aR cS (aJ aG (by rfl) T.len PySem.boot_len (af (pv 3) ai)) (aJ aG (by rfl) T.len PySem.boot_len (af (pv 9) ai))) ai))) ai)))) bN)
   (ay (iC (mL PySem.F.plainAttrs_list PySem.F.slot_list_append PySem.F.type_list_append fY (pv 11) (af (aM (af (aM (af cB (af (bV dS (by rfl) T.tuple boot_tuple (af (pv 12) ai)) ai))) ai)) ai)))))))
   (ak (cE (cZ (pv 5)) (ay (aH (aM (af (bV dS (by rfl) T.tuple boot_tuple (af (pv 3) ai)) (af (aR xN (bV dS (by rfl) T.tuple boot_tuple (af (pv 9) ai)) (aM (af (aM (af cB (af (pv 4) (af (aD aI (pv 11) aj (fun _ _=>rfl)) (af (aD aI (pv 11) aj (fun _ _=>rfl)) ai))))) ai))) ai))))) bN)
   (ay (aH (aM (af (bV dS (by rfl) T.tuple boot_tuple (af (pv 3) ai)) (af (aR xN (bV dS (by rfl) T.tuple boot_tuple (af (pv 9) ai)) (aD aI (pv 11) aj (fun _ _=>rfl))) ai))))))))))))))))))),?_⟩
  have nA:l≠d:=by
   obtain ⟨x0,y0,ed⟩:=id hd
   refine vW hl ed fun z=>?_
   cases xs with
   | nil=>cases z
   | cons a b=>cases z
  refine ⟨_,rfl,_,rfl,_,rfl,d,3,rfl,hd,(by decide),fun r0 H1 h0 b1 d1=>⟨_,_,rfl,rfl,?_⟩⟩
  have l1:=b1 _ _ hl nA
  refine ⟨d,l,xs,1+r0,congrArg (fun z=>[V.ref d,V.ref l,V.int z]) (show (1+(r0:Int))=((1+r0:Nat):Int) by omega),d1,l1,hx,by omega,fun rs us ds H2 b2 d2 PR Uq Bv dl QO=>?_⟩
  have Bw:∀ x∈ds,Am xs x:=fun x hx=>(QO x hx).1
  have dsz:∀ x∈ds,jE 20 x.1:=fun x hx=>(QO x hx).2
  have n1:1≤ds.length∧ds.length≤3:=by omega
  have L5:rs≠d:=d1.ne PR
  have F2:cA d H H2:=b1.trans b2
  have l2:=b2 _ _ l1 nA
  have GK:=aA Bv
  clear b1 b2 d1 l1 dl h0 PR
  refine ⟨_,rfl,rs,rfl,⟨us,bz.of Uq⟩,iy (xs:=us) (fun j ys H'=>aP H2 H'∧vA C H' ys ((ds.take j).map oH)) ⟨aP.refl _,.nil⟩ (fun j ys H' _ q=>bz.of (q.1 _ _ Uq)) ?_ ?_⟩
  ·rintro j v ys H3 hj ⟨s3,sy⟩
   obtain ⟨x,ex,q,p,rfl,eq,S⟩:=bf Bv hj
   have jl:j < us.length:=(List.getElem?_eq_some_iff.mp hj).1
   obtain ⟨gx,x1,x5,y0,yl⟩:=Bw x (List.mem_of_getElem? ex)
   have lx:=gx.len (Nat.le_trans hx (by decide))
   have S3:=S.same s3
   obtain ⟨dx,t,ep,_,_⟩:=id S3
   have sl:=aA sy
   rw [List.length_map,List.length_take] at sl
   refine ⟨q,_,rfl,cR.of (s3 _ _ eq),rfl,_,_,rfl,_,_,rfl,_,_,rfl,rfl,Ext.three,kR ?_⟩
   refine ⟨_,rfl,p,dx,_,rfl,ep,eS _ _ (by decide +kernel) (by decide +kernel),_,rfl,p,x.1.1,x.1.2,x.2.1,rfl,S3,by omega,⟨by omega,by omega⟩,fun r4 t4 H4 s4 g4 tl4 S4=>?_⟩
   obtain ⟨dx4,tt4,ep4,_,_⟩:=id S4
   refine ⟨r4,dx4,_,rfl,ep4,eS _ _ (by decide +kernel) (by decide +kernel),Nat.zero_le _,fun t0 ht0=>⟨_,rfl,t0,x.2.2,[],rfl,.inr ⟨[],ah,.nil⟩,by decide,fun r5 t5 H5 s5 g5 Oj S5=>?_⟩⟩
   have e5:t5=[]:=(yb (xs:=xs) (n:=x.2.2) g5).1
   subst e5
   have sT:=new (o:=.tup []) ht0
   refine ⟨r4,r5,t4,[],_,_,rfl,(S4.same sT).same s5,S5,(by show t4.length+0 < 64;omega),fun r6 t6 H6 s6 g6 NC S6=>⟨line _ (by omega),(((s3.trans s4).trans sT).trans s5).trans s6,?_⟩⟩
   have e6:t6=_:=KC gx.1 (by omega) g4 g6
   subst e6
   rw [take_snoc ex,List.map_append]
   exact bR (sy.aN (aQ.of (((s4.trans sT).trans s5).trans s6))) ⟨r6,rfl,S6⟩
  rintro ys H3 ⟨s3,sy⟩ ca hca
  rw [GK,List.take_length] at sy
  have sC:=new (o:=.lst ys) hca
  have FY:=s3.trans sC
  have FA:cA d H (upd H3 ca (.lst ys)):=F2.trans (cA.of FY)
  have dA:=d2.same FY
  have lA:=FY _ _ l2
  have MY:=FY _ _ Uq
  have Nf:=Bv.aN (aQ.of FY)
  have Nd:(upd H3 ca (.lst ys)) ca=some (.lst ys):=ah
  have R4:=sy.aN (aQ.of sC)
  have nca:ca≠d:=(d2.same s3).ne hca
  generalize upd H3 ca (.lst ys)=HA at sC FY FA dA lA MY Nf Nd R4 ⊢
  clear s3 sy sC FY F2 d2 l2 Uq Bv hca
  have lys:=aA R4
  rw [List.length_map] at lys
  refine ⟨_,rfl,_,rfl,d,l,xs,1,rfl,dA,lA,hx,by decide,fun rq vq dq HB bB dB hrq erq dwq dql Ng=>?_⟩
  obtain ⟨v0,xq,rfl,rfl,NO⟩:∃ v x,vq=[v]∧dq=[x]∧IK C HB v x:=by
   cases dwq with
   | nil=>cases dql
   | cons h t=>cases t with
    | nil=>exact ⟨_,_,rfl,rfl,h⟩
    | cons _ _=>simp at dql
  obtain ⟨tq,pq,rfl,Kg,Spq⟩:=NO
  have Tw:Gm xs xq.1:=(Ng xq (List.mem_singleton.mpr rfl)).1.1
  have zpq:jE 20 xq.1:=(Ng xq (List.mem_singleton.mpr rfl)).2
  refine ⟨rq,_,0,_,rfl,rfl,bz.of erq,RD _ _,tq,_,0,_,rfl,rfl,cR.of Kg,rfl,?_⟩
  refine ⟨_,rfl,d,2,rfl,dB,(by decide),fun r1 HC h1 bC dC=>⟨rfl,?_⟩⟩
  generalize decide (V.int (r1:Int)=V.int 1)=B
  have N8:=bB.trans bC
  have FC:=FA.trans N8
  have lC:=N8 _ _ lA nA
  have MX:=N8 _ _ MY L5
  have Zy:=dA.soft N8
  have Ks:=Nf.aN Zy
  have Nc:=N8 _ _ Nd nca
  have syC:=R4.aN Zy
  have SpC:=Spq.aN (dB.soft bC)
  clear bB bC N8 Zy FA dA lA MY Nf Nd R4 dB erq Kg Spq Ng hrq dwq h1
  refine ⟨Nat.zero_le _,fun en hen=>?_⟩
  have sE:=new (o:=.lst []) hen
  have ned:en≠d:=dC.ne hen
  have nre:rs≠en:=aF MX hen
  have nce:ca≠en:=aF Nc hen
  have Zp:H en=none:=tV FC dC hen
  have N9:=SpC.same sE
  obtain ⟨dxq,tq2,epq,_,_⟩:=id N9
  have lpq:=Tw.len (Nat.le_trans hx (by decide))
  refine ⟨_,rfl,_,rfl,pq,dxq,_,rfl,epq,eS _ _ (by decide +kernel) (by decide +kernel),_,rfl,pq,xq.1.1,xq.1.2,-1,rfl,N9,by omega,⟨by decide,by decide⟩,fun r5 t5 H5 s5 g5 Oj S5=>?_⟩
  obtain ⟨dx5,tt5,ep5,_,_⟩:=id S5
  refine ⟨r5,dx5,_,rfl,ep5,eS _ _ (by decide +kernel) (by decide +kernel),Nat.zero_le _,fun t0 ht0=>⟨_,rfl,t0,_,[],rfl,.inr ⟨[],ah,.nil⟩,by decide,fun r6 t6 H6 s6 g6 NC S6=>?_⟩⟩
  obtain ⟨e6,g6m,Um⟩:=yb (xs:=xs) (n:=(-1:Int)) g6
  subst e6
  have sT:=new (o:=.tup []) ht0
  obtain ⟨Tz,Uo⟩:=zN Tw g5
  refine ⟨r5,r6,t5,[],_,_,rfl,(S5.same sT).same s6,S6,(by show t5.length+0 < 64;omega),fun r7 t7 H7 s7 g7 tl7 S7=>⟨(szl 2),fun mo hmo=>?_⟩⟩
  obtain ⟨gm7,ev7⟩:=CS Tz g6m g7
  have hm1:∀ f,ev (t7,xq.1.2*-1+-1) f=-ev xq.1 f - 1:=fun f=>by
   rw [ev7,Uo,Um]
   show ev xq.1 f*-1+-1=_
   omega
  have sM:=new (o:=.lst [V.ref pq,V.ref r7]) hmo
  have Jx:aP HC (upd H7 mo (.lst [V.ref pq,V.ref r7])):=((((sE.trans s5).trans sT).trans s6).trans s7).trans sM
  have Vw:aP (upd HC en (.lst [])) (upd H7 mo (.lst [V.ref pq,V.ref r7])):=(((s5.trans sT).trans s6).trans s7).trans sM
  have M6:=Vw _ _ (ah (H:=HC) (a:=en) (o:=.lst []))
  have M3:(upd H7 mo (.lst [V.ref pq,V.ref r7])) mo=some (.lst [V.ref pq,V.ref r7]):=ah
  have nmo:mo≠d:=((dC.same (((((sE.trans s5).trans sT).trans s6).trans s7)))).ne hmo
  have nme:mo≠en:=(aF (((((s5.trans sT).trans s6).trans s7)) _ _ (ah (H:=HC) (a:=en) (o:=.lst []))) hmo).symm
  have RH:=S7.same sM
  generalize hm:((t7,xq.1.2*-1+-1):Sm)=m1 at gm7 hm1
  have RH:cJ C (upd H7 mo (.lst [V.ref pq,V.ref r7])) r7 m1.1 m1.2:=by rw [← hm];exact RH
  have FD:=FC.trans (cA.of Jx)
  have dD:=dC.same Jx
  have Kh:=Jx _ _ MX
  have Kr:=Ks.aN (aQ.of Jx)
  have Nb:=Jx _ _ Nc
  have UN:=syC.aN (aQ.of Jx)
  have Uw:=SpC.same Jx
  generalize upd H7 mo (.lst [V.ref pq,V.ref r7])=HD at Jx Vw M6 M3 RH FD dD Kh Kr Nb UN Uw sM ⊢
  clear S5 S6 S7 N9 SpC Ks syC MX Nc lC FC dC Jx Vw sM hmo s5 s6 s7 sT sE g5 g6 g7 Tz Uo Um ev7 g6m epq ep5 hen ht0 hm
  refine ⟨_,rfl,.inr ⟨B,rfl,_,_,rfl,rfl,?_⟩⟩
  have hB2:((1+(if B=true then 1 else 0):Int)=1∧B=false)∨((1+(if B=true then 1 else 0):Int)=2∧B=true):=by cases B;exact .inl ⟨rfl,rfl⟩;exact .inr ⟨rfl,rfl⟩
  refine ⟨1+(if B=true then 1 else 0),rfl,by omega,by omega,fZ (n:=(1+(if B=true then 1 else 0):Int).toNat) (fun i σ H'=>∃ (o8:Option V) (es:List V) (Es:List Ed),σ=[some (.ref d),some (.ref l),some (.ref rs),some (.ref ca),some (.ref pq),some (.bl B),some (.ref en),some (.ref mo),o8,none,none,none,none]∧(∀ b o,HD b=some o→b≠d→b≠en→H' b=some o)∧aQ HD H'∧Dr H' d∧H' en=some (.lst es)∧Paired (Al C d en H') es Es∧Es.length=i∧∀ j e,Es[j]?=some e→EdB xs ds (if B=true then (if j=0 then xq.1 else m1) else s0) e) ⟨none,[],[],rfl,(fun _ _ z _ _=>z),aQ.of (aP.refl _),dD,M6,.nil,rfl,(fun j e h=>by simp at h)⟩ ?_ ?_⟩
  ·rintro i σ HE hi ⟨o8,es,Es,rfl,KE,KO,dE,M7,pE,El,M1⟩
   have i2:i < 2∧(B=false→i=0):=by
    rcases hB2 with ⟨a,b⟩ | ⟨a,b⟩
    ·rw [a] at hi;have:i < 1:=hi;exact ⟨by omega,fun _=>by omega⟩
    ·rw [a] at hi;have:i < 2:=hi;exact ⟨this,fun z=>by rw [b] at z;cases z⟩
   refine ⟨_,rfl,.inl ⟨rfl,_,bz.of M7⟩,_,rfl,_,rfl,Nat.zero_le _,fun t0 ht0=>⟨t0,0,[],rfl,.inr ⟨[],ah,.nil⟩,by decide,fun rz tz HF sF gF tlF SF=>?_⟩⟩
   obtain ⟨Qn,gz,_⟩:=yb (xs:=xs) (n:=(0:Int)) gF
   subst Qn
   have Se:=(new (o:=.tup []) ht0).trans sF
   have SpF:=(Uw.aN KO).same Se
   have SmF:=(RH.aN KO).same Se
   obtain ⟨pm,hmk,Spm⟩:∃ pm,([V.ref pq,V.ref r7]:List V)[i]?=some (V.ref pm)∧cJ C HF pm (if i=0 then xq.1 else m1).1 (if i=0 then xq.1 else m1).2:=by
    have:i=0∨i=1:=by omega
    rcases this with e | e <;> subst e
    ·exact ⟨pq,rfl,SpF⟩
    ·exact ⟨r7,rfl,SmF⟩
   refine ⟨_,rfl,_,rfl,mo,_,_,_,rfl,rfl,bz.of (Se _ _ (KE _ _ M3 nmo nme)),qM hmk,(szl 2),fun q hq=>?_⟩
   have sQ:=new (o:=.lst [V.ref rz,V.ref pm]) hq
   have Zb:Ai [V.ref rz,V.ref pm] (if B=true then 1 else 0)=some (V.ref (if B=true then pm else rz)):=by cases B <;> rfl
   refine ⟨_,rfl,.inr ⟨B,rfl,q,_,_,_,rfl,rfl,bz.of ah,Zb,?_⟩⟩
   have NG:=Se.trans sQ
   have a3a:cJ C (upd HF q (.lst [V.ref rz,V.ref pm])) (if B=true then pm else rz) (if B=true then (if i=0 then xq.1 else m1) else s0).1 (if B=true then (if i=0 then xq.1 else m1) else s0).2:=by
    cases B
    ·exact SF.same sQ
    ·exact Spm.same sQ
   have a3c:Gm xs (if B=true then (if i=0 then xq.1 else m1) else s0):=by
    cases B
    ·exact gz
    ·by_cases e:i=0
     ·rw [if_pos rfl,if_pos e];exact Tw
     ·rw [if_pos rfl,if_neg e];exact gm7
   have dQ:=dE.same NG
   have QF:=NG _ _ M7
   refine ⟨d,rs,(if B=true then pm else rz),xs,us,ds,(if B=true then (if i=0 then xq.1 else m1) else s0),rfl,dQ,NG _ _ (KE _ _ Kh L5 nre),(Kr.aN KO).aN (aQ.of NG),by omega,Bw,hx,a3a,a3c,fun q8 r8 wl t8 ws8 c8 HG bG dG hq8 eq8 hwl ZO S8 g8 w8 Zs hev=>?_⟩
   have QH:=bG _ _ QF ned
   have XM:=aA pE
   refine ⟨en,_,_,rfl,rfl,QH,line _ (by omega),?_⟩
   have hU:=gi (ys:=es++[V.ref q8]) QH
   have hQG:=dQ.soft bG
   have hEU:aQ HE (upd HG en (.lst (es++[V.ref q8]))):=((aQ.of NG).trans hQG).trans hU
   have kEU:∀ b o,HE b=some o→b≠d→b≠en→(upd HG en (.lst (es++[V.ref q8]))) b=some o:=fun b o z n1 n2=>by rw [aL n2];exact bG _ _ (NG _ _ z) n1
   have nwe:wl≠en:=(aF QF hwl).symm
   refine ⟨_,es++[V.ref q8],Es++[(t8,ws8)],rfl,fun b o z n1 n2=>kEU _ _ (KE _ _ z n1 n2) n1 n2,KO.trans hEU,?_,ah,bR (Paired.dX pE fun _ _ h=>h.keep hEU kEU) ⟨q8,r8,wl,rfl,hU.t _ _ eq8,S8.aN hU,by rw [aL nwe];exact ZO,dQ.ne hwl,nwe⟩,(by rw [List.length_append,El];rfl),fun j e he=>?_⟩
   ·obtain ⟨x8,y8,z8⟩:=dG
    exact ⟨x8,y8,by rw [aL ned.symm];exact z8⟩
   ·by_cases hj:j < Es.length
    ·rw [List.getElem?_append_left hj] at he
     exact M1 j e he
    ·have hj2:j=i:=by
      have:=(List.getElem?_eq_some_iff.mp he).1
      rw [List.length_append] at this
      simp at this
      omega
     rw [List.getElem?_append_right (by omega),show j - Es.length=0 by omega] at he
     cases he
     rw [hj2]
     exact ⟨⟨g8,w8,c8,Zs.2,hev⟩,c8,Zs.1,Zs.2,hev⟩
  rintro σ HE ⟨o8,es,Es,rfl,KE,KO,dE,M7,pE,El,QC⟩
  have M1:=fun j e h=>(QC j e h).1
  have El2:(Es.length=1∧B=false)∨(Es.length=2∧B=true):=by
   rcases hB2 with ⟨a,b⟩ | ⟨a,b⟩
   ·rw [a] at El;exact .inl ⟨El,b⟩
   ·rw [a] at El;exact .inr ⟨El,b⟩
  have XM:=aA pE
  have QJ:=KE _ _ Nb nca nce
  have Qu:=KE _ _ Kh L5 nre
  have QM:=Kr.aN KO
  have syE:=UN.aN KO
  have N9:=Uw.aN KO
  have FE:cA d H HE:=fun b o z n=>KE _ _ (FD _ _ z n) n (aF z Zp)
  refine ⟨_,rfl,_,rfl,en,rfl,⟨es,bz.of M7⟩,iy (xs:=es) (fun j zs H'=>H'=HE∧vA C HE zs ((Es.take j).map (·.1))) ⟨rfl,.nil⟩ (fun j zs H' _ q=>bz.of (q.1 ▸ M7)) ?_ ?_⟩
  ·rintro j v zs H' hj ⟨rfl,LC⟩
   obtain ⟨e,ee,q,r,wl,rfl,eq,Sr,_⟩:=bf pE hj
   have jl:j < es.length:=(List.getElem?_eq_some_iff.mp hj).1
   have sl:=aA LC
   rw [List.length_map,List.length_take] at sl
   refine ⟨Ext.one,kR ⟨_,rfl,q,_,0,_,rfl,rfl,cR.of eq,rfl,line _ (by omega),rfl,?_⟩⟩
   rw [take_snoc ee,List.map_append]
   exact bR LC ⟨r,rfl,Sr⟩
  rintro kP H' ⟨rfl,LC⟩ qc Zc
  rw [XM,List.take_length] at LC
  have ly2:=aA LC
  rw [List.length_map] at ly2
  refine ⟨ca,qc,ys,kP,rfl,rfl,new Zc _ _ QJ,ah,Nat.le_of_lt (line _ (by omega)),fun cb hcb=>?_⟩
  have sH:=(new (o:=.lst kP) Zc).trans (new (o:=.lst (ys++kP)) hcb)
  have ZZ:(upd (upd H' qc (.lst kP)) cb (.lst (ys++kP))) cb=some (.lst (ys++kP)):=ah
  have FH:=FE.trans (cA.of sH)
  have dH:=dE.same sH
  have Ec:=sH _ _ Qu
  have QG:=sH _ _ M7
  have QL:=QM.aN (aQ.of sH)
  have SpH:=N9.same sH
  have pH:Paired (Al C d en (upd (upd H' qc (.lst kP)) cb (.lst (ys++kP)))) es Es:=Paired.dX pE fun _ _ h=>h.same sH
  have R6:vA C (upd (upd H' qc (.lst kP)) cb (.lst (ys++kP))) (ys++kP) (ds.map oH++Es.map (·.1)):=cu (syE.aN (aQ.of sH)) (LC.aN (aQ.of sH))
  generalize upd (upd H' qc (.lst kP)) cb (.lst (ys++kP))=HH at sH ZZ FH dH Ec QG QL SpH pH R6 ⊢
  clear sH FE dE Qu M7 QM N9 pE syE LC QJ KE KO Zc hcb FD dD Kh Kr Nb UN Uw M6 M3 RH
  generalize NR:ds.map oH++Es.map (·.1)=SS at R6
  have NP:∀ s∈SS,Gm xs s:=fun s hs=>by
   rw [← NR] at hs
   rcases List.mem_append.mp hs with h | h
   ·obtain ⟨x,hx',rfl⟩:=List.mem_map.mp h
    exact MD (Bw x hx')
   ·obtain ⟨e,he,rfl⟩:=List.mem_map.mp h
    obtain ⟨j,hj⟩:=List.getElem?_of_mem he
    exact (M1 j e hj).1
  have Tr:∀ s∈SS,jE 100 s:=fun s hs=>by
   rw [← NR] at hs
   rcases List.mem_append.mp hs with h | h
   ·obtain ⟨x,hx',rfl⟩:=List.mem_map.mp h
    exact JU (Bw x hx') (dsz x hx')
   ·obtain ⟨e,he,rfl⟩:=List.mem_map.mp h
    obtain ⟨j,hj⟩:=List.getElem?_of_mem he
    refine M9 (QC j e hj) hx n1.2 Bw dsz fun f hf=>?_
    have hb:=HX zpq (by omega) hf
    have e20:(2:Nat) ^ 20=1048576:=by decide
    rw [e20] at hb ⊢
    by_cases hB:B=true
    ·rw [if_pos hB]
     by_cases hj0:j=0
     ·rw [if_pos hj0];omega
     ·rw [if_neg hj0,hm1 f];omega
    ·rw [if_neg hB];show ((0:Int)+0).natAbs≤_;omega
  have IW:(ys++kP).length=SS.length:=aA R6
  have K8:SS.length=ds.length+Es.length:=by rw [← NR,List.length_append,List.length_map,List.length_map]
  have atS:∀ j x,ds[j]?=some x→SS[j]?=some (oH x):=fun j x h=>by
   rw [← NR]
   refine fP ?_
   rw [List.getElem?_map,h]
   rfl
  refine ⟨Nat.zero_le _,fun pa hpa=>⟨Nat.zero_le _,fun pl hpl=>?_⟩⟩
  have J5:HH pl=none:=qH hpl
  have O9:pa≠pl:=aF ah hpl
  have sP:=(new (o:=.lst []) hpa).trans (new (o:=.lst []) hpl)
  refine ⟨_,rfl,rs,_,rfl,.inl (bz.of (sP _ _ Ec)),(us.length:Int),rfl,by omega,by omega,fZ (n:=(us.length:Int).toNat) (fun i σ H'=>∃ (o8:Option V) (jP:List V) (cs:List (Nat×Int)) (gn:List Nat),σ=[some (.ref d),some (.ref l),some (.ref rs),some (.ref cb),some (.ref pq),some (.bl B),some (.ref en),some (.ref mo),o8,some (.ref pa),some (.ref pl),none,none]∧aP HH H'∧H' pa=some (.lst jP)∧H' pl=some (.lst (gn.map zi))∧Paired (Ar H') jP cs∧gn.length=i∧cs.length≤i∧(∀ p∈cs,p.1 < us.length∧2≤p.2∧p.2≤5)∧Ok (BE cs) SS (RJ xs ds SS i cs.length gn)) ⟨_,[],[],[],rfl,sP,new hpl _ _ ah,ah,.nil,rfl,Nat.le_refl _,(fun _ h=>nomatch h),⟨[],by rw [List.append_nil],rfl,(fun _ h=>nomatch h),(fun _ _ h=>absurd h (Nat.not_lt_zero _))⟩⟩ ?_ ?_⟩
  ·rintro i σ HI hi ⟨o8,jP,cs,gn,rfl,sI,N7,M0,pc,JE,csl,Dc,hok⟩
   have iu:i < us.length:=hi
   have Eb:=sI _ _ Ec
   obtain ⟨x,ex,tq,p,rfl',Kg,Sx⟩:=bf (QL.aN (aQ.of sI)) (List.getElem?_eq_getElem iu)
   have eu:us[i]?=some (.ref tq):=by rw [List.getElem?_eq_getElem iu,rfl']
   have okx:=Bw x (List.mem_of_getElem? ex)
   obtain ⟨gx,x1,x5,y0,yl⟩:=id okx
   have XJ:=aA pc
   refine ⟨_,rfl,.inl ⟨rfl,_,bz.of M0⟩,_,rfl,pl,_,_,rfl,rfl,M0,(by rw [List.length_map];exact line _ (by omega)),?_⟩
   have So:∀ {b:Addr} {o:HO},HI b=some o→b≠pl→(upd HI pl (.lst (gn.map zi++[V.int (0+(i:Int))]))) b=some o:=fun z n=>by rw [aL n];exact z
   have HZ:=So Eb (aF Ec J5)
   have h12:aQ HI (upd HI pl (.lst (gn.map zi++[V.int (0+(i:Int))]))):=gi M0
   have Kn:=So N7 O9
   have Kl:(upd HI pl (.lst (gn.map zi++[V.int (0+(i:Int))]))) pl=some (.lst (gn.map zi++[V.int (0+(i:Int))])):=ah
   have Sd:aP HH (upd HI pl (.lst (gn.map zi++[V.int (0+(i:Int))]))):=fun b o z=>So (sI _ _ z) (aF z J5)
   have Wg:=Paired.dX pc fun _ _ h=>h.aN h12
   generalize upd HI pl (.lst (gn.map zi++[V.int (0+(i:Int))]))=HJ at h12 HZ Kn Kl Sd Wg ⊢
   clear So N7 M0 pc sI Eb
   have Kg:=h12.t _ _ Kg
   refine ⟨_,rfl,_,rfl,rs,_,_,_,rfl,rfl,bz.of HZ,qM eu,tq,_,1,_,rfl,rfl,cR.of Kg,rfl,_,_,rfl,rfl,_,rfl,J3 (fun hb=>?_) (fun hb=>?_)⟩
   ·refine ⟨_,rfl,cb,_,rfl,.inl (bz.of (Sd _ _ ZZ)),_,rfl,pa,_,rfl,.inl (bz.of Kn),_,_,rfl,rfl,?_⟩
    have zl:(gn.map zi).length=i:=by rw [List.length_map,JE]
    refine ⟨_,rfl,_,rfl,pl,_,_,i,rfl,rfl,Kl,Pz (by rw [List.length_append,zl];exact Nat.lt_succ_self _),?_⟩
    have ZT:(gn.map zi++[V.int (0+(i:Int))]).set i (V.int (((ys++kP).length:Int)+(jP.length:Int)))=(gn++[SS.length+cs.length]).map zi:=by
     have:=FQ (gn.map zi) (V.int (0+(i:Int))) (V.int (((ys++kP).length:Int)+(jP.length:Int)))
     rw [zl] at this
     rw [this,List.map_append,IW,XJ]
     show _=_++[V.int ((SS.length+cs.length:Nat):Int)]
     rw [Int.natCast_add]
    show _
    have hU:=gi (ys:=(gn.map zi++[V.int (0+(i:Int))]).set i (V.int (((ys++kP).length:Int)+(jP.length:Int)))) Kl
    have Qz:(upd HJ pl (.lst ((gn.map zi++[V.int (0+(i:Int))]).set i (V.int (((ys++kP).length:Int)+(jP.length:Int)))))) pl=some (.lst ((gn++[SS.length+cs.length]).map zi)):=by rw [ah,ZT]
    have GW:∀ {b:Addr} {o:HO},HJ b=some o→b≠pl→(upd HJ pl (.lst ((gn.map zi++[V.int (0+(i:Int))]).set i (V.int (((ys++kP).length:Int)+(jP.length:Int)))))) b=some o:=fun z n=>by rw [aL n];exact z
    have Km:=GW Kn O9
    have Qv:=GW HZ (aF Ec J5)
    have s3:aP HH _:=fun b o z=>GW (Sd _ _ z) (aF z J5)
    have pc3:=Paired.dX Wg fun _ _ h=>h.aN hU
    have Qp:=hU.t _ _ Kg
    generalize upd HJ pl (.lst ((gn.map zi++[V.int (0+(i:Int))]).set i (V.int (((ys++kP).length:Int)+(jP.length:Int)))))=HK at hU Qz Km Qv s3 pc3 Qp ⊢
    refine ⟨_,rfl,.inl ⟨rfl,_,bz.of Km⟩,_,rfl,_,rfl,_,rfl,rs,_,_,_,rfl,rfl,bz.of Qv,qM eu,tq,_,1,_,rfl,rfl,cR.of Qp,rfl,(szl 3),fun t ht=>?_⟩
    have sT:=new (o:=.tup [.str "cut",.int (0+(i:Int)),.int x.2.1]) ht
    have QB:=sT _ _ Km
    have K7:t≠pa:=(aF Km ht).symm
    refine ⟨pa,_,_,rfl,rfl,QB,line _ (by omega),?_⟩
    have hV:=gi (ys:=jP++[V.ref t]) QB
    refine ⟨_,jP++[V.ref t],cs++[(i,x.2.1)],gn++[SS.length+cs.length],rfl,fun b o z=>?_,ah,?_,bR (Paired.dX pc3 fun _ _ h=>(h.aN (aQ.of sT)).aN hV) ⟨t,rfl,?_⟩,(by rw [List.length_append,JE];rfl),(by rw [List.length_append];show cs.length+1≤_;omega),fun p hp=>?_,?_⟩
    ·rw [aL (aF z hpa)]
     exact sT _ _ (s3 _ _ z)
    ·rw [aL O9.symm]
     exact sT _ _ Qz
    ·rw [aL K7,ah,Int.zero_add]
    ·have d1:1 < x.2.1:=of_decide_eq_true hb
     rcases List.mem_append.mp hp with z | z
     ·exact Dc p z
     ·rw [List.mem_singleton.mp z];exact ⟨iu,by show 2≤x.2.1;omega,x5⟩
    ·have ecl:BE (cs++[(i,x.2.1)])=BE cs++[.cut i x.2.1]:=by unfold BE;rw [List.map_append];rfl
     rw [ecl]
     refine Ok.snoc (hok.mono fun ss' h=>?_)
     obtain ⟨ad,e1,al,ag,pj⟩:=h
     have eat:ss'[i]?=some (oH x):=by rw [e1];exact fP (atS i x ex)
     refine ⟨LP okx eat,fun s hs=>?_⟩
     have es:s=x.1:=Ky x1 y0 yl eat hs
     subst es
     refine ⟨ad++[x.1],by rw [e1,List.append_assoc],by rw [List.length_append,List.length_append,al];rfl,fun s hs=>?_,fun j y hj hy=>?_⟩
     ·rcases List.mem_append.mp hs with z | z
      ·exact ag s z
      ·rw [List.mem_singleton.mp z];exact gx
     ·by_cases hji:j=i
      ·rw [hji,ex] at hy
       cases hy
       refine ⟨SS.length+cs.length,?_,?_⟩
       ·rw [hji,List.getElem?_append_right (by omega),JE];simp
       ·rw [e1,List.getElem?_append_right (by rw [List.length_append];omega),List.length_append,al];simp
      ·obtain ⟨k0,a,b⟩:=pj j y (by omega) hy
       exact ⟨k0,fP a,fP b⟩
   ·have hx1:x.2.1=1:=by
     have:¬ (1 < x.2.1):=fun z=>hb (decide_eq_true z)
     omega
    refine ⟨_,jP,cs,gn++[i],rfl,Sd,Kn,?_,Wg,(by rw [List.length_append,JE];rfl),by omega,Dc,hok.mono fun ss' h=>?_⟩
    ·rw [Kl,List.map_append]
     show _=some (HO.lst (gn.map zi++[V.int (i:Int)]))
     rw [Int.zero_add]
    ·obtain ⟨ad,e1,al,ag,pj⟩:=h
     refine ⟨ad,e1,al,ag,fun j y hj hy=>?_⟩
     by_cases hji:j=i
     ·rw [hji,ex] at hy
      cases hy
      refine ⟨i,?_,?_⟩
      ·rw [hji,List.getElem?_append_right (by omega),JE];simp
      ·rw [e1,← mul_one hx1 y0 yl];exact fP (atS i x ex)
     ·obtain ⟨k0,a,b⟩:=pj j y (by omega) hy
      exact ⟨k0,fP a,b⟩
  rintro σ HI ⟨o8,jP,cs,gn,rfl,sI,N7,M0,pc,JE,csl,Dc,hok⟩
  rw [show ((us.length:Int)).toNat=us.length from rfl,GK] at JE csl hok
  have XJ:=aA pc
  have Eb:=sI _ _ Ec
  have M5:=sI _ _ QG
  have Na:=sI _ _ ZZ
  have pI:=Paired.dX pH fun _ _ h=>h.same sI
  have SpI:=SpH.same sI
  have smI:=R6.aN (aQ.of sI)
  have FI:=FH.trans (cA.of sI)
  have dI:=dH.same sI
  refine ⟨Nat.zero_le _,fun La hin=>?_⟩
  have sN:=new (o:=.lst []) hin
  refine ⟨_,rfl,en,_,rfl,.inl (bz.of (sN _ _ M5)),(es.length:Int),rfl,by omega,by omega,fZ (n:=(es.length:Int).toNat) (fun i σ H'=>∃ (o8 Xv:Option V) (CL:List V) (iw:List (List (Int×Nat))),σ=[some (.ref d),some (.ref l),some (.ref rs),some (.ref cb),some (.ref pq),some (.bl B),some (.ref en),some (.ref mo),o8,some (.ref pa),some (.ref pl),some (.ref La),Xv]∧aP HI H'∧H' La=some (.lst CL)∧Paired (BP H') CL iw∧iw.length=i∧∀ j e,j < i→Es[j]?=some e→iw[j]?=some (iN e.2 gn++[(1,ds.length+j)]++(if B=true then [(1,SS.length+cs.length)] else []))) ⟨_,none,[],[],rfl,sN,ah,.nil,rfl,(fun _ _ h=>absurd h (Nat.not_lt_zero _))⟩ ?_ ?_⟩
  ·rintro i σ HJ hi ⟨o8,Xv,CL,iw,rfl,sJ,M4,pin,NL,Mz⟩
   have ie:i < es.length:=hi
   obtain ⟨e,ee,q,r,wl,rfl',eq,Sr,ZO,_,_⟩:=bf pI (List.getElem?_eq_getElem ie)
   have eek:es[i]?=some (.ref q):=by rw [List.getElem?_eq_getElem ie,rfl']
   obtain ⟨_,⟨wl3,wb⟩,_⟩:=M1 i e ee
   have zl:(iN e.2 gn).length=ds.length:=by rw [nR (by omega),wl3]
   refine ⟨_,rfl,rs,_,rfl,.inl (bz.of (sJ _ _ Eb)),(us.length:Int),rfl,by omega,by omega,BF (n:=(us.length:Int).toNat) (fun j zs H'=>aP HJ H'∧Paired (rm H') zs ((iN e.2 gn).take j)) ⟨aP.refl _,.nil⟩ ?_ ?_⟩
   ·rintro j zs HK hj ⟨sK,pk⟩
    have ju:j < us.length:=hj
    have jw:j < e.2.length:=by omega
    have jp:j < gn.length:=by omega
    have ewj:=List.getElem?_eq_getElem jw
    have epj:=List.getElem?_eq_getElem jp
    have Sa:=sJ.trans sK
    have lk:=aA pk
    rw [List.length_take] at lk
    refine ⟨Ext.one,kR ⟨_,rfl,_,rfl,en,_,_,_,rfl,rfl,bz.of (Sa _ _ M5),qM eek,q,_,1,_,rfl,rfl,cR.of (Sa _ _ eq),rfl,_,rfl,wl,_,_,_,rfl,rfl,bz.of (Sa _ _ ZO),qM (by rw [List.getElem?_map,ewj];rfl),_,rfl,_,rfl,pl,_,_,_,rfl,rfl,bz.of (Sa _ _ M0),qM (Of epj),(szl 2),fun t ht=>⟨line _ (by omega),sK.trans (new ht),?_⟩⟩⟩
    rw [take_snoc (Cc ewj epj)]
    exact bR (Paired.dX pk fun _ _ h=>h.same (new ht)) ⟨t,rfl,ah⟩
   rintro zs HK ⟨sK,pk⟩ lq P1
   rw [List.take_of_length_le (by rw [zl,← GK];exact Nat.le_refl _)] at pk
   have lk:=aA pk
   have s1:=sK.trans (new (o:=.lst zs) P1)
   have pk:=Paired.dX pk fun _ _ h=>h.same (new (o:=.lst zs) P1)
   have ZX:(upd HK lq (.lst zs)) lq=some (.lst zs):=ah
   generalize upd HK lq (.lst zs)=HL at s1 pk ZX ⊢
   have sJL:=sJ.trans s1
   refine ⟨_,rfl,rs,_,rfl,.inl (bz.of (sJL _ _ Eb)),_,rfl,_,_,rfl,rfl,(szl 2),fun t ht=>⟨(Nat.le_of_lt (line 1 (by decide))),fun lr hlr=>?_⟩⟩
   have s2:=(new (o:=.tup [.int 1,.int ((us.length:Int)+(0+(i:Int)))]) ht).trans (new (o:=.lst [V.ref t]) hlr)
   have HY:=new (o:=.lst [V.ref t]) hlr _ _ (ah (H:=HL) (a:=t) (o:=.tup [.int 1,.int ((us.length:Int)+(0+(i:Int)))]))
   refine ⟨lq,lr,_,_,rfl,rfl,s2 _ _ ZX,ah,Nat.le_of_lt (line _ (by show zs.length+1≤100000;omega)),fun pp hpp=>?_⟩
   have R8:=new (o:=.lst (zs++[V.ref t])) hpp
   have s3:=s2.trans R8
   have UB:Paired (rm (upd (upd (upd HL t (.tup [.int 1,.int ((us.length:Int)+(0+(i:Int)))])) lr (.lst [V.ref t])) pp (.lst (zs++[V.ref t])))) (zs++[V.ref t]) (iN e.2 gn++[(1,ds.length+i)]):=by
    refine bR (Paired.dX pk fun _ _ h=>h.same s3) ⟨t,rfl,?_⟩
    rw [R8 _ _ HY]
    show _=some (HO.tup [V.int 1,V.int ((ds.length+i:Nat):Int)])
    rw [Int.zero_add,← Int.natCast_add,GK]
   have E8:(upd (upd (upd HL t (.tup [.int 1,.int ((us.length:Int)+(0+(i:Int)))])) lr (.lst [V.ref t])) pp (.lst (zs++[V.ref t]))) pp=some (.lst (zs++[V.ref t])):=ah
   have R9:=sJL.trans s3
   have R7:=s1.trans s3
   have a7e:pp≠La:=fun z=>by
    have:=(s1.trans s2) _ _ M4
    rw [← z,hpp] at this
    cases this
   generalize upd (upd (upd HL t (.tup [.int 1,.int ((us.length:Int)+(0+(i:Int)))])) lr (.lst [V.ref t])) pp (.lst (zs++[V.ref t]))=HM at s3 UB E8 R9 R7 R8 ⊢
   have hpI:∀ {b:Addr} {o:HO},HJ b=some o→b≠pp:=fun {b} {o} z w=>by
    have:=(s1.trans s2) _ _ z
    rw [w,hpp] at this
    cases this
   clear s2 HY R8 hpp hlr ht s3 pk ZX
   refine ⟨_,rfl,_,rfl,J3 (fun hb=>?_) (fun hb=>?_)⟩
   ·refine ⟨_,rfl,.inl ⟨rfl,_,bz.of E8⟩,_,rfl,cb,_,rfl,.inl (bz.of (R9 _ _ Na)),_,rfl,pa,_,rfl,.inl (bz.of (R9 _ _ N7)),_,_,rfl,rfl,(szl 2),fun u hu2=>?_⟩
    have sU:=new (o:=.tup [.int 1,.int (((ys++kP).length:Int)+(jP.length:Int))]) hu2
    have Qx:=sU _ _ E8
    refine ⟨pp,_,_,rfl,rfl,Qx,line _ (by rw [List.length_append];show zs.length+1≤100000;omega),?_⟩
    have hW:=gi (ys:=zs++[V.ref t]++[V.ref u]) Qx
    have nup:u≠pp:=(aF E8 hu2).symm
    have wk2:Paired (rm (upd (upd HM u (.tup [.int 1,.int (((ys++kP).length:Int)+(jP.length:Int))])) pp (.lst (zs++[V.ref t]++[V.ref u])))) (zs++[V.ref t]++[V.ref u]) (iN e.2 gn++[(1,ds.length+i)]++[(1,SS.length+cs.length)]):=by
     refine bR (Paired.dX UB fun _ _ h=>(h.same sU).aN hW) ⟨u,rfl,?_⟩
     rw [aL nup,ah]
     show _=some (HO.tup [V.int 1,V.int ((SS.length+cs.length:Nat):Int)])
     rw [Int.natCast_add,← IW,← XJ]
    have Je:(upd (upd HM u (.tup [.int 1,.int (((ys++kP).length:Int)+(jP.length:Int))])) pp (.lst (zs++[V.ref t]++[V.ref u]))) pp=some (.lst (zs++[V.ref t]++[V.ref u])):=ah
    have xk:∀ {b:Addr} {o:HO},HJ b=some o→(upd (upd HM u (.tup [.int 1,.int (((ys++kP).length:Int)+(jP.length:Int))])) pp (.lst (zs++[V.ref t]++[V.ref u]))) b=some o:=fun z=>by
     rw [aL (hpI z)]
     exact sU _ _ (R7 _ _ z)
    have Dm:=xk M4
    have RW:aQ HJ (upd (upd HM u (.tup [.int 1,.int (((ys++kP).length:Int)+(jP.length:Int))])) pp (.lst (zs++[V.ref t]++[V.ref u]))):=⟨fun _ _ z=>xk z,fun _ _ _ _ z=>xk z⟩
    have RV:aP HI (upd (upd HM u (.tup [.int 1,.int (((ys++kP).length:Int)+(jP.length:Int))])) pp (.lst (zs++[V.ref t]++[V.ref u]))):=fun b o z=>xk (sJ _ _ z)
    generalize upd (upd HM u (.tup [.int 1,.int (((ys++kP).length:Int)+(jP.length:Int))])) pp (.lst (zs++[V.ref t]++[V.ref u]))=Uz at hW wk2 Je xk Dm RW RV ⊢
    refine ⟨_,rfl,.inl ⟨rfl,_,bz.of Dm⟩,_,rfl,pp,_,rfl,.inl ⟨bz.of Je,fun tp htp=>⟨(szl 2),fun tb htb=>⟨(Nat.le_of_lt (line 1 (by decide))),fun ta Mx=>?_⟩⟩⟩⟩
    have sZ:=((new (o:=.tup (zs++[V.ref t]++[V.ref u])) htp).trans (new (o:=.tup [.str "add",.ref tp]) htb)).trans (new (o:=.tup [V.ref tb]) Mx)
    have ZQ:=new (o:=.tup [V.ref tb]) Mx _ _ (new (o:=.tup [.str "add",.ref tp]) htb _ _ (ah (a:=tp) (o:=.tup (zs++[V.ref t]++[V.ref u]))))
    have ZS:=new (o:=.tup [V.ref tb]) Mx _ _ (ah (a:=tb) (o:=.tup [.str "add",.ref tp]))
    have eta:(upd (upd (upd Uz tp (.tup (zs++[V.ref t]++[V.ref u]))) tb (.tup [.str "add",.ref tp])) ta (.tup [V.ref tb])) ta=some (.tup [V.ref tb]):=ah
    have Ig:=sZ _ _ Dm
    have XI:=aA pin
    refine ⟨La,_,_,rfl,rfl,Ig,line _ (by omega),?_⟩
    have hV:=gi (ys:=CL++[V.ref ta]) Ig
    have UA:=Paired.dX wk2 fun _ _ h=>(h.same sZ).aN hV
    refine ⟨_,_,CL++[V.ref ta],iw++[iN e.2 gn++[(1,ds.length+i)]++[(1,SS.length+cs.length)]],rfl,fun b o z=>?_,ah,bR (Paired.dX pin fun _ _ h=>((h.aN RW).aN (aQ.of sZ)).aN hV) ⟨ta,tb,tp,_,rfl,hV.t _ _ eta,hV.t _ _ ZS,hV.t _ _ ZQ,UA⟩,(by rw [List.length_append,NL];rfl),fun j e' hj he'=>?_⟩
    ·rw [aL (aF z hin)]
     exact sZ _ _ (RV _ _ z)
    ·by_cases hji:j=i
     ·rw [hji,ee] at he'
      cases he'
      rw [hji,List.getElem?_append_right (by omega),NL,show i - i=0 by omega]
      rw [if_pos hb]
      first
       | rfl
       | (rw [List.append_nil];rfl)
     ·exact fP (Mz j e' (by omega) he')
   ·have Dm:=R7 _ _ M4
    have Je:=E8
    have RW:=aQ.of R7
    have RV:=R9
    generalize HM=Uz at *
    refine ⟨_,rfl,.inl ⟨rfl,_,bz.of Dm⟩,_,rfl,pp,_,rfl,.inl ⟨bz.of Je,fun tp htp=>⟨(szl 2),fun tb htb=>⟨(Nat.le_of_lt (line 1 (by decide))),fun ta Mx=>?_⟩⟩⟩⟩
    have sZ:=((new (o:=.tup (zs++[V.ref t])) htp).trans (new (o:=.tup [.str "add",.ref tp]) htb)).trans (new (o:=.tup [V.ref tb]) Mx)
    have ZQ:=new (o:=.tup [V.ref tb]) Mx _ _ (new (o:=.tup [.str "add",.ref tp]) htb _ _ (ah (a:=tp) (o:=.tup (zs++[V.ref t]))))
    have ZS:=new (o:=.tup [V.ref tb]) Mx _ _ (ah (a:=tb) (o:=.tup [.str "add",.ref tp]))
    have eta:(upd (upd (upd Uz tp (.tup (zs++[V.ref t]))) tb (.tup [.str "add",.ref tp])) ta (.tup [V.ref tb])) ta=some (.tup [V.ref tb]):=ah
    have Ig:=sZ _ _ Dm
    have XI:=aA pin
    refine ⟨La,_,_,rfl,rfl,Ig,line _ (by omega),?_⟩
    have hV:=gi (ys:=CL++[V.ref ta]) Ig
    have UA:=Paired.dX UB fun _ _ h=>(h.same sZ).aN hV
    refine ⟨_,_,CL++[V.ref ta],iw++[iN e.2 gn++[(1,ds.length+i)]],rfl,fun b o z=>?_,ah,bR (Paired.dX pin fun _ _ h=>((h.aN RW).aN (aQ.of sZ)).aN hV) ⟨ta,tb,tp,_,rfl,hV.t _ _ eta,hV.t _ _ ZS,hV.t _ _ ZQ,UA⟩,(by rw [List.length_append,NL];rfl),fun j e' hj he'=>?_⟩
    ·rw [aL (aF z hin)]
     exact sZ _ _ (RV _ _ z)
    ·by_cases hji:j=i
     ·rw [hji,ee] at he'
      cases he'
      rw [hji,List.getElem?_append_right (by omega),NL,show i - i=0 by omega]
      rw [if_neg hb,List.append_nil]
      first
       | rfl
       | (rw [List.append_nil];rfl)
     ·exact fP (Mz j e' (by omega) he')
  rintro σ HJ ⟨o8,Xv,CL,iw,rfl,sJ,M4,pin,NL,Mz⟩
  rw [show ((es.length:Int)).toNat=es.length from rfl,XM] at NL Mz
  have a7s:=aA pin
  have FJ:=FI.trans (cA.of sJ)
  have dJ:=dI.same sJ
  have R5:=smI.aN (aQ.of sJ)
  have QI:=sJ _ _ Na
  have QA:=sJ _ _ N7
  have pcJ:=Paired.dX pc fun _ _ h=>h.aN (aQ.of sJ)
  have SpJ:=SpI.same sJ
  clear FI dI smI Na N7 pc SpI pI Eb M5 M0
  rcases El2 with ⟨eB,hB⟩ | ⟨eB,hB⟩
  ·subst hB
   refine ⟨_,rfl,_,rfl,yR rfl ?_⟩
   obtain ⟨e0,M8⟩:∃ e,Es[0]?=some e:=⟨Es[0],List.getElem?_eq_getElem (by omega)⟩
   have w0:=Mz 0 e0 (by omega) M8
   obtain ⟨v0,hv0⟩:∃ v,CL[0]?=some v:=⟨CL[0],List.getElem?_eq_getElem (by omega)⟩
   obtain ⟨ws0,Qm,a0,b0,t0,us0,rfl,ea0,eb0,Qt,pr0⟩:=bf pin hv0
   rw [w0] at Qm
   have ews:ws0=iN e0.2 gn++[(1,ds.length+0)]++[]:=(Option.some.inj Qm).symm
   refine ⟨_,rfl,cb,_,rfl,.inl ⟨bz.of QI,fun tc htc=>?_⟩⟩
   have s1:=new (o:=.tup (ys++kP)) htc
   refine ⟨_,rfl,pa,_,rfl,.inl ⟨bz.of (s1 _ _ QA),fun tp htp=>?_⟩⟩
   have s12:=new (o:=.tup jP) htp
   have s2:=s1.trans s12
   refine ⟨_,rfl,La,_,0,_,rfl,rfl,bz.of (s2 _ _ M4),aK (j:=0) hv0,?_⟩
   have fin:∀ (z:Addr) (Hz:Hp),aP HJ Hz→Hz z=some (.tup (jP++[V.ref b0]))→RQ C xs Hz z SS:=fun z Hz sz ez =>
    Ez n1.2 ez (Paired.dX pcJ fun _ _ h=>h.aN (aQ.of sz)) (by omega) (fun p hp=>⟨by have:=(Dc p hp).1;omega,(Dc p hp).2⟩) (by omega) (Dk (sz _ _ eb0) (sz _ _ Qt) (Paired.dX pr0 fun _ _ h=>h.same sz)) hok NR.symm NP M8 (M1 0 e0 M8) JE ews
   refine ⟨tp,a0,jP,[V.ref b0],rfl,rfl,cR.of ah,cR.of (s2 _ _ ea0),Nat.le_of_lt (line _ (by show jP.length+1≤100000;omega)),fun h0=>?_,fun _ h=>absurd h (by simp),fun _ _ pz Tv=>?_⟩
   ·refine ⟨(szl 2),fun r hr1=>?_⟩
    have sR:=new (o:=.tup [.ref tc,.ref a0]) hr1
    have sF:=(s2).trans sR
    refine k r tc a0 (ys++kP) SS _ (FJ.trans (cA.of sF)) (dJ.same sF) ah ((s12.trans sR) _ _ (ah (a:=tc) (o:=.tup (ys++kP)))) (R5.aN (aQ.of sF)) ⟨by rw [IW,K8];omega,by rw [IW,K8];omega⟩ (fun s hs=>⟨NP s hs,Tr s hs⟩) ?_
    exact fin a0 _ sF (by rw [show jP++[V.ref b0]=[V.ref b0] by rw [h0];rfl];exact sF _ _ ea0)
   ·have s3:=s2.trans (new (o:=.tup (jP++[V.ref b0])) Tv)
    refine ⟨(szl 2),fun r hr1=>?_⟩
    have sR:=new (o:=.tup [.ref tc,.ref pz]) hr1
    have sF:=(s3).trans sR
    refine k r tc pz (ys++kP) SS _ (FJ.trans (cA.of sF)) (dJ.same sF) ah (((s12.trans (new (o:=.tup (jP++[V.ref b0])) Tv)).trans sR) _ _ (ah (a:=tc) (o:=.tup (ys++kP)))) (R5.aN (aQ.of sF)) ⟨by rw [IW,K8];omega,by rw [IW,K8];omega⟩ (fun s hs=>⟨NP s hs,Tr s hs⟩) ?_
    exact fin pz _ sF (sR _ _ ah)
  ·subst hB
   refine ⟨_,rfl,_,rfl,E4 rfl ?_⟩
   obtain ⟨e0,M8⟩:∃ e,Es[0]?=some e:=⟨Es[0],List.getElem?_eq_getElem (by omega)⟩
   obtain ⟨e1,ZY⟩:∃ e,Es[1]?=some e:=⟨Es[1],List.getElem?_eq_getElem (by omega)⟩
   have w0:=Mz 0 e0 (by omega) M8
   have w1:=Mz 1 e1 (by omega) ZY
   obtain ⟨v0,hv0⟩:∃ v,CL[0]?=some v:=⟨CL[0],List.getElem?_eq_getElem (by omega)⟩
   obtain ⟨v1,hv1⟩:∃ v,CL[1]?=some v:=⟨CL[1],List.getElem?_eq_getElem (by omega)⟩
   obtain ⟨ws0,Qm,in0⟩:=bf pin hv0
   obtain ⟨Ny,ew1,in1⟩:=bf pin hv1
   rw [w0] at Qm
   rw [w1] at ew1
   obtain ⟨a0,ev0⟩:∃ a,v0=V.ref a:=let ⟨a,_,_,_,e,_⟩:=in0;⟨a,e⟩
   obtain ⟨a1,ev1⟩:∃ a,v1=V.ref a:=let ⟨a,_,_,_,e,_⟩:=in1;⟨a,e⟩
   subst ev0
   subst ev1
   refine ⟨_,rfl,cb,_,rfl,.inl ⟨bz.of QI,fun tc htc=>?_⟩⟩
   have s1:=new (o:=.tup (ys++kP)) htc
   refine ⟨_,rfl,pa,_,rfl,.inl ⟨bz.of (s1 _ _ QA),fun tp htp=>?_⟩⟩
   have s12:=new (o:=.tup jP) htp
   have s2:=s1.trans s12
   refine ⟨_,rfl,_,rfl,La,_,0,_,rfl,rfl,bz.of (s2 _ _ M4),aK (j:=0) hv0,_,rfl,La,_,1,_,rfl,rfl,bz.of (s2 _ _ M4),aK (j:=1) hv1,(szl 4),fun ts hts=>⟨(Nat.le_of_lt (line 1 (by decide))),fun tz htz=>?_⟩⟩
   have FY:=(new (o:=.tup [.str "split",.ref pq,.ref a0,.ref a1]) hts).trans (new (o:=.tup [V.ref ts]) htz)
   have s3:=s2.trans FY
   have N6:=new (o:=.tup [V.ref ts]) htz _ _ (ah (a:=ts) (o:=.tup [.str "split",.ref pq,.ref a0,.ref a1]))
   have Qq:=FY _ _ (ah (a:=tp) (o:=.tup jP))
   have Qn:(upd (upd (upd (upd HJ tc (.tup (ys++kP))) tp (.tup jP)) ts (.tup [.str "split",.ref pq,.ref a0,.ref a1])) tz (.tup [V.ref ts])) tz=some (.tup [V.ref ts]):=ah
   have MW:=(s12.trans FY) _ _ (ah (a:=tc) (o:=.tup (ys++kP)))
   generalize upd (upd (upd (upd HJ tc (.tup (ys++kP))) tp (.tup jP)) ts (.tup [.str "split",.ref pq,.ref a0,.ref a1])) tz (.tup [V.ref ts])=HQ at s3 N6 Qq Qn MW ⊢
   have fin:∀ (z:Addr) (Hz:Hp),aP HQ Hz→Hz z=some (.tup (jP++[V.ref ts]))→RQ C xs Hz z SS:=fun z Hz sq ez =>
    have sz:=s3.trans sq
    Ey (m:=xq.1) (m1:=m1) n1.2 ez (Paired.dX pcJ fun _ _ h=>h.aN (aQ.of sz)) (by omega) (fun p hp=>⟨by have:=(Dc p hp).1;omega,(Dc p hp).2⟩) (by omega) (sq _ _ N6) (SpJ.same sz) Tw (zpq.mono (by decide)) (in0.aN (aQ.of sz)) (in1.aN (aQ.of sz)) hok NR.symm NP M8 (M1 0 e0 M8) ZY (M1 1 e1 ZY) hm1 JE (Option.some.inj Qm).symm (Option.some.inj ew1).symm
   refine ⟨tp,tz,jP,[V.ref ts],rfl,rfl,cR.of Qq,cR.of Qn,Nat.le_of_lt (line _ (by show jP.length+1≤100000;omega)),fun h0=>?_,fun _ h=>absurd h (by simp),fun _ _ pz Tv=>?_⟩
   ·refine ⟨(szl 2),fun r hr1=>?_⟩
    have sR:=new (o:=.tup [.ref tc,.ref tz]) hr1
    have sF:=s3.trans sR
    exact k r tc tz (ys++kP) SS _ (FJ.trans (cA.of sF)) (dJ.same sF) ah (sR _ _ MW) (R5.aN (aQ.of sF)) ⟨by rw [IW,K8];omega,by rw [IW,K8];omega⟩ (fun s hs=>⟨NP s hs,Tr s hs⟩) (fin tz _ sR (by rw [show jP++[V.ref ts]=[V.ref ts] by rw [h0];rfl];exact sR _ _ Qn))
   ·have s4:=new (o:=.tup (jP++[V.ref ts])) Tv
    refine ⟨(szl 2),fun r hr1=>?_⟩
    have sR:=new (o:=.tup [.ref tc,.ref pz]) hr1
    have sF:=(s3.trans s4).trans sR
    exact k r tc pz (ys++kP) SS _ (FJ.trans (cA.of sF)) (dJ.same sF) ah ((s4.trans sR) _ _ MW) (R5.aN (aQ.of sF)) ⟨by rw [IW,K8];omega,by rw [IW,K8];omega⟩ (fun s hs=>⟨NP s hs,Tr s hs⟩) (fin pz _ (s4.trans sR) (sR _ _ ah))
abbrev uY:Stmt:=top 44
theorem jH:aW ["_law_script","_law_draw","_law_case","_law_paper","_law_less","_law_deep","_law_k","_law_other","_law_found"] ["_law_script"] (au uY):=⟨rfl,rfl,rfl,by decide +kernel,rfl,by decide +kernel,by decide +kernel⟩
seal L2.PE L2.PS L2.rR L2.PA L2.PT in
theorem L4 {f C:Addr} {fd:FuncData} {n:Nat} (F:iU K "law" "law" uY f fd) (T:Txt K mg C) (J:kW K mg) (O:mD K C) (Ab:Dn P w K mg base 2 "_law_cell_at" ["_law_script","_law_k"] (AA K)) (dg:Dn P w K mg base 2 "_law_next" ["_law_draw","_law_size"] iX) (En:Dn P w K mg base 8 "_law_built" ["_law_draw","_law_things"] (pQ C)) (bZ:Dn P w K mg base 3 "sum_of" ["pairs","number"] (ef C)) (Eh:Dn P w K mg base 53 "refutes" ["case","paper"] (mY C)) (qu:Dn P w K mg base 29 "_law_sound" ["_law_case","_law_paper","_law_deep"] (jS C 21)) (By:Dn P w K mg base 5 "_law_nested" ["_law_deep"] (Az C)) (Em:Dn P w K mg base 5 "_law_bushy" ["_law_deep"] (AB C)) (nH:Dn P w K mg base 7 "_law_spoilt" ["_law_paper","_law_draw","_law_lines"] (jR C 2)) (Ej:Dn P w K mg base 7 "_law_quiet" ["_law_case","_law_paper","_law_draw"] (xm C)):cL P w K mg base iB 54 f fd ["_law_script"] (Cq K):=by
 obtain ⟨Lj,J9,qN,oJ,oN,qL⟩:=Ab
 obtain ⟨iJ,gD,bw,aT,aU,bu⟩:=dg
 obtain ⟨N2,MN,EN,A2,Bd,EF⟩:=En
 obtain ⟨fq,d9,bK,aY,aZ,bD⟩:=bZ
 obtain ⟨NW,MI,iA,gv,gw,iz⟩:=Eh
 obtain ⟨D9,Bo,j0,ji,jk,jZ⟩:=qu
 obtain ⟨MR,Lf,BQ,zA,zH,BH⟩:=By
 obtain ⟨N1,MM,EM,A1,Bc,EE⟩:=Em
 obtain ⟨Bq,zU,nM,lI,lQ,nJ⟩:=nH
 obtain ⟨NY,MK,EL,A0,Bb,ED⟩:=Ej
 refine F.ok jH (fun vs H Q E h=>?_) (fun cdv A outer s H vs Q E hr h=>?_)
 ·obtain ⟨a,ns,rfl,hs,hn,k⟩:=h
  rfl
 ·obtain ⟨a,ns,rfl,hs,hn,k⟩:=h
  have hu:=cH hr
  rw [show az uY=[_,_,_,_,_,_,_,_,_] from rfl]
  refine ⟨_,(ak (bq (i:=1) jH.nd rfl (Or.inl rfl) (bP (af (ao qN (hr.mono (by first | decide | omega)) rfl oJ oN qL .nil aB (af (pv 0) (af aj ai))) (af aj ai))))
   (ak (tO (ao EN (hr.mono (by first | decide | omega)) rfl A2 Bd EF .nil aB (af (bP (af (ao qN (hr.mono (by first | decide | omega)) rfl oJ oN qL .nil aB (af (pv 0) (af aj ai))) (af aj ai))) (af (eF gG (bP (CB (xs:=["?0","?1","?2"]) rfl)) fD (fB (aR cS aj (ao bw (hr.mono (by first | decide | omega)) rfl aT aU bu .nil aB (af (pv 1) (af aj ai)))))) ai))) (xH rfl (bT (aS (i:=2) jH.nd rfl (Or.inl rfl)) (bT (aS (i:=3) jH.nd rfl (Or.inl rfl)) fW))))
   (ak (bq (i:=4) jH.nd rfl (Or.inl rfl) (bP (af (ao bK (hr.mono (by first | decide | omega)) rfl aY aZ bD .nil aB (af (aM ai) (af (fE dw aj) ai))) ai)))
   (ak (cE (PW.pt (jg (bh JH (ao iA (hr.mono (by first | decide | omega)) rfl gv gw iz .nil aB (af (pv 4) (af (aM ai) ai))) fG (aO _)) (jf (bh JJ (ao iA (hr.mono (by first | decide | omega)) rfl gv gw iz .nil aB (af (bP ai) (af (aM ai) ai))) fG (aO _))))) (ay (aH fG)) bN)
   (ak (cE (bh oz (ao iA (hr.mono (by first | decide | omega)) rfl gv gw iz .nil aB (af (eF AD (pv 2) fD (fB aj)) (af (aM ai) ai))) (ao j0 (hr.mono (by first | decide | omega)) rfl ji jk jZ .nil aB (af (eF AD (pv 2) fD (fB aj)) (af (aM ai) (af aj ai)))) (aO _)) (ay (aH fG)) bN)
   (ak (bq (i:=5) jH.nd rfl (Or.inl rfl) (aR cS aj (ao bw (hr.mono (by first | decide | omega)) rfl aT aU bu .nil aB (af (pv 1) (af aj ai)))))
   (ak (cE (PW.pt (jg (bh oz (ao iA (hr.mono (by first | decide | omega)) rfl gv gw iz .nil aB (af (pv 4) (af (ao BQ (hr.mono (by first | decide | omega)) rfl zA zH BH .nil aB (af (pv 5) ai)) ai))) (cG mO (pv 5) aj (aO _)) (aO _)) (jf (eT (cZ (ao iA (hr.mono (by first | decide | omega)) rfl gv gw iz .nil aB (af (pv 4) (af (ao EM (hr.mono (by first | decide | omega)) rfl A1 Bc EE .nil aB (af (aR ia (pv 5) aj) ai)) ai)))))))) (ay (aH fG)) bN)
   (ak (gZ PassesOwn.never rfl (fu rfl T.range (af aj ai)) (aS (i:=6) jH.nd rfl (Or.inl rfl)) (ak (bq (i:=7) jH.nd rfl (Or.inl rfl) (aM (af (pv 2) (af (ao nM (hr.mono (by first | decide | omega)) rfl lI lQ nJ .nil aB (af (bV cV (by rfl) T.list boot_list (af (pv 3) ai)) (af (pv 1) (af (aR ia (aR cS (aJ aG (by rfl) T.len PySem.boot_len (af (pv 2) ai)) (aJ aG (by rfl) T.len PySem.boot_len (af (pv 3) ai))) aj) ai)))) ai))))
   (ak (cE (bh cU (aR pZ (pv 6) aj) aj (aO _)) (ay (bq (i:=7) jH.nd rfl (Or.inl rfl) (ao EL (hr.mono (by first | decide | omega)) rfl A0 Bb ED .nil aB (af (bV cV (by rfl) T.list boot_list (af (pv 2) ai)) (af (bV cV (by rfl) T.list boot_list (af (pv 3) ai)) (af (pv 1) ai)))))) bN)
   (ak (bq (i:=8) jH.nd rfl (Or.inl rfl) (ao iA (hr.mono (by first | decide | omega)) rfl gv gw iz .nil aB (af (aD ic (pv 7) aj (fun _ _=>rfl)) (af (aD ic (pv 7) aj (fun _ _=>rfl)) ai))))
   (ay (cE (PW.pt (jg (eT (cZ (aJ (iK (c:=.ty "bool") trivial) (by rfl) T.isinstance boot_isinstance (af (pv 8) (af (fF (v:=.ty "bool") rfl J.bool boot_bool rfl) ai))))) (jf (bh oz (pv 8) (ao j0 (hr.mono (by first | decide | omega)) rfl ji jk jZ .nil aB (af (aD ic (pv 7) aj (fun _ _=>rfl)) (af (aD ic (pv 7) aj (fun _ _=>rfl)) (af aj ai)))) (aO _))))) (ay (aH fG)) bN))))))
   (ay (aH (cG L1 (ao iA (hr.mono (by first | decide | omega)) rfl gv gw iz .nil aB (af (pv 2) (af (pv 3) ai))) fG (aO _)))))))))))),?_⟩
  refine ⟨_,rfl,a,ns,0,rfl,hs,fun r0=>⟨(szl 2),fun d hd=>?_⟩⟩
  have s0:=new (o:=.lst [V.int r0,V.int 0]) hd
  have D0:Dr (upd H d (.lst [V.int r0,V.int 0])) d:=⟨r0,0,ah⟩
  have hs0:bz K (upd H d (.lst [V.int r0,V.int 0])) a (ns.map V.int):=FL hs s0
  generalize upd H d (.lst [V.int r0,V.int 0])=H0 at s0 D0 hs0 ⊢
  refine ⟨_,rfl,a,ns,1,rfl,hs0,fun r4=>⟨(szl 2),fun d4 Zr=>?_⟩⟩
  have s4:=new (o:=.lst [V.int r4,V.int 0]) Zr
  have XE:d4≠d:=D0.ne Zr
  have D4:Dr (upd H0 d4 (.lst [V.int r4,V.int 0])) d:=D0.same s4
  have e4:(upd H0 d4 (.lst [V.int r4,V.int 0])) d4=some (.lst [V.int r4,V.int 0]):=ah
  generalize upd H0 d4 (.lst [V.int r4,V.int 0])=H1 at s4 D4 e4 ⊢
  refine ⟨(szl 3),fun q hq=>⟨_,rfl,d,3,rfl,D4.same (new hq),(by decide),fun r1 H2 h1 b1 d1=>⟨_,_,rfl,rfl,_,rfl,?_⟩⟩⟩
  have nq:q≠d:=D4.ne hq
  refine ⟨q,_,rfl,bz.of (b1 _ _ ah nq),fun th hth=>?_⟩
  obtain ⟨xs,exs,l3,x0⟩:∃ xs:List Str,kK ([("?0":Str),"?1","?2"].map V.str) none (some (1+(r1:Int)))=xs.map V.str∧xs.length≤3∧("?0":Str)∈xs:=by
   have:r1=0∨r1=1∨r1=2:=by omega
   rcases this with e | e | e <;> subst e
   ·exact ⟨["?0"],rfl,by decide,by simp⟩
   ·exact ⟨["?0","?1"],rfl,by decide,by simp⟩
   ·exact ⟨["?0","?1","?2"],rfl,by decide,by simp⟩
  have sT:=new (o:=.lst (kK ([("?0":Str),"?1","?2"].map V.str) none (some (1+(r1:Int))))) hth
  have ZR:(upd H2 th (.lst (kK ([("?0":Str),"?1","?2"].map V.str) none (some (1+(r1:Int)))))) th=some (.lst (xs.map V.str)):=by rw [ah,exs]
  have D2:=d1.same sT
  have Z0:=sT _ _ (b1 _ _ (new hq _ _ e4) XE)
  generalize upd H2 th (.lst (kK ([("?0":Str),"?1","?2"].map V.str) none (some (1+(r1:Int)))))=H3 at sT ZR D2 Z0 ⊢
  refine ⟨d4,th,xs,rfl,⟨r4,0,Z0⟩,ZR,l3,fun r c pp us ss H5 b5 d5 er ec sm ul MC bt=>?_⟩
  obtain ⟨pv,gs,E8,LV,Dv,P5⟩:=bt
  have D5:Dr H5 d:=by
   obtain ⟨x,y,z⟩:=D2
   exact ⟨x,y,b5 _ _ z XE.symm⟩
  clear sT ZR D2 Z0 b5 d5 hth exs hq h1 b1 d1 Zr s4 D4 e4 s0 D0 hs0 hs nq XE
  refine ⟨r,_,rfl,cR.of er,rfl,_,_,rfl,_,_,rfl,rfl,?_⟩
  refine ⟨Nat.zero_le _,fun t0 ht0=>⟨_,rfl,t0,-1,[],rfl,.inr ⟨[],ah,.nil⟩,by decide,fun r3 ts H6 s6 g6 NC S6=>⟨(Nat.le_of_lt (line 1 (by decide))),fun le hle=>?_⟩⟩⟩
  have N6:ts=[]:=Canon.same g6.1 Canon.nil g6.2
  subst N6
  have sA:=((new (o:=.tup []) ht0).trans s6).trans (new (o:=.lst [V.ref r3]) hle)
  have nle:le≠d:=((D5.same (new ht0)).same s6).ne hle
  have Ur:(upd H6 le (.lst [V.ref r3])) le=some (.lst [V.ref r3]):=ah
  have S6:=S6.same (new (o:=.lst [V.ref r3]) hle)
  have D6:=D5.same sA
  have ec:=sA _ _ ec
  have sm:=sm.aN (aQ.of sA)
  have E8:=sA _ _ E8
  have LV:Paired (iO C (upd H6 le (.lst [V.ref r3]))) pv (gs.map mq):=Paired.dX LV fun _ _ h=>h.aN (aQ.of sA)
  generalize upd H6 le (.lst [V.ref r3])=H7 at sA Ur S6 D6 ec sm E8 LV ⊢
  clear sA s6 hle ht0 er D5 g6 NC
  have x6:xs.length≤6:=by omega
  have GK:=aA sm
  have xS:LsOk xs [(([],-1):Sm)]:=⟨x6,(fun s hs=>by rw [List.mem_singleton.mp hs];exact ⟨Canon.nil,fun _ h=>nomatch h⟩),(fun s hs=>by rw [List.mem_singleton.mp hs];exact ⟨by show 1 < 2 ^ 300;exact Nat.one_lt_two_pow (by decide),fun _ h=>nomatch h⟩)⟩
  have ls0:LsOk xs []:=⟨x6,(fun _ h=>nomatch h),(fun _ h=>nomatch h)⟩
  have Pn:∀ {ss':List Sm},(∀ s∈ss',Gm xs s∧jE 110 s)→LsOk xs ss':=fun h=>⟨x6,fun s hs=>(h s hs).1,fun s hs=>(h s hs).2.mono (by omega)⟩
  have gz:vC xs (.sq []):=eU (Nat.zero_le _) fun l hl=>nomatch hl
  have OM:∀ {Hx:Hp},aQ H7 Hx→vA C Hx [V.ref r3] [(([],-1):Sm)]:=fun h=>.cons ⟨r3,rfl,S6.aN h⟩ .nil
  refine ⟨_,rfl,Nat.zero_le _,fun t1 h1=>?_⟩
  have s1:=new (o:=.tup []) h1
  have e1:kZ 20 [(([],-1):Sm)] (.sq [])=true:=by rw [ig,kJ];rfl
  have e0:kZ 20 [] (.sq [])=false:=by rw [ig,kJ];rfl
  refine ⟨xs,le,.ref t1,.sq [],[V.ref r3],_,rfl,.inl (s1 _ _ Ur),OM (aQ.of s1),xS,(by decide),cD (.inr ah) .nil,gz 20,fun H8 s8=>⟨_,rfl,rfl,_,rfl,?_⟩⟩
  rw [e1]
  refine dO ?_
  have s18:=s1.trans s8
  refine ⟨Nat.zero_le _,fun l2 h2=>⟨Nat.zero_le _,fun t2 h2'=>?_⟩⟩
  have s2:=s18.trans ((new (o:=.lst []) h2).trans (new (o:=.tup []) h2'))
  refine ⟨xs,l2,.ref t2,.sq [],[],[],rfl,.inl (new h2' _ _ ah),.nil,ls0,(by decide),cD (.inr ah) .nil,gz 20,fun H9 s9=>⟨_,rfl,rfl,_,rfl,?_⟩⟩
  rw [e0]
  refine dO ?_
  have Vx:=s2.trans s9
  clear s2 s9 h2' h2 s18 s8 s1 h1
  have Bh:kK us none (some 1)=us.take 1:=uC us 1
  have Pe:¬ (HT.gC us.length 0 none=0∧HT.gC us.length us.length (some 1)=us.length):=Ac (xs:=us) (k:=1) (by omega)
  have gs1:∀ s∈ss.take 1,Gm xs s∧jE 110 s:=fun s hs=>⟨(MC s (List.mem_of_mem_take hs)).1,(MC s (List.mem_of_mem_take hs)).2.mono (by decide)⟩
  have t1l:(ss.take 1).length≤5:=by rw [List.length_take];omega
  refine ⟨_,rfl,_,rfl,c,us,rfl,cR.of (Vx _ _ ec),Pe,fun p1 hp1=>⟨Nat.zero_le _,fun t3 h3=>?_⟩⟩
  rw [Bh] at h3 ⊢
  have sB:=Vx.trans ((new (o:=.tup (us.take 1)) hp1).trans (new (o:=.tup []) h3))
  refine ⟨xs,p1,.ref t3,.sq [],us.take 1,ss.take 1,rfl,.inr (new h3 _ _ ah),cQ (sm.aN (aQ.of sB)) 1,Pn gs1,by omega,cD (.inr ah) .nil,gz 20,fun Hc sc=>?_⟩
  have sD:=sB.trans sc
  clear sB sc hp1 h3
  refine ⟨_,rfl,_,rfl,c,us,rfl,cR.of (sD _ _ ec),Pe,fun p2 hp2=>⟨Nat.zero_le _,fun t4 h4=>?_⟩⟩
  rw [Bh] at h4 ⊢
  have sE:=sD.trans ((new (o:=.tup (us.take 1)) hp2).trans (new (o:=.tup []) h4))
  refine ⟨20,xs,p2,.ref t4,.sq [],us.take 1,ss.take 1,rfl,by decide,by decide,.inr (new h4 _ _ ah),cQ (sm.aN (aQ.of sE)) 1,Pn gs1,by omega,cD (.inr ah) .nil,gz 20,fun Hd sd=>⟨rfl,_,rfl,yR (by rw [decide_eq_true rfl];rfl) ?_⟩⟩
  have sF:=sE.trans sd
  clear sE sd hp2 h4 sD Vx
  refine ⟨_,rfl,d,3,rfl,D6.same sF,(by decide),fun r5 He h5 be de=>⟨_,_,rfl,rfl,?_⟩⟩
  have bE:cA d H7 He:=(cA.of sF).trans be
  clear sF be
  refine ⟨_,rfl,_,rfl,19+r5,congrArg (fun z=>[V.int z]) (show (19+(r5:Int))=((19+r5:Nat):Int) by omega),by omega,fun v1 Hf sf Si=>?_⟩
  have bF:=bE.trans (cA.of sf)
  have dF:=de.same sf
  refine ⟨xs,le,v1,lG (19+r5),[V.ref r3],_,rfl,.inl (bF _ _ Ur nle),OM (D6.soft bF),xS,(by decide),Si.ov,zP _ 20,fun Hg sg=>⟨_,rfl,_,_,rfl,rfl,rfl,_,rfl,?_⟩⟩
  have en:kZ 20 [(([],-1):Sm)] (lG (19+r5))=decide ((19+(r5:Int)) < 21):=by
   rw [C2 _ 20 _ rfl]
   by_cases z:19+r5≤20
   ·rw [decide_eq_true z,decide_eq_true (by omega)]
   ·rw [decide_eq_false z,decide_eq_false (by omega)]
  rw [en]
  refine yR (by rw [decide_eq_true rfl];rfl) ?_
  have bG:=bF.trans (cA.of sg)
  have dG:=dF.same sg
  refine ⟨_,rfl,_,rfl,_,_,rfl,rfl,4+r5,congrArg (fun z=>[V.int z]) (show (19+(r5:Int)) - 15=((4+r5:Nat):Int) by omega),by omega,fun v2 Hh sh ov2=>?_⟩
  have bH:=bG.trans (cA.of sh)
  have dH:=dG.same sh
  refine ⟨xs,le,v2,jC (4+r5),[V.ref r3],_,rfl,.inl (bH _ _ Ur nle),OM (D6.soft bH),xS,(by decide),ov2.ov,uw x0 _ (by omega) 20,fun Hi si=>⟨_,rfl,?_⟩⟩
  rw [yf _ 20 _ (by omega) rfl]
  refine dO ?_
  have bI:=bH.trans (cA.of si)
  have dI:=dH.same si
  clear bE bF bG bH de dF dG dH sf sg sh si Si ov2
  have pl:=aA LV
  rw [List.length_map] at pl
  have pl4:=Dv.le
  refine ⟨6,rfl,by decide,by decide,fZ (n:=(6:Int).toNat) (fun i σ H'=>∃ o6 o7 o8:Option V,σ=[some (.ref a),some (.ref d),some (.ref c),some (.ref pp),some (.ref le),some (.int (19+(r5:Int))),o6,o7,o8]∧cA d H7 H'∧Dr H' d) ⟨none,none,none,rfl,bI,dI⟩ ?_ ?_⟩
  ·rintro i σ HJ hi ⟨o6,o7,o8,rfl,bJ,dJ⟩
   have hJ:=D6.soft bJ
   have Qy:=hJ.t _ _ E8
   have ecJ:=hJ.t _ _ ec
   refine ⟨_,rfl,_,rfl,pp,pv,rfl,.inr (cR.of Qy),fun l hl=>?_⟩
   have sl:=new (o:=.lst pv) hl
   have hK:=hJ.trans (aQ.of sl)
   have nA:l≠d:=dJ.ne hl
   refine ⟨_,rfl,_,rfl,c,_,rfl,.inr (cR.of (sl _ _ ecJ)),_,rfl,pp,_,rfl,.inr (cR.of (sl _ _ Qy)),_,_,rfl,rfl,_,_,rfl,rfl,?_⟩
   refine ⟨xs,l,pv,gs,d,_,rfl,by decide,fun _=>Nat.le_refl _,ah,nA,Paired.dX LV fun _ _ h=>h.aN hK,Dv.ok,Dv.le,dJ.same sl,by omega,fun v7 O8 HL bL dL ovL gdL nbL=>⟨(szl 2),fun t7 h7=>?_⟩⟩
   have s7:=new (o:=.tup [.ref c,v7]) h7
   have e7:(upd HL t7 (.tup [.ref c,v7])) t7=some (.tup [.ref c,v7]):=ah
   have bM:=(bJ.trans (cA.of sl)).trans (bL.trans (cA.of s7))
   have dM:=dL.same s7
   have Wi:=ovL.same s7
   generalize upd HL t7 (.tup [.ref c,v7])=HM at s7 e7 bM dM Wi ⊢
   have hM:=D6.soft bM
   have ecM:=hM.t _ _ ec
   have ZV:=hM.t _ _ E8
   refine ⟨_,rfl,_,_,rfl,rfl,(show (0:Int) < 2 by decide),rfl,_,rfl,J3 (fun hb=>?_) (fun hb=>?_)⟩
   ·clear e7 Wi ovL gdL nbL bL dL h7 s7
    refine ⟨_,rfl,c,us,rfl,.inr (cR.of ecM),fun lc hlc=>?_⟩
    have s1:=new (o:=.lst us) hlc
    refine ⟨_,rfl,pp,pv,rfl,.inr (cR.of (s1 _ _ ZV)),fun lp hlp=>?_⟩
    have s2:=new (o:=.lst pv) hlp
    have s12:=s1.trans s2
    have hN:=hM.trans (aQ.of s12)
    refine ⟨_,rfl,xs,lc,lp,d,us,ss,pv,gs,rfl,s2 _ _ ah,dM.ne hlc,sm.aN hN,by omega,x6,x0,MC,ah,(dM.same s1).ne hlp,Paired.dX LV fun _ _ h=>h.aN hN,Dv,dM.same s12,fun t7 c7 v7 cs7 ss7 O8 HO bO dx e7 ec7 OL a7u gz7 O1 P9=>?_⟩
    have bx:=(bM.trans (cA.of s12)).trans bO
    have OG:vz HO c7 cs7:=.inl ec7
    have Pk:=Pn gz7
    refine ⟨_,rfl,t7,_,0,_,rfl,rfl,cR.of e7,rfl,_,rfl,t7,_,1,_,rfl,rfl,cR.of e7,rfl,?_⟩
    refine ⟨xs,c7,v7,O8,cs7,ss7,rfl,OG,OL,Pk,by omega,O1,P9 20,fun Hy sy=>?_⟩
    refine ⟨_,rfl,_,_,_,_,rfl,kU.bl _,rfl,O.Dg.1,_,rfl,dO ?_⟩
    refine ⟨_,rfl,_,rfl,t7,_,0,_,rfl,rfl,cR.of (sy _ _ e7),rfl,_,rfl,t7,_,1,_,rfl,rfl,cR.of (sy _ _ e7),rfl,?_⟩
    refine ⟨20,xs,c7,v7,O8,cs7,ss7,rfl,by decide,by decide,OG.same sy,OL.aN (aQ.of sy),Pk,by omega,O1.same sy,P9 20,fun Hz sz=>⟨rfl,_,rfl,yR (by rw [decide_eq_true rfl];rfl) ?_⟩⟩
    exact ⟨_,_,_,rfl,bx.trans (cA.of (sy.trans sz)),dx.same (sy.trans sz)⟩
   ·have bx:=bM
    have dx:=dM
    obtain ⟨c7,hc7⟩:∃ c7,c7=c:=⟨c,rfl⟩
    have OG:vz HM c us:=.inr ecM
    have OL:=sm.aN hM
    have Pk:LsOk xs ss:=Pn fun s hs=>⟨(MC s hs).1,(MC s hs).2.mono (by decide)⟩
    have O1:=Wi
    have P9:=gdL
    refine ⟨_,rfl,t7,_,0,_,rfl,rfl,cR.of e7,rfl,_,rfl,t7,_,1,_,rfl,rfl,cR.of e7,rfl,?_⟩
    refine ⟨xs,c,v7,O8,us,ss,rfl,OG,OL,Pk,by omega,O1,P9 20,fun Hy sy=>?_⟩
    refine ⟨_,rfl,_,_,_,_,rfl,kU.bl _,rfl,O.Dg.1,_,rfl,dO ?_⟩
    refine ⟨_,rfl,_,rfl,t7,_,0,_,rfl,rfl,cR.of (sy _ _ e7),rfl,_,rfl,t7,_,1,_,rfl,rfl,cR.of (sy _ _ e7),rfl,?_⟩
    refine ⟨20,xs,c,v7,O8,us,ss,rfl,by decide,by decide,OG.same sy,OL.aN (aQ.of sy),Pk,by omega,O1.same sy,P9 20,fun Hz sz=>⟨rfl,_,rfl,yR (by rw [decide_eq_true rfl];rfl) ?_⟩⟩
    exact ⟨_,_,_,rfl,bx.trans (cA.of (sy.trans sz)),dx.same (sy.trans sz)⟩
  rintro σ HJ ⟨o6,o7,o8,rfl,bJ,dJ⟩
  have hJ:=D6.soft bJ
  refine ⟨_,rfl,_,rfl,xs,c,.ref pp,.sq (gs.map mq),us,ss,rfl,.inr (hJ.t _ _ ec),sm.aN hJ,Pn (fun s hs=>⟨(MC s hs).1,(MC s hs).2.mono (by decide)⟩),by omega,(gB (hJ.t _ _ E8) (Paired.dX LV fun _ _ h=>h.aN hJ)).ov,eU (by rw [List.length_map];omega) (Hj Dv.ok) 20,fun Hf sf=>⟨_,rfl,rfl,?_⟩⟩
  rw [P5]
  exact k _
end
end Hw
namespace Hw
open PySem L2 PyProof.Rows
theorem rT {A:FuncData} {B:List Str} (us:List Value) (hl:us.length=1) (k:∀ a,bindArgs A ⟨[a],[]⟩=pure (B.zip [a])):bindArgs A ⟨us,[]⟩=pure (B.zip us):=match us,hl with | [a],_=>k a
theorem jQ {A:FuncData} {B:List Str} (us:List Value) (hl:us.length=2) (k:∀ a b,bindArgs A ⟨[a,b],[]⟩=pure (B.zip [a,b])):bindArgs A ⟨us,[]⟩=pure (B.zip us):=match us,hl with | [a,b],_=>k a b
theorem rS {A:FuncData} {B:List Str} (us:List Value) (hl:us.length=3) (k:∀ a b c,bindArgs A ⟨[a,b,c],[]⟩=pure (B.zip [a,b,c])):bindArgs A ⟨us,[]⟩=pure (B.zip us):=match us,hl with | [a,b,c],_=>k a b c
theorem Ph {p:String→Prop} {a b c d:String} (ha:p a) (hb:p b) (hc:p c) (hd:p d):∀ t∈([a,b,c,d]:List String),p t:=fun t h=>by
 rcases List.mem_cons.mp h with e | h
 ·rw [e];exact ha
 rcases List.mem_cons.mp h with e | h
 ·rw [e];exact hb
 rcases List.mem_cons.mp h with e | h
 ·rw [e];exact hc
 rw [List.mem_singleton.mp h];exact hd
theorem all_mk {l:PySem.W.OpenLaw} {w:World} {K:PySem.W.Frag} {h:Heap} {mg:Str→Option Value} {fa Cs f1 f2 f3 f4 f5 f6 f7 f8 f9 Uk Uj Ui Uh Ug Ue Ql Ud Uc Ub Ua T9 T8 T7 T6 T5 T4 ZL T3 TZ TY TX f32 ZK TV TU TR TQ TN ZJ TM TL TJ ZI:Addr} {tM:Tok} (X:K.In h) (G:h.Ns mainGlobals mg) (hfa:mg "law"=some (.ref fa))
  {od1 an1 od2 an2 od3 an3 od4 an4 od5 an5 od6 an6 od7 an7 od8 an8 od9 an9 WU a2o WT a2n WS a2m WR a2l WQ a2k WO a2j WN a2i WM a2h WL a2g WK a2f WJ a2e WI a2d WH a2c WG a2b WE a2a WD a1Z WC a1Y WB a1X WA a1W Wz a1V Wy a1U Wx a1T Ww a1S Wv a1R Wu a1Q Wt a1P Ws a1O Wr a1N Wq a1M Wo a1L Wn a1K Wm a1J Wl a1I Wk RG:Option Addr} {OM sl2 sl3 sl4 sl5 sl6 sl7 sl8 sl9 Vu Vt Vs Vr Vq Vp Vo Vn Vm Vl Vk Vj Vi Vh Vg Vf Ve Vd Vc Vb Va U9 U8 U7 U6 U5 U4 U3 U1 U0 UZ UY UX UW:Array (Option Value)} {oc1 kV1 dc1 pm1 cd1 ct1 oc2 kV2 dc2 pm2 cd2 ct2 oc3 kV3 dc3 pm3 cd3 ct3 oc4 kV4 dc4 pm4 cd4 ct4 oc5 kV5 dc5 pm5 cd5 ct5 oc6 kV6 dc6 pm6 cd6 ct6 oc7 kV7 dc7 pm7 cd7 ct7 oc8 kV8 dc8 pm8 cd8 ct8 oc9 kV9 dc9 pm9 cd9 ct9 Xu Y0 a0A Wf Ry a07 Xs YZ a0z We Rx a06 Xr YY a0y Wd Rv a05 Xq YX a0x Wc Ru a04 Xp YW a0w Wb Rr a03 Xo YV a0v Wa Rq a02 Xn YU a0u V9 Rp a01 Xm YT a0t V8 Ro a00 Xl YS a0s V7 Rn a0Z Xk YR a0r V6 Rm a0Y Xj YQ a0q V5 Rk a0X Xi YO a0p V4 Rj a0W Xh YN a0o V3 Ri a0V Xg YM a0n V2 Rh a0U Xf YL a0m V1 Rg a0T Xe YK a0l V0 Rf a0S Xd YJ a0k VZ Rc a0R Xc YI a0j VY Rb a0Q Xb YH a0i VX Ra a0P Xa YG a0h VW Q9 a0O W9 YF a0g VV Q8 a0N W8 YE a0f VU Q7 a0M W7 YD a0e VT Q6 a0L W6 YC a0d VS Q5 a0K W5 YB a0c VR Q4 a0J W4 YA a0b VQ Q3 a0I W3 Yz a0a VP Q2 a0H W2 Yy Z8 VO Q0 a0G W0 Yx Z7 VN QZ a0F WZ Yw Z6 VM QY a0E WY Yv Z5 VL QX a0D WX Yu Z4 VJ QW a0C WW Yt Z3 VI QV a0B WV Px QT OW Nk QU:Value}
  (ME:PySem.W.nsIn K mainGlobals "Sum"=some (some (.ref Cs))) (Gj:PySem.W.plainGet K Cs Str.empty=true) (G8:PySem.W.hasDictIn K Cs=true) (Gg:PySem.W.plainOver K Cs=true) (FW:PySem.W.findIn K (.ref Cs) "__setattr__"=some (some (.builtin "object.__setattr__"))) (GI:PySem.W.makesIn K Cs=true) (GX:PySem.W.keepIn K (.ref Cs)=true)
  (a1:PySem.W.findIn K (.ref Cs) "__init__"=some (some (.ref f1))) (i1:PySem.W.isFn K (.ref f1)=true)
  (l1:K.lookup f1=some ⟨oc1,od1,.func (PySem.W.fnOf "__init__" "Sum.__init__" (aV tN) (az tN) (au tN) .none kV1 dc1 pm1 an1 cd1 ct1),OM⟩) (c1:PySem.W.codeIn K cd1 "Sum.__init__"=true) (k1:PySem.W.keepIn K (.ref f1)=true)
  (a2:PySem.W.findIn K (.ref Cs) "plus"=some (some (.ref f2))) (i2:PySem.W.isFn K (.ref f2)=true)
  (l2:K.lookup f2=some ⟨oc2,od2,.func (PySem.W.fnOf "plus" "Sum.plus" (aV tG) (az tG) (au tG) .none kV2 dc2 pm2 an2 cd2 ct2),sl2⟩) (c2:PySem.W.codeIn K cd2 "Sum.plus"=true) (k2:PySem.W.keepIn K (.ref f2)=true)
  (a3:PySem.W.findIn K (.ref Cs) "less"=some (some (.ref f3))) (i3:PySem.W.isFn K (.ref f3)=true)
  (l3:K.lookup f3=some ⟨oc3,od3,.func (PySem.W.fnOf "less" "Sum.less" (aV tK) (az tK) (au tK) .none kV3 dc3 pm3 an3 cd3 ct3),sl3⟩) (c3:PySem.W.codeIn K cd3 "Sum.less"=true) (k3:PySem.W.keepIn K (.ref f3)=true)
  (a4:PySem.W.findIn K (.ref Cs) "times"=some (some (.ref f4))) (i4:PySem.W.isFn K (.ref f4)=true)
  (l4:K.lookup f4=some ⟨oc4,od4,.func (PySem.W.fnOf "times" "Sum.times" (aV nh) (az nh) (au nh) .none kV4 dc4 pm4 an4 cd4 ct4),sl4⟩) (c4:PySem.W.codeIn K cd4 "Sum.times"=true) (k4:PySem.W.keepIn K (.ref f4)=true)
  (a5:PySem.W.nsIn K mainGlobals "sum_of"=some (some (.ref f5)))
  (l5:K.lookup f5=some ⟨oc5,od5,.func (PySem.W.fnOf "sum_of" "sum_of" (aV ni) (az ni) (au ni) .none kV5 dc5 pm5 an5 cd5 ct5),sl5⟩) (c5:PySem.W.codeIn K cd5 "sum_of"=true) (k5:PySem.W.keepIn K (.ref f5)=true)
  (a6:PySem.W.nsIn K mainGlobals "_law_mixed"=some (some (.ref f6)))
  (l6:K.lookup f6=some ⟨oc6,od6,.func (PySem.W.fnOf "_law_mixed" "_law_mixed" (aV nj) (az nj) (au nj) .none kV6 dc6 pm6 an6 cd6 ct6),sl6⟩) (c6:PySem.W.codeIn K cd6 "_law_mixed"=true) (k6:PySem.W.keepIn K (.ref f6)=true)
  (a7:PySem.W.nsIn K mainGlobals "_law_cell_at"=some (some (.ref f7)))
  (l7:K.lookup f7=some ⟨oc7,od7,.func (PySem.W.fnOf "_law_cell_at" "_law_cell_at" (aV ko) (az ko) (au ko) .none kV7 dc7 pm7 an7 cd7 ct7),sl7⟩) (c7:PySem.W.codeIn K cd7 "_law_cell_at"=true) (k7:PySem.W.keepIn K (.ref f7)=true)
  (a8:PySem.W.nsIn K mainGlobals "_law_next"=some (some (.ref f8)))
  (l8:K.lookup f8=some ⟨oc8,od8,.func (PySem.W.fnOf "_law_next" "_law_next" (aV tH) (az tH) (au tH) .none kV8 dc8 pm8 an8 cd8 ct8),sl8⟩) (c8:PySem.W.codeIn K cd8 "_law_next"=true) (k8:PySem.W.keepIn K (.ref f8)=true)
  (a9:PySem.W.nsIn K mainGlobals "is_term"=some (some (.ref f9)))
  (l9:K.lookup f9=some ⟨oc9,od9,.func (PySem.W.fnOf "is_term" "is_term" (aV jb) (az jb) (au jb) .none kV9 dc9 pm9 an9 cd9 ct9),sl9⟩) (c9:PySem.W.codeIn K cd9 "is_term"=true) (k9:PySem.W.keepIn K (.ref f9)=true)
  (a10:PySem.W.nsIn K mainGlobals "is_never"=some (some (.ref Uk)))
  (K9:K.lookup Uk=some ⟨Xu,WU,.func (PySem.W.fnOf "is_never" "is_never" (aV gW) (az gW) (au gW) .none Y0 a0A Wf a2o Ry a07),Vu⟩) (c10:PySem.W.codeIn K Ry "is_never"=true) (Tq:PySem.W.keepIn K (.ref Uk)=true)
  (a11:PySem.W.nsIn K mainGlobals "turned_terms"=some (some (.ref Uj)))
  (Yr:K.lookup Uj=some ⟨Xs,WT,.func (PySem.W.fnOf "turned_terms" "turned_terms" (aV eG) (az eG) (au eG) .none YZ a0z We a2n Rx a06),Vt⟩) (c11:PySem.W.codeIn K Rx "turned_terms"=true) (To:PySem.W.keepIn K (.ref Uj)=true)
  (a12:PySem.W.nsIn K mainGlobals "other_side"=some (some (.ref Ui)))
  (Yq:K.lookup Ui=some ⟨Xr,WS,.func (PySem.W.fnOf "other_side" "other_side" (aV fJ) (az fJ) (au fJ) .none YY a0y Wd a2m Rv a05),Vs⟩) (c12:PySem.W.codeIn K Rv "other_side"=true) (Tn:PySem.W.keepIn K (.ref Ui)=true)
  (a13:PySem.W.nsIn K mainGlobals "_law_sums"=some (some (.ref Uh)))
  (Yp:K.lookup Uh=some ⟨Xq,WR,.func (PySem.W.fnOf "_law_sums" "_law_sums" (aV j8) (az j8) (au j8) .none YX a0x Wc a2l Ru a04),Vr⟩) (c13:PySem.W.codeIn K Ru "_law_sums"=true) (Tj:PySem.W.keepIn K (.ref Uh)=true)
  (a14:PySem.W.nsIn K mainGlobals "_law_last"=some (some (.ref Ug)))
  (Yo:K.lookup Ug=some ⟨Xp,WQ,.func (PySem.W.fnOf "_law_last" "_law_last" (aV kc) (az kc) (au kc) .none YW a0w Wb a2k Rr a03),Vq⟩) (c14:PySem.W.codeIn K Rr "_law_last"=true) (Ti:PySem.W.keepIn K (.ref Ug)=true)
  (a15:PySem.W.nsIn K mainGlobals "is_several"=some (some (.ref Ue)))
  (Yn:K.lookup Ue=some ⟨Xo,WO,.func (PySem.W.fnOf "is_several" "is_several" (aV fM) (az fM) (au fM) .none YV a0v Wa a2j Rq a02),Vp⟩) (c15:PySem.W.codeIn K Rq "is_several"=true) (Th:PySem.W.keepIn K (.ref Ue)=true)
  (Uu:PySem.W.nsIn K mainGlobals "is_number"=some (some (.ref Ql)))
  (Ym:K.lookup Ql=some ⟨Xn,WN,.func (PySem.W.fnOf "is_number" "is_number" (aV gp) (az gp) (au gp) .none YU a0u V9 a2i Rp a01),Vo⟩) (c16:PySem.W.codeIn K Rp "is_number"=true) (Py:PySem.W.keepIn K (.ref Ql)=true)
  (a17:PySem.W.nsIn K mainGlobals "is_from_one"=some (some (.ref Ud)))
  (Yl:K.lookup Ud=some ⟨Xm,WM,.func (PySem.W.fnOf "is_from_one" "is_from_one" (aV e8) (az e8) (au e8) .none YT a0t V8 a2h Ro a00),Vn⟩) (c17:PySem.W.codeIn K Ro "is_from_one"=true) (Tg:PySem.W.keepIn K (.ref Ud)=true)
  (a18:PySem.W.nsIn K mainGlobals "is_ahead"=some (some (.ref Uc)))
  (Yk:K.lookup Uc=some ⟨Xl,WL,.func (PySem.W.fnOf "is_ahead" "is_ahead" (aV gX) (az gX) (au gX) .none YS a0s V7 a2g Rn a0Z),Vm⟩) (c18:PySem.W.codeIn K Rn "is_ahead"=true) (Tf:PySem.W.keepIn K (.ref Uc)=true)
  (a19:PySem.W.nsIn K mainGlobals "is_weighed"=some (some (.ref Ub)))
  (Yj:K.lookup Ub=some ⟨Xk,WK,.func (PySem.W.fnOf "is_weighed" "is_weighed" (aV fK) (az fK) (au fK) .none YR a0r V6 a2f Rm a0Y),Vl⟩) (c19:PySem.W.codeIn K Rm "is_weighed"=true) (Te:PySem.W.keepIn K (.ref Ub)=true)
  (a20:PySem.W.nsIn K mainGlobals "can_be_divided"=some (some (.ref Ua)))
  (Yi:K.lookup Ua=some ⟨Xj,WJ,.func (PySem.W.fnOf "can_be_divided" "can_be_divided" (aV di) (az di) (au di) .none YQ a0q V5 a2e Rk a0X),Vk⟩) (c20:PySem.W.codeIn K Rk "can_be_divided"=true) (Td:PySem.W.keepIn K (.ref Ua)=true)
  (a21:PySem.W.nsIn K mainGlobals "is_sum"=some (some (.ref T9)))
  (Yh:K.lookup T9=some ⟨Xi,WI,.func (PySem.W.fnOf "is_sum" "is_sum" (aV kg) (az kg) (au kg) .none YO a0p V4 a2d Rj a0W),Vj⟩) (c21:PySem.W.codeIn K Rj "is_sum"=true) (Tc:PySem.W.keepIn K (.ref T9)=true)
  (a22:PySem.W.nsIn K mainGlobals "is_split"=some (some (.ref T8)))
  (Yg:K.lookup T8=some ⟨Xh,WH,.func (PySem.W.fnOf "is_split" "is_split" (aV gT) (az gT) (au gT) .none YN a0o V3 a2c Ri a0V),Vi⟩) (c22:PySem.W.codeIn K Ri "is_split"=true) (SY:PySem.W.keepIn K (.ref T8)=true)
  (a23:PySem.W.nsIn K mainGlobals "is_right"=some (some (.ref T7)))
  (Ye:K.lookup T7=some ⟨Xg,WG,.func (PySem.W.fnOf "is_right" "is_right" (aV gU) (az gU) (au gU) .none YM a0n V2 a2b Rh a0U),Vh⟩) (c23:PySem.W.codeIn K Rh "is_right"=true) (SX:PySem.W.keepIn K (.ref T7)=true)
  (a24:PySem.W.nsIn K mainGlobals "divided"=some (some (.ref T6)))
  (Yd:K.lookup T6=some ⟨Xf,WE,.func (PySem.W.fnOf "divided" "divided" (aV jc) (az jc) (au jc) .none YL a0m V1 a2a Rg a0T),Vg⟩) (c24:PySem.W.codeIn K Rg "divided"=true) (SW:PySem.W.keepIn K (.ref T6)=true)
  (a25:PySem.W.nsIn K mainGlobals "line_of"=some (some (.ref T5)))
  (Yc:K.lookup T5=some ⟨Xe,WD,.func (PySem.W.fnOf "line_of" "line_of" (aV iY) (az iY) (au iY) .none YK a0l V0 a1Z Rf a0S),Vf⟩) (c25:PySem.W.codeIn K Rf "line_of"=true) (SV:PySem.W.keepIn K (.ref T5)=true)
  (a26:PySem.W.nsIn K mainGlobals "both_end_well"=some (some (.ref T4)))
  (Yb:K.lookup T4=some ⟨Xd,WC,.func (PySem.W.fnOf "both_end_well" "both_end_well" (aV dW) (az dW) (au dW) .none YJ a0k VZ a1Y Rc a0R),Ve⟩) (c26:PySem.W.codeIn K Rc "both_end_well"=true) (SR:PySem.W.keepIn K (.ref T4)=true)
  (a27:PySem.W.nsIn K mainGlobals "ends_well"=some (some (.ref ZL)))
  (X8:K.lookup ZL=some ⟨Xc,WB,.func (PySem.W.fnOf "ends_well" "ends_well" (aV gq) (az gq) (au gq) .none YI a0j VY a1X Rb a0Q),Vd⟩) (c27:PySem.W.codeIn K Rb "ends_well"=true) (SQ:PySem.W.keepIn K (.ref ZL)=true)
  (a28:PySem.W.nsIn K mainGlobals "refutes"=some (some (.ref T3)))
  (X7:K.lookup T3=some ⟨Xb,WA,.func (PySem.W.fnOf "refutes" "refutes" (aV iW) (az iW) (au iW) .none YH a0i VX a1W Ra a0P),Vc⟩) (c28:PySem.W.codeIn K Ra "refutes"=true) (SO:PySem.W.keepIn K (.ref T3)=true)
  (a29:PySem.W.nsIn K mainGlobals "_law_whole"=some (some (.ref TZ)))
  (X6:K.lookup TZ=some ⟨Xa,Wz,.func (PySem.W.fnOf "_law_whole" "_law_whole" (aV iZ) (az iZ) (au iZ) .none YG a0h VW a1V Q9 a0O),Vb⟩) (c29:PySem.W.codeIn K Q9 "_law_whole"=true) (SN:PySem.W.keepIn K (.ref TZ)=true)
  (a30:PySem.W.nsIn K mainGlobals "_law_row"=some (some (.ref TY)))
  (X5:K.lookup TY=some ⟨W9,Wy,.func (PySem.W.fnOf "_law_row" "_law_row" (aV m8) (az m8) (au m8) .none YF a0g VV a1U Q8 a0N),Va⟩) (c30:PySem.W.codeIn K Q8 "_law_row"=true) (SM:PySem.W.keepIn K (.ref TY)=true)
  (a31:PySem.W.nsIn K mainGlobals "_law_place"=some (some (.ref TX)))
  (X4:K.lookup TX=some ⟨W8,Wx,.func (PySem.W.fnOf "_law_place" "_law_place" (aV i8) (az i8) (au i8) .none YE a0f VU a1T Q7 a0M),U9⟩) (c31:PySem.W.codeIn K Q7 "_law_place"=true) (SK:PySem.W.keepIn K (.ref TX)=true)
  (a32:PySem.W.nsIn K mainGlobals "_law_line"=some (some (.ref f32)))
  (X3:K.lookup f32=some ⟨W7,Ww,.func (PySem.W.fnOf "_law_line" "_law_line" (aV j9) (az j9) (au j9) .none YD a0e VT a1S Q6 a0L),U8⟩) (c32:PySem.W.codeIn K Q6 "_law_line"=true) (SJ:PySem.W.keepIn K (.ref f32)=true)
  (a33:PySem.W.nsIn K mainGlobals "_law_sound"=some (some (.ref ZK)))
  (X0:K.lookup ZK=some ⟨W6,Wv,.func (PySem.W.fnOf "_law_sound" "_law_sound" (aV i6) (az i6) (au i6) .none YC a0d VS a1R Q5 a0K),U7⟩) (c33:PySem.W.codeIn K Q5 "_law_sound"=true) (SI:PySem.W.keepIn K (.ref ZK)=true)
  (a34:PySem.W.nsIn K mainGlobals "_law_put"=some (some (.ref TV)))
  (XZ:K.lookup TV=some ⟨W5,Wu,.func (PySem.W.fnOf "_law_put" "_law_put" (aV m9) (az m9) (au m9) .none YB a0c VR a1Q Q4 a0J),U6⟩) (c34:PySem.W.codeIn K Q4 "_law_put"=true) (SH:PySem.W.keepIn K (.ref TV)=true)
  (a35:PySem.W.nsIn K mainGlobals "_law_odd"=some (some (.ref TU)))
  (XY:K.lookup TU=some ⟨W4,Wt,.func (PySem.W.fnOf "_law_odd" "_law_odd" (aV nc) (az nc) (au nc) .none YA a0b VQ a1P Q3 a0I),U5⟩) (c35:PySem.W.codeIn K Q3 "_law_odd"=true) (SG:PySem.W.keepIn K (.ref TU)=true)
  (a36:PySem.W.nsIn K mainGlobals "_law_nested"=some (some (.ref TR)))
  (XX:K.lookup TR=some ⟨W3,Ws,.func (PySem.W.fnOf "_law_nested" "_law_nested" (aV gS) (az gS) (au gS) .none Yz a0a VP a1O Q2 a0H),U4⟩) (c36:PySem.W.codeIn K Q2 "_law_nested"=true) (SE:PySem.W.keepIn K (.ref TR)=true)
  (a37:PySem.W.nsIn K mainGlobals "_law_bushy"=some (some (.ref TQ)))
  (XW:K.lookup TQ=some ⟨W2,Wr,.func (PySem.W.fnOf "_law_bushy" "_law_bushy" (aV i9) (az i9) (au i9) .none Yy Z8 VO a1N Q0 a0G),U3⟩) (c37:PySem.W.codeIn K Q0 "_law_bushy"=true) (SD:PySem.W.keepIn K (.ref TQ)=true)
  (a38:PySem.W.nsIn K mainGlobals "_law_line_spoilt"=some (some (.ref TN)))
  (XU:K.lookup TN=some ⟨W0,Wq,.func (PySem.W.fnOf "_law_line_spoilt" "_law_line_spoilt" (aV dU) (az dU) (au dU) .none Yx Z7 VN a1M QZ a0F),U1⟩) (c38:PySem.W.codeIn K QZ "_law_line_spoilt"=true) (SA:PySem.W.keepIn K (.ref TN)=true)
  (a39:PySem.W.nsIn K mainGlobals "_law_spoilt"=some (some (.ref ZJ)))
  (XT:K.lookup ZJ=some ⟨WZ,Wo,.func (PySem.W.fnOf "_law_spoilt" "_law_spoilt" (aV gR) (az gR) (au gR) .none Yw Z6 VM a1L QY a0E),U0⟩) (c39:PySem.W.codeIn K QY "_law_spoilt"=true) (Sz:PySem.W.keepIn K (.ref ZJ)=true)
  (a40:PySem.W.nsIn K mainGlobals "_law_quiet_add"=some (some (.ref TM)))
  (XS:K.lookup TM=some ⟨WY,Wn,.func (PySem.W.fnOf "_law_quiet_add" "_law_quiet_add" (aV eZ) (az eZ) (au eZ) .none Yv Z5 VL a1K QX a0D),UZ⟩) (c40:PySem.W.codeIn K QX "_law_quiet_add"=true) (Sy:PySem.W.keepIn K (.ref TM)=true)
  (a41:PySem.W.nsIn K mainGlobals "_law_quiet"=some (some (.ref TL)))
  (XR:K.lookup TL=some ⟨WX,Wm,.func (PySem.W.fnOf "_law_quiet" "_law_quiet" (aV i7) (az i7) (au i7) .none Yu Z4 VJ a1J QW a0C),UY⟩) (c41:PySem.W.codeIn K QW "_law_quiet"=true) (Sw:PySem.W.keepIn K (.ref TL)=true)
  (a42:PySem.W.nsIn K mainGlobals "_law_built"=some (some (.ref TJ)))
  (XQ:K.lookup TJ=some ⟨WW,Wl,.func (PySem.W.fnOf "_law_built" "_law_built" (aV ja) (az ja) (au ja) .none Yt Z3 VI a1I QV a0B),UX⟩) (c42:PySem.W.codeIn K QV "_law_built"=true) (Sv:PySem.W.keepIn K (.ref TJ)=true)
  (a43:PySem.W.nsIn K mainGlobals "law"=some (some (.ref ZI)))
  (XO:K.lookup ZI=some ⟨WV,Wk,.func (PySem.W.fnOf "law" "law" (aV uY) (az uY) (au uY) .none Px QT OW RG Nk QU),UW⟩) (c43:PySem.W.codeIn K Nk "law"=true) (Y3:PySem.W.keepIn K (.ref ZI)=true)
  (nB:PySem.W.findIn K (.ref Cs) "terms"=some none)
  (lH:PySem.W.findIn K (.ref Cs) "number"=some none)
  (Fi:PySem.W.nsIn K mainGlobals "len"=some none)
  (Fe:PySem.W.nsIn K mainGlobals "sum"=some none)
  (rW:PySem.W.nsIn K mainGlobals "sorted"=some none)
  (Av:PySem.W.nsIn K mainGlobals "list"=some none)
  (wJ:PySem.W.nsIn K mainGlobals "tuple"=some none)
  (j3:PySem.W.nsIn K mainGlobals "isinstance"=some none)
  (wK:PySem.W.nsIn K mainGlobals "range"=some none)
  (Fo:PySem.W.nsIn K mainGlobals "abs"=some none)
  (Ff:PySem.W.nsIn K mainGlobals "str"=some none)
  (Fj:PySem.W.nsIn K mainGlobals "int"=some none)
  (Aw:PySem.W.nsIn K mainGlobals "dict"=some none)
  (Fl:PySem.W.nsIn K mainGlobals "all"=some none)
  (Fg:PySem.W.nsIn K mainGlobals "set"=some none)
  (lB:PySem.W.nsIn K mainGlobals "enumerate"=some none)
  (Ax:PySem.W.nsIn K mainGlobals "bool"=some none)
  (Lv:PySem.W.specialIn K (.builtin "object.__class__") "__get__"=some (some (.builtin "getset_descriptor.__get__")))
  (Ls:PySem.W.takesIn K (.builtin "object.__class__")=some true)
  (Lw:PySem.W.findIn K (.ref Cs) "__class__"=some (some (.builtin "object.__class__")))
  (Lu:PySem.W.mroIn K Cs (.type "object")=some true)
  (Jf:PySem.W.kitOne K (.type "int") (.type "bool")=some false)
  (Lq:PySem.W.kitOne K (.type "tuple") (.type "list")=some false)
  (Lr:PySem.W.nsIn K mainGlobals "MOST_SPLITS"=some (some (.int 20 tM)))
  (j7:PySem.W.kitAny K (.type "NoneType") [.type "list",.type "tuple"]=some false)
  (j6:PySem.W.kitAny K (.type "NoneType") [.type "tuple",.type "list"]=some false)
  (j5:PySem.W.kitOne K (.type "NoneType") (.ref Cs)=some false)
  (wU:PySem.W.kitAny K (.type "int") [.type "list",.type "tuple"]=some false)
  (wQ:PySem.W.kitAny K (.type "int") [.type "tuple",.type "list"]=some false)
  (wN:PySem.W.kitOne K (.type "int") (.ref Cs)=some false)
  (su:PySem.W.kitAny K (.type "bool") [.type "list",.type "tuple"]=some false)
  (sj:PySem.W.kitAny K (.type "bool") [.type "tuple",.type "list"]=some false)
  (rZ:PySem.W.kitOne K (.type "bool") (.ref Cs)=some false)
  (wR:PySem.W.kitAny K (.type "str") [.type "list",.type "tuple"]=some false)
  (wO:PySem.W.kitAny K (.type "str") [.type "tuple",.type "list"]=some false)
  (wM:PySem.W.kitOne K (.type "str") (.ref Cs)=some false)
  (Fw:PySem.W.kitAny K (.ref Cs) [.type "list",.type "tuple"]=some false)
  (Fv:PySem.W.kitAny K (.ref Cs) [.type "tuple",.type "list"]=some false)
  (sr:PySem.W.kitAny K (.type "list") [.type "list",.type "tuple"]=some true)
  (se:PySem.W.kitAny K (.type "list") [.type "tuple",.type "list"]=some true)
  (rY:PySem.W.kitOne K (.type "list") (.ref Cs)=some false)
  (pM:PySem.W.kitAny K (.type "tuple") [.type "list",.type "tuple"]=some true)
  (pL:PySem.W.kitAny K (.type "tuple") [.type "tuple",.type "list"]=some true)
  (pK:PySem.W.kitOne K (.type "tuple") (.ref Cs)=some false)
  (j4:PySem.W.kitOne K (.type "NoneType") (.type "int")=some false)
  (wL:PySem.W.kitOne K (.type "str") (.type "int")=some false)
  (rX:PySem.W.kitOne K (.type "list") (.type "int")=some false)
  (pJ:PySem.W.kitOne K (.type "tuple") (.type "int")=some false)
  (Fp:PySem.W.kitOne K (.type "bool") (.type "int")=some true)
  (Fq:PySem.W.kitOne K (.ref Cs) (.type "int")=some false)
  (Ft:PySem.W.kitOne K (.type "bool") (.type "bool")=some true)
 :∃ fd:FuncData,(∀ (s:Shared) (v:Value),BindsTo s fd ⟨[v],[]⟩ [("_law_script",v)])∧∀ base:Heap,K.In base→base.Ns mainGlobals mg→cL l.prog w K mg base iB 54 fa fd ["_law_script"] (Cq K):=by
 have e:=hfa.symm.trans (PySem.W.mg_of X G a43)
 cases e
 have T:Txt K mg Cs:=⟨⟨Gj,G8,Gg,FW⟩,nB,lH,PySem.W.mg_of X G ME,PySem.W.mg_none_of X G Fi,PySem.W.mg_none_of X G Fe,PySem.W.mg_none_of X G rW,PySem.W.mg_none_of X G Av,PySem.W.mg_none_of X G wJ,PySem.W.mg_none_of X G j3,PySem.W.mg_none_of X G wK,PySem.W.mg_none_of X G Fo,PySem.W.mg_none_of X G Ff,PySem.W.mg_none_of X G Fj,PySem.W.mg_none_of X G Aw,Lw,Lv,Ls,Lu,CH K Cs,JZ K⟩
 have J:kW K mg:=⟨PySem.W.mg_none_of X G Fl,PySem.W.mg_none_of X G Fg,PySem.W.mg_none_of X G lB,PySem.W.mg_none_of X G Ax,Jf,Lq,⟨_,PySem.W.mg_of X G Lr⟩⟩
 have O:mD K Cs:=⟨Ph ⟨j7,j6,j5⟩ ⟨wU,wQ,wN⟩ ⟨su,sj,rZ⟩ ⟨wR,wO,wM⟩,⟨Fw,Fv⟩,⟨sr,se⟩,⟨pM,pL⟩,⟨rY,pK,CH K Cs⟩,Ph j4 wL rX pJ,⟨Fp,J1 K,Fq⟩,⟨Ft,Jf⟩⟩
 have F1:=bS (st:=tN) l1 c1 k1
 have b1:=F1.binds (ps:=["self","terms","number"]) fun _ _ _ _ _ _ us hl=>rS us hl fun _ _ _=>rfl
 have F2:=bS (st:=tG) l2 c2 k2
 have b2:=F2.binds (ps:=["self","other"]) fun _ _ _ _ _ _ us hl=>jQ us hl fun _ _=>rfl
 have F3:=bS (st:=tK) l3 c3 k3
 have b3:=F3.binds (ps:=["self","other"]) fun _ _ _ _ _ _ us hl=>jQ us hl fun _ _=>rfl
 have F4:=bS (st:=nh) l4 c4 k4
 have b4:=F4.binds (ps:=["self","number"]) fun _ _ _ _ _ _ us hl=>jQ us hl fun _ _=>rfl
 have F5:=bS (st:=ni) l5 c5 k5
 have b5:=F5.binds (ps:=["pairs","number"]) fun _ _ _ _ _ _ us hl=>jQ us hl fun _ _=>rfl
 have F6:=bS (st:=nj) l6 c6 k6
 have b6:=F6.binds (ps:=["_law_cell","_law_k"]) fun _ _ _ _ _ _ us hl=>jQ us hl fun _ _=>rfl
 have F7:=bS (st:=ko) l7 c7 k7
 have b7:=F7.binds (ps:=["_law_script","_law_k"]) fun _ _ _ _ _ _ us hl=>jQ us hl fun _ _=>rfl
 have F8:=bS (st:=tH) l8 c8 k8
 have b8:=F8.binds (ps:=["_law_draw","_law_size"]) fun _ _ _ _ _ _ us hl=>jQ us hl fun _ _=>rfl
 have F9:=bS (st:=jb) l9 c9 k9
 have b9:=F9.binds (ps:=["pair"]) fun _ _ _ _ _ _ us hl=>rT us hl fun _=>rfl
 have F10:=bS (st:=gW) K9 c10 Tq
 have b10:=F10.binds (ps:=["total"]) fun _ _ _ _ _ _ us hl=>rT us hl fun _=>rfl
 have F11:=bS (st:=eG) Yr c11 To
 have b11:=F11.binds (ps:=["terms"]) fun _ _ _ _ _ _ us hl=>rT us hl fun _=>rfl
 have F12:=bS (st:=fJ) Yq c12 Tn
 have b12:=F12.binds (ps:=["total"]) fun _ _ _ _ _ _ us hl=>rT us hl fun _=>rfl
 have F13:=bS (st:=j8) Yp c13 Tj
 have b13:=F13.binds (ps:=["_law_draw","_law_things","_law_many"]) fun _ _ _ _ _ _ us hl=>rS us hl fun _ _ _=>rfl
 have F14:=bS (st:=kc) Yo c14 Ti
 have b14:=F14.binds (ps:=["_law_draw","_law_sums_here","_law_more"]) fun _ _ _ _ _ _ us hl=>rS us hl fun _ _ _=>rfl
 have F15:=bS (st:=fM) Yn c15 Th
 have b15:=F15.binds (ps:=["what"]) fun _ _ _ _ _ _ us hl=>rT us hl fun _=>rfl
 have F16:=bS (st:=gp) Ym c16 Py
 have b16:=F16.binds (ps:=["what"]) fun _ _ _ _ _ _ us hl=>rT us hl fun _=>rfl
 have F17:=bS (st:=e8) Yl c17 Tg
 have b17:=F17.binds (ps:=["what"]) fun _ _ _ _ _ _ us hl=>rT us hl fun _=>rfl
 have F18:=bS (st:=gX) Yk c18 Tf
 have b18:=F18.binds (ps:=["lines","what"]) fun _ _ _ _ _ _ us hl=>jQ us hl fun _ _=>rfl
 have F19:=bS (st:=fK) Yj c19 Te
 have b19:=F19.binds (ps:=["lines","pair"]) fun _ _ _ _ _ _ us hl=>jQ us hl fun _ _=>rfl
 have F20:=bS (st:=di) Yi c20 Td
 have b20:=F20.binds (ps:=["total","divisor"]) fun _ _ _ _ _ _ us hl=>jQ us hl fun _ _=>rfl
 have F21:=bS (st:=kg) Yh c21 Tc
 have b21:=F21.binds (ps:=["what"]) fun _ _ _ _ _ _ us hl=>rT us hl fun _=>rfl
 have F22:=bS (st:=gT) Yg c22 SY
 have b22:=F22.binds (ps:=["line"]) fun _ _ _ _ _ _ us hl=>rT us hl fun _=>rfl
 have F23:=bS (st:=gU) Ye c23 SX
 have b23:=F23.binds (ps:=["lines","line"]) fun _ _ _ _ _ _ us hl=>jQ us hl fun _ _=>rfl
 have F24:=bS (st:=jc) Yd c24 SW
 have RC:=F24.binds (ps:=["total","divisor"]) fun _ _ _ _ _ _ us hl=>jQ us hl fun _ _=>rfl
 have F25:=bS (st:=iY) Yc c25 SV
 have b25:=F25.binds (ps:=["lines","line"]) fun _ _ _ _ _ _ us hl=>jQ us hl fun _ _=>rfl
 have F26:=bS (st:=dW) Yb c26 SR
 have b26:=F26.binds (ps:=["lines","line","splits"]) fun _ _ _ _ _ _ us hl=>rS us hl fun _ _ _=>rfl
 have F27:=bS (st:=gq) X8 c27 SQ
 have b27:=F27.binds (ps:=["lines","paper","splits"]) fun _ _ _ _ _ _ us hl=>rS us hl fun _ _ _=>rfl
 have F28:=bS (st:=iW) X7 c28 SO
 have b28:=F28.binds (ps:=["case","paper"]) fun _ _ _ _ _ _ us hl=>jQ us hl fun _ _=>rfl
 have F29:=bS (st:=iZ) X6 c29 SN
 have b29:=F29.binds (ps:=["_law_thing","_law_least"]) fun _ _ _ _ _ _ us hl=>jQ us hl fun _ _=>rfl
 have F30:=bS (st:=m8) X5 c30 SM
 have b30:=F30.binds (ps:=["_law_thing","_law_many"]) fun _ _ _ _ _ _ us hl=>jQ us hl fun _ _=>rfl
 have F31:=bS (st:=i8) X4 c31 SK
 have b31:=F31.binds (ps:=["_law_thing","_law_lines"]) fun _ _ _ _ _ _ us hl=>jQ us hl fun _ _=>rfl
 have F32:=bS (st:=j9) X3 c32 SJ
 have b32:=F32.binds (ps:=["_law_lines","_law_line_here"]) fun _ _ _ _ _ _ us hl=>jQ us hl fun _ _=>rfl
 have F33:=bS (st:=i6) X0 c33 SI
 have b33:=F33.binds (ps:=["_law_case","_law_paper","_law_deep"]) fun _ _ _ _ _ _ us hl=>rS us hl fun _ _ _=>rfl
 have F34:=bS (st:=m9) XZ c34 SH
 have b34:=F34.binds (ps:=["_law_row_here","_law_at","_law_thing"]) fun _ _ _ _ _ _ us hl=>rS us hl fun _ _ _=>rfl
 have F35:=bS (st:=nc) XY c35 SG
 have b35:=F35.binds (ps:=["_law_draw","_law_lines"]) fun _ _ _ _ _ _ us hl=>jQ us hl fun _ _=>rfl
 have F36:=bS (st:=gS) XX c36 SE
 have b36:=F36.binds (ps:=["_law_deep"]) fun _ _ _ _ _ _ us hl=>rT us hl fun _=>rfl
 have F37:=bS (st:=i9) XW c37 SD
 have b37:=F37.binds (ps:=["_law_deep"]) fun _ _ _ _ _ _ us hl=>rT us hl fun _=>rfl
 have F38:=bS (st:=dU) XU c38 SA
 have b38:=F38.binds (ps:=["_law_line_here","_law_draw","_law_lines"]) fun _ _ _ _ _ _ us hl=>rS us hl fun _ _ _=>rfl
 have F39:=bS (st:=gR) XT c39 Sz
 have b39:=F39.binds (ps:=["_law_paper","_law_draw","_law_lines"]) fun _ _ _ _ _ _ us hl=>rS us hl fun _ _ _=>rfl
 have F40:=bS (st:=eZ) XS c40 Sy
 have b40:=F40.binds (ps:=["_law_line_here","_law_draw","_law_lines"]) fun _ _ _ _ _ _ us hl=>rS us hl fun _ _ _=>rfl
 have F41:=bS (st:=i7) XR c41 Sw
 have b41:=F41.binds (ps:=["_law_case","_law_paper","_law_draw"]) fun _ _ _ _ _ _ us hl=>rS us hl fun _ _ _=>rfl
 have F42:=bS (st:=ja) XQ c42 Sv
 have b42:=F42.binds (ps:=["_law_draw","_law_things"]) fun _ _ _ _ _ _ us hl=>jQ us hl fun _ _=>rfl
 have F43:=bS (st:=uY) XO c43 Y3
 refine ⟨PySem.W.fnOf "law" "law" (aV uY) (az uY) (au uY) .none Px QT OW RG Nk QU,fun s v=>.of_eq rfl,fun base _ _=>?_⟩
 have Ca:Mr l.prog w K mg base 1 Cs ["self","terms","number"] (tD Cs):=⟨f1,_,JQ F1 T ,⟨GI,a1,i1,GX⟩,b1⟩
 have dY:Dn l.prog w K mg base 3 "sum_of" ["pairs","number"] (ef Cs):=⟨f5,_,DA F5 T Ca,PySem.W.mg_of X G a5,k5,b5⟩
 have yM:Mt l.prog w K mg base 4 Cs "plus" ["self","other"] (pO Cs):=⟨f2,_,JN F2 T dY,⟨a2,i2,k2⟩,b2⟩
 have yK:Mt l.prog w K mg base 4 Cs "times" ["self","number"] (nW Cs):=⟨f4,_,Gw F4 T dY,⟨a4,i4,k4⟩,b4⟩
 have IM:Mt l.prog w K mg base 5 Cs "less" ["self","other"] (xx Cs):=⟨f3,_,JP F3 T yM yK,⟨a3,i3,k3⟩,b3⟩
 have wI:Dn l.prog w K mg base 1 "_law_mixed" ["_law_cell","_law_k"] rG:=⟨f6,_,Gx F6 T ,PySem.W.mg_of X G a6,k6,b6⟩
 have Ao:Dn l.prog w K mg base 2 "_law_cell_at" ["_law_script","_law_k"] (AA K):=⟨f7,_,AX F7 T wI,PySem.W.mg_of X G a7,k7,b7⟩
 have gO:Dn l.prog w K mg base 2 "_law_next" ["_law_draw","_law_size"] iX:=⟨f8,_,JO F8 T wI,PySem.W.mg_of X G a8,k8,b8⟩
 have qO:Dn l.prog w K mg base 1 "is_number" ["what"] (n5 Cs):=⟨Ql,_,oB (n:=0) F16 T J O ,PySem.W.mg_of X G Uu,Py,b16⟩
 have pF:Dn l.prog w K mg base 1 "is_number" ["what"] xy:=⟨Ql,_,(oB (n:=0) F16 T J O ).imp (fun vs H Q E ⟨j,e,q⟩=>⟨.int j,.sc (.int j),e,cz rfl,q⟩),PySem.W.mg_of X G Uu,Py,b16⟩
 have EZ:Dn l.prog w K mg base 2 "is_term" ["pair"] tw:=⟨f9,_,AV (n:=0) F9 T J pF,PySem.W.mg_of X G a9,k9,b9⟩
 have B0:Dn l.prog w K mg base 1 "is_never" ["total"] (xu Cs):=⟨Uk,_,zp (n:=0) F10 T J ,PySem.W.mg_of X G a10,Tq,b10⟩
 have uR:Dn l.prog w K mg base 1 "turned_terms" ["terms"] xh:=⟨Uj,_,qQ (n:=0) F11 T J ,PySem.W.mg_of X G a11,To,b11⟩
 have yN:Dn l.prog w K mg base 3 "other_side" ["total"] (xr Cs):=⟨Ui,_,u9 (n:=0) F12 T J Ca uR,PySem.W.mg_of X G a12,Tn,b12⟩
 have IP:Dn l.prog w K mg base 4 "_law_sums" ["_law_draw","_law_things","_law_many"] (sY Cs):=⟨Uh,_,DB (n:=0) F13 T J O gO dY,PySem.W.mg_of X G a13,Tj,b13⟩
 have IS:Dn l.prog w K mg base 6 "_law_last" ["_law_draw","_law_sums_here","_law_more"] (tu Cs):=⟨Ug,_,DE (n:=0) F14 T J O gO dY IM yK,PySem.W.mg_of X G a14,Ti,b14⟩
 have gP:Dn l.prog w K mg base 1 "is_several" ["what"] (mX Cs):=⟨Ue,_,vd (n:=0) F15 T J O ,PySem.W.mg_of X G a15,Th,b15⟩
 have mT:Dn l.prog w K mg base 2 "is_from_one" ["what"] (n8 Cs):=⟨Ud,_,tU (n:=0) F17 T J O qO,PySem.W.mg_of X G a17,Tg,b17⟩
 have uS:Dn l.prog w K mg base 2 "is_ahead" ["lines","what"] (xB Cs):=⟨Uc,_,zq (n:=0) F18 T J O qO,PySem.W.mg_of X G a18,Tf,b18⟩
 have yP:Dn l.prog w K mg base 3 "is_weighed" ["lines","pair"] (mW Cs):=⟨Ub,_,vc (n:=0) F19 T J O gP mT uS,PySem.W.mg_of X G a19,Te,b19⟩
 have qB:Dn l.prog w K mg base 1 "can_be_divided" ["total","divisor"] (pR Cs):=⟨Ua,_,oE (n:=0) F20 T J O ,PySem.W.mg_of X G a20,Td,b20⟩
 have Aq:Dn l.prog w K mg base 3 "is_sum" ["what"] (nZ Cs):=⟨T9,_,DF (n:=0) F21 T J O pF EZ,PySem.W.mg_of X G a21,Tc,b21⟩
 have BY:Dn l.prog w K mg base 4 "is_split" ["line"] (m5 Cs):=⟨T8,_,zk (n:=0) F22 T J O gP Aq,PySem.W.mg_of X G a22,SY,b22⟩
 have BZ:Dn l.prog w K mg base 5 "is_right" ["lines","line"] (m6 Cs):=⟨T7,_,zo (n:=0) F23 T J O gP yP uS mT qB,PySem.W.mg_of X G a23,SX,b23⟩
 have E1:Dn l.prog w K mg base 3 "divided" ["total","divisor"] (m7 Cs):=⟨T6,_,AW (n:=0) F24 T J O Ca,PySem.W.mg_of X G a24,SW,RC⟩
 have EU:Dn l.prog w K mg base 4 "line_of" ["lines","line"] (pP Cs):=⟨T5,_,AM (n:=0) F25 T J O dY E1,PySem.W.mg_of X G a25,SV,b25⟩
 have RU:=yk (P:=l.prog) (w:=w) (base:=base) (lv:=fun n=>2*n+10) (sp:=fun n=>vN Cs n) (PySem.W.mg_of X G a27) SQ b27 ZN fun n R=>by
  have rE:Dn l.prog w K mg base (2*n+11) "both_end_well" ["lines","line","splits"] (xA Cs n):=⟨T4,_,p7 (n:=n) F26 T J O yN R,PySem.W.mg_of X G a26,SR,b26⟩
  exact (show (2*n+12)=2*(n+1)+10 by omega) ▸ (xO (n:=n) F27 T J O gP BY rE BZ EU B0)
 have yQ:Dn l.prog w K mg base 52 "ends_well" ["lines","paper","splits"] (vN Cs 21):=RU 21
 have ET:Dn l.prog w K mg base 53 "refutes" ["case","paper"] (mY Cs):=⟨T3,_,AL (n:=0) F28 T J O gP Aq yQ,PySem.W.mg_of X G a28,SO,b28⟩
 have wH:Dn l.prog w K mg base 1 "_law_whole" ["_law_thing","_law_least"] (rF Cs):=⟨TZ,_,AN (n:=0) F29 T J O ,PySem.W.mg_of X G a29,SN,b29⟩
 have Dl:Dn l.prog w K mg base 1 "_law_row" ["_law_thing","_law_many"] (xj Cs):=⟨TY,_,Gy (n:=0) F30 T J O ,PySem.W.mg_of X G a30,SM,b30⟩
 have EW:Dn l.prog w K mg base 2 "_law_place" ["_law_thing","_law_lines"] (xo Cs):=⟨TX,_,AR (n:=0) F31 T J O wH,PySem.W.mg_of X G a31,SK,b31⟩
 have IL:Mt l.prog w K mg base 4 Cs "times" ["self","number"] (sV Cs):=⟨f4,_,Dz (n:=0) F4 T J O dY,⟨a4,i4,k4⟩,b4⟩
 have IQ:Dn l.prog w K mg base 6 "_law_line" ["_law_lines","_law_line_here"] (xw Cs):=⟨f32,_,DC (n:=0) F32 T J O Dl EW wH dY yM IL,PySem.W.mg_of X G a32,SJ,b32⟩
 have RT:=yk (P:=l.prog) (w:=w) (base:=base) (lv:=fun n=>n+8) (sp:=fun n=>jS Cs n) (PySem.W.mg_of X G a33) SI b33 LJ fun n R=>by
  exact (show (n+9)=(n+1)+8 by omega) ▸ (AO (n:=n) F33 T J O IQ Dl dY IM R)
 have BW:Dn l.prog w K mg base 29 "_law_sound" ["_law_case","_law_paper","_law_deep"] (jS Cs 21):=RT 21
 have yO:Dn l.prog w K mg base 1 "_law_put" ["_law_row_here","_law_at","_law_thing"] sW:=⟨TV,_,Gz (n:=0) F34 T J O ,PySem.W.mg_of X G a34,SH,b34⟩
 have KQ:Dn l.prog w K mg base 3 "_law_odd" ["_law_draw","_law_lines"] (FN Cs):=⟨TU,_,GA (n:=0) F35 T J O gO,PySem.W.mg_of X G a35,SG,b35⟩
 have BX:Dn l.prog w K mg base 5 "_law_nested" ["_law_deep"] (Az Cs):=⟨TR,_,zj (n:=0) F36 T J O dY,PySem.W.mg_of X G a36,SE,b36⟩
 have EX:Dn l.prog w K mg base 5 "_law_bushy" ["_law_deep"] (AB Cs):=⟨TQ,_,AS (n:=0) F37 T J O dY,PySem.W.mg_of X G a37,SD,b37⟩
 have rD:Dn l.prog w K mg base 4 "_law_line_spoilt" ["_law_line_here","_law_draw","_law_lines"] (sX Cs):=⟨TN,_,p6 (n:=0) F38 T J O gO KQ yO dY,PySem.W.mg_of X G a38,SA,b38⟩
 have RS:=yk (P:=l.prog) (w:=w) (base:=base) (lv:=fun n=>n+5) (sp:=fun n=>jR Cs n) (PySem.W.mg_of X G a39) Sz b39 Jt fun n R=>by
  exact (show (n+6)=(n+1)+5 by omega) ▸ (zh (n:=n) F39 T J O gO R yO rD dY)
 have An:Dn l.prog w K mg base 7 "_law_spoilt" ["_law_paper","_law_draw","_law_lines"] (jR Cs 2):=RS 2
 have vD:Dn l.prog w K mg base 3 "_law_quiet_add" ["_law_line_here","_law_draw","_law_lines"] (mZ Cs):=⟨TM,_,tT (n:=0) F40 T J O gO,PySem.W.mg_of X G a40,Sy,b40⟩
 have EV:Dn l.prog w K mg base 7 "_law_quiet" ["_law_case","_law_paper","_law_draw"] (xm Cs):=⟨TL,_,AQ (n:=0) F41 T J O gO yO vD dY yM,PySem.W.mg_of X G a41,Sw,b41⟩
 have EY:Dn l.prog w K mg base 8 "_law_built" ["_law_draw","_law_things"] (pQ Cs):=⟨TJ,_,AU (n:=0) F42 T J O gO IP yK yM dY IS,PySem.W.mg_of X G a42,Sv,b42⟩
 exact L4 (n:=0) F43 T J O Ao gO EY dY ET BW BX EX An EV
theorem walk {l:PySem.W.OpenLaw} {q:Program} {loose:List Str} {XP:(Str→Option Value)→Heap→Prop} {YP:World→Heap→Prop} {d:DefRec} {K:Params→PySem.W.Frag} (hn:l.most=some 63) (hdf:d.params.defaults=[])
  (hY:∀ (w:World) (h:Heap),YP w h→(K w.params).In h)
  (F:∀ (w:World) (mg:Str→Option Value) (fa:Addr) (h:Heap),(K w.params).In h→h.Ns mainGlobals mg→mg d.name=some (.ref fa) →
   ∃ fd:FuncData,(∀ (s:Shared) (u:Value),BindsTo s fd ⟨[u],[]⟩ [("_law_script",u)])∧∀ base:Heap,(K w.params).In base→base.Ns mainGlobals mg→cL l.prog w (K w.params) mg base iB 54 fa fd ["_law_script"] (Cq (K w.params))) :
  PySem.W.WalkO q loose XP YP l.row.toRowW d [] (fun f vs=>PySem.call f vs) :=
 L2.Jj (n:=63) (k:=54) (x:="_law_script") (CX:=fun _=>iB) (sp:=fun w=>Cq (K w.params)) hn (by decide) hdf ⟨rfl,by decide,by decide⟩ hY F (fun _ _ a ns hl _ hS=>⟨a,ns,rfl,hS,hl,fun _=>rfl⟩) fun _ _ _ _ _ z=>z
end Hw
open PySem PySem.W PyProof.Rows
def PySem.W.Fast.tw5734059304785171333:Nat:=0
def PySem.W.Fast.tw14236481420569376473:Nat:=0
def PySem.W.Fast.tw9478805323155608832:Nat:=0
def PySem.W.Fast.tw6386678506787872694:Nat:=0
def PySem.W.Fast.tw6929538700115524354:Nat:=0
def PySem.W.Fast.tw6421493460098933584:Nat:=0
def PySem.W.Fast.tw4615500663615174058:Nat:=0
def PySem.W.Fast.tw9631581770472359368:Nat:=0
def PySem.W.Fast.tw6481937591524535083:Nat:=0
def PySem.W.Fast.tw3314889526786665842:Nat:=0
def PySem.W.Fast.tw5802129866399369525:Nat:=0
def PySem.W.Fast.tw16136338054890713412:Nat:=0
def PySem.W.Fast.tw5632840715567571646:Nat:=0
def PySem.W.Fast.tw2250197881675381394:Nat:=0
def PySem.W.Fast.tw11140434230943790234:Nat:=0
def PySem.W.Fast.tw5754251512229328896:Nat:=0
def PySem.W.Fast.tw9427842782676562157:Nat:=0
def PySem.W.Fast.tw7419347882033590081:Nat:=0
def PySem.W.Fast.tw10308326293701998492:Nat:=0
def PySem.W.Fast.tw8969837923881282165:Nat:=0
def PySem.W.Fast.tw12755735803912126278:Nat:=0
def PySem.W.Fast.tw320244064291907191:Nat:=0
def PySem.W.Fast.tw16288047205628089350:Nat:=0
def PySem.W.Fast.tw16748835344499629406:Nat:=0
def PySem.W.Fast.tw14904063410164238521:Nat:=0
def PySem.W.Fast.tw1334005604448625180:Nat:=0
def PySem.W.Fast.tw12540539499192911753:Nat:=0
def PySem.W.Fast.tw16204896765617253363:Nat:=0
def PySem.W.Fast.tw12308818555963268361:Nat:=0
def PySem.W.Fast.tw10965383377213575569:Nat:=0
def PySem.W.Fast.tw2250368079371465650:Nat:=0
def PySem.W.Fast.tw12053868018494182296:Nat:=0
def PySem.W.Fast.tw1855981241365693354:Nat:=0
def PySem.W.Fast.tw4897940321772904898:Nat:=0
def PySem.W.Fast.tw10793187610184895056:Nat:=0
def PySem.W.Fast.tw9723847741693050724:Nat:=0
def PySem.W.Fast.tw13095330116142921894:Nat:=0
def PySem.W.Fast.tw8255219475530997655:Nat:=0
def PySem.W.Fast.tw18218753658929725188:Nat:=0
def PySem.W.Fast.tw1592599447262412641:Nat:=0
def PySem.W.Fast.tw16290505541137042845:Nat:=0
def PySem.W.Fast.tw13784007273238826804:Nat:=0
def PySem.W.Fast.tw4283069849410043746:Nat:=0
def PySem.W.Fast.tw9454555611575003137:Nat:=0
def PySem.W.Fast.tw3746861663559588281:Nat:=0
def PySem.W.Fast.tw2162950264758574130:Nat:=0
def PySem.W.Fast.tw10270013126212448530:Nat:=0
def PySem.W.Fast.tw14242466721223531421:Nat:=0
def PySem.W.Fast.tw3524346577495001901:Nat:=0
def PySem.W.Fast.tw9866817610475529405:Nat:=0
def PySem.W.Fast.tw7267645859021909156:Nat:=0
def PySem.W.Fast.tw2909661962296128360:Nat:=0
def PySem.W.Fast.tw1426053435799324808:Nat:=0
def PySem.W.Fast.tw561009098336643432:Nat:=0
def PySem.W.Fast.tw8390015312693452889:Nat:=0
def PySem.W.Fast.tw17835289312222780937:Nat:=0
def PySem.W.Fast.tw7990607212711503835:Nat:=0
def PySem.W.Fast.tw14225609074209108925:Nat:=0
def PySem.W.Fast.tw5662189124651100652:Nat:=0
def PySem.W.Fast.tw18124874139359058065:Nat:=0
def PySem.W.Fast.tw8085208056957360670:Nat:=0
def PySem.W.Fast.tw5527746818446977776:Nat:=0
def PySem.W.Fast.tw558623126751304933:Nat:=0
def PySem.W.Fast.tw16377799375019927031:Nat:=0
def PySem.W.Fast.tw2506764592809503253:Nat:=0
def PySem.W.Fast.tw3936212298078365280:Nat:=0
def PySem.W.Fast.tw5746818282317155924:Nat:=0
def PySem.W.Fast.tw11859220473243871216:Nat:=0
def PySem.W.Fast.tw6230639206209410436:Nat:=0
def PySem.W.Fast.tw12685447274133408359:Nat:=0
def PySem.W.Fast.tw18040570525571901713:Nat:=0
def PySem.W.Fast.tw16295205077896976027:Nat:=0
def PySem.W.Fast.tw7342465769791367026:Nat:=0
def PySem.W.Fast.tw14683783445434028297:Nat:=0
def PySem.W.Fast.tw13831002536533112034:Nat:=0
def PySem.W.Fast.tw5575480669651317197:Nat:=0
def PySem.W.Fast.tw271805633192199824:Nat:=0
def PySem.W.Fast.tw11948265137296130542:Nat:=0
def PySem.W.Fast.tw17269240271887716101:Nat:=0
def PySem.W.Fast.tw16821390807439387409:Nat:=0
def PySem.W.Fast.tw17566487533384944752:Nat:=0
def PySem.W.Fast.tw9972726246373071487:Nat:=0
def PySem.W.Fast.tw5974913424740416521:Nat:=0
def PySem.W.Fast.tw2367994821064552766:Nat:=0
def PySem.W.Fast.tw11719682630943033962:Nat:=0
def PySem.W.Fast.tw13100974053601812724:Nat:=0
def PySem.W.Fast.tw9029591799700224239:Nat:=0
def PySem.W.Fast.tw7883729933421507568:Nat:=0
def PySem.W.Fast.tw1421345233578974450:Nat:=0
def PySem.W.Fast.tw16159414069559694941:Nat:=0
def PySem.W.Fast.tw17015635697597593859:Nat:=0
def PySem.W.Fast.tw16935197040703120832:Nat:=0
def PySem.W.Fast.tw11996224678413424266:Nat:=0
def PySem.W.Fast.tw6475736221550907718:Nat:=0
def PySem.W.Fast.tw4385213065175279095:Nat:=0
def PySem.W.Fast.tw3545214918308804291:Nat:=0
def PySem.W.Fast.tw17954128677171866579:Nat:=0
def PySem.W.Fast.tw2823653299859412259:Nat:=0
def PySem.W.Fast.tw2729026032876336272:Nat:=0
def PySem.W.Fast.tw12626454552484313999:Nat:=0
def PySem.W.Fast.tw14346405303296464556:Nat:=0
def PySem.W.Fast.tw14623247424626392:Nat:=0
def PySem.W.Fast.tw2965661622012243897:Nat:=0
def PySem.W.Fast.tw13080095133100544655:Nat:=0
def PySem.W.Fast.tw1595545551951296067:Nat:=0
def PySem.W.Fast.tw9074557663797712154:Nat:=0
def PySem.W.Fast.tw5534184122362708997:Nat:=0
def PySem.W.Fast.tw15755865197449900801:Nat:=0
def PySem.W.Fast.tw17053419308895960679:Nat:=0
def PySem.W.Fast.tw8936930033279178418:Nat:=0
def PySem.W.Fast.tw13563183342654994010:Nat:=0
def PySem.W.Fast.tw8593760531182484432:Nat:=0
def PySem.W.Fast.tw2449889968295389428:Nat:=0
def PySem.W.Fast.tw10778836390059779342:Nat:=0
def PySem.W.Fast.tw5817771869828189330:Nat:=0
def PySem.W.Fast.tw11981556695890836980:Nat:=0
def PySem.W.Fast.tw2726754078420180577:Nat:=0
def PySem.W.Fast.tw13449565851915806400:Nat:=0
def PySem.W.Fast.tw15706779675950200163:Nat:=0
def PySem.W.Fast.tw18206063064086329801:Nat:=0
def PySem.W.Fast.tw13086861229177125188:Nat:=0
def PySem.W.Fast.tw3156623823375493097:Nat:=0
def PySem.W.Fast.tw15253960106969565701:Nat:=0
def PySem.W.Fast.tw18081667433459928400:Nat:=0
def PySem.W.Fast.tw4249247630900659464:Nat:=0
def PySem.W.Fast.tw12035400625646802823:Nat:=0
def PySem.W.Fast.tw1176752445528800454:Nat:=0
def PySem.W.Fast.tw8532207178366605011:Nat:=0
def PySem.W.Fast.tw14516899074026796097:Nat:=0
def PySem.W.Fast.tw2615961248077061653:Nat:=0
def PySem.W.Fast.tw684015700121170792:Nat:=0
def PySem.W.Fast.tw2259107162418261229:Nat:=0
def PySem.W.Fast.tw3460334044851009488:Nat:=0
def PySem.W.Fast.tw4731216042188169454:Nat:=0
def PySem.W.Fast.tw17398873904639666372:Nat:=0
def PySem.W.Fast.tw14882896333691870520:Nat:=0
def PySem.W.Fast.tw5849642275039810751:Nat:=0
def PySem.W.Fast.tw3487435925137125010:Nat:=0
def PySem.W.Fast.tw2564790615036225315:Nat:=0
def PySem.W.Fast.tw16302323894566853484:Nat:=0
def PySem.W.Fast.tw12337956255366264944:Nat:=0
def PySem.W.Fast.tw14711816294064869505:Nat:=0
def PySem.W.Fast.tw12734205131934042947:Nat:=0
def PySem.W.Fast.tw7002647770274944159:Nat:=0
def PySem.W.Fast.tw2378238869174858983:Nat:=0
def PySem.W.Fast.tw9725943121094552753:Nat:=0
def PySem.W.Fast.tw13462621759355072863:Nat:=0
def PySem.W.Fast.tw17123356097591243621:Nat:=0
def PySem.W.Fast.tw4749484340143846563:Nat:=0
def PySem.W.Fast.tw7461565045633684612:Nat:=0
set_option maxRecDepth 100000 in
set_option maxHeartbeats 0 in
theorem PySem.Challenge.cw_holdwright_k38_papers_looked_at_holds : PySem.Challenge.rw_holdwright_k38_papers_looked_at.Holds := by
 w_on;o_law;k_head;(case hw=>w_witness2)
 k_fill
 refine Hw.walk (l:=PySem.Challenge.rw_holdwright_k38_papers_looked_at) rfl rfl (fun w h Y=>PySem.W.kIn_of Y) ?F
 case F =>
  intro w mg fa h KX G hmg
  refine' Hw.all_mk KX G hmg ?ME ?Gj ?G8 ?Gg ?FW ?GI ?GX ?a1 ?i1 ?l1 ?c1 ?k1 ?a2 ?i2 ?l2 ?c2 ?k2 ?a3 ?i3 ?l3 ?c3 ?k3 ?a4 ?i4 ?l4 ?c4 ?k4 ?a5 ?l5 ?c5 ?k5 ?a6 ?l6 ?c6 ?k6 ?a7 ?l7 ?c7 ?k7 ?a8 ?l8 ?c8 ?k8 ?a9 ?l9 ?c9 ?k9 ?a10 ?K9 ?c10 ?Tq ?a11 ?Yr ?c11 ?To ?a12 ?Yq ?c12 ?Tn ?a13 ?Yp ?c13 ?Tj ?a14 ?Yo ?c14 ?Ti ?a15 ?Yn ?c15 ?Th ?Uu ?Ym ?c16 ?Py ?a17 ?Yl ?c17 ?Tg ?a18 ?Yk ?c18 ?Tf ?a19 ?Yj ?c19 ?Te ?a20 ?Yi ?c20 ?Td ?a21 ?Yh ?c21 ?Tc ?a22 ?Yg ?c22 ?SY ?a23 ?Ye ?c23 ?SX ?a24 ?Yd ?c24 ?SW ?a25 ?Yc ?c25 ?SV ?a26 ?Yb ?c26 ?SR ?a27 ?X8 ?c27 ?SQ ?a28 ?X7 ?c28 ?SO ?a29 ?X6 ?c29 ?SN ?a30 ?X5 ?c30 ?SM ?a31 ?X4 ?c31 ?SK ?a32 ?X3 ?c32 ?SJ ?a33 ?X0 ?c33 ?SI ?a34 ?XZ ?c34 ?SH ?a35 ?XY ?c35 ?SG ?a36 ?XX ?c36 ?SE ?a37 ?XW ?c37 ?SD ?a38 ?XU ?c38 ?SA ?a39 ?XT ?c39 ?Sz ?a40 ?XS ?c40 ?Sy ?a41 ?XR ?c41 ?Sw ?a42 ?XQ ?c42 ?Sv ?a43 ?XO ?c43 ?Y3 ?nB ?lH ?Fi ?Fe ?rW ?Av ?wJ ?j3 ?wK ?Fo ?Ff ?Fj ?Aw ?Fl ?Fg ?lB ?Ax ?Lv ?Ls ?Lw ?Lu ?Jf ?Lq ?Lr ?j7 ?j6 ?j5 ?wU ?wQ ?wN ?su ?sj ?rZ ?wR ?wO ?wM ?Fw ?Fv ?sr ?se ?rY ?pM ?pL ?pK ?j4 ?wL ?rX ?pJ ?Fp ?Fq ?Ft
  (case ME=>k_is)
  (case Gj=>k_is)
  (case G8=>k_is)
  (case Gg=>k_is)
  (case FW=>k_is)
  (case GI=>k_is)
  (case GX=>k_is)
  (case a1=>k_is)
  (case i1=>k_is)
  (case l1=>k_is)
  (case c1=>k_is)
  (case k1=>k_is)
  (case a2=>k_is)
  (case i2=>k_is)
  (case l2=>k_is)
  (case c2=>k_is)
  (case k2=>k_is)
  (case a3=>k_is)
  (case i3=>k_is)
  (case l3=>k_is)
  (case c3=>k_is)
  (case k3=>k_is)
  (case a4=>k_is)
  (case i4=>k_is)
  (case l4=>k_is)
  (case c4=>k_is)
  (case k4=>k_is)
  (case a5=>k_is)
  (case l5=>k_is)
  (case c5=>k_is)
  (case k5=>k_is)
  (case a6=>k_is)
  (case l6=>k_is)
  (case c6=>k_is)
  (case k6=>k_is)
  (case a7=>k_is)
  (case l7=>k_is)
  (case c7=>k_is)
  (case k7=>k_is)
  (case a8=>k_is)
  (case l8=>k_is)
  (case c8=>k_is)
  (case k8=>k_is)
  (case a9=>k_is)
  (case l9=>k_is)
  (case c9=>k_is)
  (case k9=>k_is)
  (case a10=>k_is)
  (case K9=>k_is)
  (case c10=>k_is)
  (case Tq=>k_is)
  (case a11=>k_is)
  (case Yr=>k_is)
  (case c11=>k_is)
  (case To=>k_is)
  (case a12=>k_is)
  (case Yq=>k_is)
  (case c12=>k_is)
  (case Tn=>k_is)
  (case a13=>k_is)
  (case Yp=>k_is)
  (case c13=>k_is)
  (case Tj=>k_is)
  (case a14=>k_is)
  (case Yo=>k_is)
  (case c14=>k_is)
  (case Ti=>k_is)
  (case a15=>k_is)
  (case Yn=>k_is)
  (case c15=>k_is)
  (case Th=>k_is)
  (case Uu=>k_is)
  (case Ym=>k_is)
  (case c16=>k_is)
  (case Py=>k_is)
  (case a17=>k_is)
  (case Yl=>k_is)
  (case c17=>k_is)
  (case Tg=>k_is)
  (case a18=>k_is)
  (case Yk=>k_is)
  (case c18=>k_is)
  (case Tf=>k_is)
  (case a19=>k_is)
  (case Yj=>k_is)
  (case c19=>k_is)
  (case Te=>k_is)
  (case a20=>k_is)
  (case Yi=>k_is)
  (case c20=>k_is)
  (case Td=>k_is)
  (case a21=>k_is)
  (case Yh=>k_is)
  (case c21=>k_is)
  (case Tc=>k_is)
  (case a22=>k_is)
  (case Yg=>k_is)
  (case c22=>k_is)
  (case SY=>k_is)
  (case a23=>k_is)
  (case Ye=>k_is)
  (case c23=>k_is)
  (case SX=>k_is)
  (case a24=>k_is)
  (case Yd=>k_is)
  (case c24=>k_is)
  (case SW=>k_is)
  (case a25=>k_is)
  (case Yc=>k_is)
  (case c25=>k_is)
  (case SV=>k_is)
  (case a26=>k_is)
  (case Yb=>k_is)
  (case c26=>k_is)
  (case SR=>k_is)
  (case a27=>k_is)
  (case X8=>k_is)
  (case c27=>k_is)
  (case SQ=>k_is)
  (case a28=>k_is)
  (case X7=>k_is)
  (case c28=>k_is)
  (case SO=>k_is)
  (case a29=>k_is)
  (case X6=>k_is)
  (case c29=>k_is)
  (case SN=>k_is)
  (case a30=>k_is)
  (case X5=>k_is)
  (case c30=>k_is)
  (case SM=>k_is)
  (case a31=>k_is)
  (case X4=>k_is)
  (case c31=>k_is)
  (case SK=>k_is)
  (case a32=>k_is)
  (case X3=>k_is)
  (case c32=>k_is)
  (case SJ=>k_is)
  (case a33=>k_is)
  (case X0=>k_is)
  (case c33=>k_is)
  (case SI=>k_is)
  (case a34=>k_is)
  (case XZ=>k_is)
  (case c34=>k_is)
  (case SH=>k_is)
  (case a35=>k_is)
  (case XY=>k_is)
  (case c35=>k_is)
  (case SG=>k_is)
  (case a36=>k_is)
  (case XX=>k_is)
  (case c36=>k_is)
  (case SE=>k_is)
  (case a37=>k_is)
  (case XW=>k_is)
  (case c37=>k_is)
  (case SD=>k_is)
  (case a38=>k_is)
  (case XU=>k_is)
  (case c38=>k_is)
  (case SA=>k_is)
  (case a39=>k_is)
  (case XT=>k_is)
  (case c39=>k_is)
  (case Sz=>k_is)
  (case a40=>k_is)
  (case XS=>k_is)
  (case c40=>k_is)
  (case Sy=>k_is)
  (case a41=>k_is)
  (case XR=>k_is)
  (case c41=>k_is)
  (case Sw=>k_is)
  (case a42=>k_is)
  (case XQ=>k_is)
  (case c42=>k_is)
  (case Sv=>k_is)
  (case a43=>k_is)
  (case XO=>k_is)
  (case c43=>k_is)
  (case Y3=>k_is)
  (case nB=>k_is)
  (case lH=>k_is)
  (case Fi=>k_is)
  (case Fe=>k_is)
  (case rW=>k_is)
  (case Av=>k_is)
  (case wJ=>k_is)
  (case j3=>k_is)
  (case wK=>k_is)
  (case Fo=>k_is)
  (case Ff=>k_is)
  (case Fj=>k_is)
  (case Aw=>k_is)
  (case Fl=>k_is)
  (case Fg=>k_is)
  (case lB=>k_is)
  (case Ax=>k_is)
  (case Lv=>k_is)
  (case Ls=>k_is)
  (case Lw=>k_is)
  (case Lu=>k_is)
  (case Jf=>kit_is)
  (case Lq=>kit_is)
  (case Lr=>k_is)
  (case j7=>kit_is)
  (case j6=>kit_is)
  (case j5=>kit_is)
  (case wU=>kit_is)
  (case wQ=>kit_is)
  (case wN=>kit_is)
  (case su=>kit_is)
  (case sj=>kit_is)
  (case rZ=>kit_is)
  (case wR=>kit_is)
  (case wO=>kit_is)
  (case wM=>kit_is)
  (case Fw=>kit_is)
  (case Fv=>kit_is)
  (case sr=>kit_is)
  (case se=>kit_is)
  (case rY=>kit_is)
  (case pM=>kit_is)
  (case pL=>kit_is)
  (case pK=>kit_is)
  (case j4=>kit_is)
  (case wL=>kit_is)
  (case rX=>kit_is)
  (case pJ=>kit_is)
  (case Fp=>kit_is)
  (case Fq=>kit_is)
  (case Ft=>kit_is)
#print axioms PySem.Challenge.cw_holdwright_k38_papers_looked_at_holds
