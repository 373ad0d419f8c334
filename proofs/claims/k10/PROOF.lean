import PyProof.Rows.All
import Wide.All
import OpenK.AllK
import Wide.FinOn
import Lean
import PyProof.EqAt
import PyProof.EqKinds
import PyProof.TupleCall
import PySem.Spec
import PyProof.NeKinds
import KE.KDictList
import KE.KPairComp
import PyProof.DictWalks
import PyProof.FString5
import PyProof.StrLawsIn
import PyProof.Rows.SetFrom
import PyProof.ExcClass3
import PyProof.ExcInit
import PyProof.ExcBaseAll.ValueError
import OpenK.KMore
import PyProof.RaisesMany
import PyProof.ExcAttrAll.ValueError
import KE.KIsAll
import PyProof.RulesAs
import PySem.Challenge.RW_holdwright_k10_steps_tell
set_option Elab.async false
set_option linter.all false
set_option maxRecDepth 100000
namespace L2
open PySem PySem.Spec PyProof.Rows
abbrev Key:=Sum Int Str
def uo:Key→Value→Bool
 | .inl k,v=>Value.isInt k v
 | .inr x,v=>Value.isStrOf x v
def a1A (w:World):Key→Int
 | .inl k=>hashInt k
 | .inr x=>hashStr w x
theorem dU:∀{k:Key} {v:Value},uo k v=true→(∃i t,k=Sum.inl i∧v=Value.int i t)∨(∃x t,k=Sum.inr x∧v=Value.str x t)
 | .inl i,v,h=>by
  obtain ⟨t,e⟩:=Value.isInt_shape (k:=i) (v:=v) h
  exact .inl ⟨i,t,rfl,e⟩
 | .inr x,v,h=>by
  obtain ⟨t,e⟩:=Value.isStrOf_shape (x:=x) (v:=v) h
  exact .inr ⟨x,t,rfl,e⟩
theorem Dk (i:Int) (t:Tok):uo (.inl i) (.int i t)=true:=by simp [uo,Value.isInt]
theorem Dj (x:Str) (t:Tok):uo (.inr x) (.str x t)=true:=by simp [uo,Value.isStrOf]
theorem Nz (a b:Int):decide ((Sum.inl a:Key)=Sum.inl b)=(a == b):=by
 by_cases e:a=b
 ·subst e;simp
 ·have h:¬(Sum.inl a:Key)=Sum.inl b:=fun q=>e (Sum.inl.inj q)
  rw [decide_eq_false h]
  exact (beq_eq_false_iff_ne.mpr e).symm
theorem Nv (a b:Str):decide ((Sum.inr a:Key)=Sum.inr b)=decide (a=b):=by
 by_cases e:a=b
 ·subst e;simp
 ·have h:¬(Sum.inr a:Key)=Sum.inr b:=fun q=>e (Sum.inr.inj q)
  rw [decide_eq_false h,decide_eq_false e]
theorem Ny (a:Int) (b:Str):decide ((Sum.inl a:Key)=Sum.inr b)=false:=decide_eq_false (fun q=>nomatch q)
theorem Nx (a:Str) (b:Int):decide ((Sum.inr a:Key)=Sum.inl b)=false:=decide_eq_false (fun q=>nomatch q)
def fj (prog:Program) (w:World):PySem.KeyKind prog w Key where
 is:=uo
 hash:=a1A w
 inj:=fun v a b ha hb=>by
  rcases dU ha with ⟨i,t,rfl,rfl⟩ | ⟨x,t,rfl,rfl⟩
  ·rcases dU hb with ⟨j,u,rfl,e⟩ | ⟨y,u,rfl,e⟩
   ·injection e with e1 _;rw [e1]
   ·exact nomatch e
  ·rcases dU hb with ⟨j,u,rfl,e⟩ | ⟨y,u,rfl,e⟩
   ·exact nomatch e
   ·injection e with e1 _;rw [e1]
 byValue:=fun k v h=>by
  rcases dU h with ⟨i,t,rfl,rfl⟩ | ⟨x,t,rfl,rfl⟩<;>rfl
 pyHash:=fun hv h=>by
  rcases dU hv with ⟨i,t,rfl,rfl⟩ | ⟨x,t,rfl,rfl⟩
  ·exact wpAny_pyHash_int h
  ·exact wpAny_pyHash_str h
 eqBool:=fun hu hv h=>by
  rcases dU hu with ⟨i,t,rfl,rfl⟩ | ⟨x,t,rfl,rfl⟩
  ·rcases dU hv with ⟨j,u,rfl,rfl⟩ | ⟨y,u,rfl,rfl⟩
   ·rw [Nz] at h;exact wpAny_eqBool_int h
   ·rw [Ny] at h;exact SeqAt.EqAt.int_str i t y u _ _ _ _ h
  ·rcases dU hv with ⟨j,u,rfl,rfl⟩ | ⟨y,u,rfl,rfl⟩
   ·rw [Nx] at h;exact SeqAt.EqAt.str_int x t j u _ _ _ _ h
   ·rw [Nv] at h;exact wpAny_eqBool_str h
 «strs»:=fun k x t v h=>by
  rcases dU h with ⟨i,u,rfl,e⟩ | ⟨y,u,rfl,e⟩
  ·exact nomatch e
  ·injection e with e1 _
   subst e1
   cases v<;>rfl
theorem xW (prog:Program) (w:World) (i:Int) (t:Tok):(fj prog w).is (.inl i) (.int i t)=true:=Dk i t
theorem xV (prog:Program) (w:World) (x:Str) (t:Tok):(fj prog w).is (.inr x) (.str x t)=true:=Dj x t
end L2
namespace L2
open PySem PySem.Spec PyProof.Rows
inductive V where
 | dM | bl (b:Bool) | int (i:Int) | str (x:Str) | Ed (b:Array UInt8) | N4 (b:UInt64) | ref (a:Addr) | ty (n:String)
 deriving DecidableEq
def RelV:V→Value→Prop
 | .dM,u=>u=Value.none
 | .bl b,u=>u=Value.bool b
 | .int i,u=>∃t,u=Value.int i t
 | .str x,u=>∃t,u=Value.str x t
 | .Ed b,u=>∃t,u=Value.bytes b t
 | .N4 b,u=>∃t,u=Value.float b t
 | .ref a,u=>u=Value.ref a
 | .ty n,u=>u=Value.type n
abbrev Vals:List V→List Value→Prop:=Paired RelV
theorem Vals.length {xs:List V} {us:List Value} (r:Vals xs us):xs.length=us.length:=Paired.length r
theorem Vals.get:∀{xs:List V} {us:List Value} {i:Nat} {x:V},Vals xs us→xs[i]?=some x→∃u,us[i]?=some u∧RelV x u
 | _,_,_,_,.nil,e=>by simp at e
 | _,_,0,_,.cons r _,e=>by simp at e;subst e;exact ⟨_,rfl,r⟩
 | _,_,i+1,x,.cons _ t,e=>by
  obtain ⟨u,h1,h2⟩:=Vals.get (i:=i) (x:=x) t (by simpa using e)
  exact ⟨u,by simpa using h1,h2⟩
theorem Vals.set {x:V} {u:Value} (r:RelV x u):∀{xs:List V} {us:List Value} (i:Nat),Vals xs us→Vals (xs.set i x) (us.set i u)
 | _,_,_,.nil=>.nil
 | _,_,0,.cons _ t=>.cons r t
 | _,_,i+1,.cons q t=>.cons q (Vals.set r i t)
theorem Vals.append:∀{xs ys:List V} {us ws:List Value},Vals xs us→Vals ys ws→Vals (xs++ys) (us++ws)
 | _,_,_,_,.nil,s=>s
 | _,_,_,_,.cons r t,s=>.cons r (Vals.append t s)
theorem Vals.take:∀{xs:List V} {us:List Value} (n:Nat),Vals xs us→Vals (xs.take n) (us.take n)
 | _,_,0,_=>.nil
 | _,_,_+1,.nil=>.nil
 | _,_,n+1,.cons r t=>.cons r (Vals.take n t)
theorem Vals.drop:∀{xs:List V} {us:List Value} (n:Nat),Vals xs us→Vals (xs.drop n) (us.drop n)
 | _,_,0,r=>r
 | _,_,_+1,.nil=>.nil
 | _,_,n+1,.cons _ t=>Vals.drop n t
def kI:Option V→Option Value→Prop
 | some v,some u=>RelV v u
 | none,none=>True
 | _,_=>False
def KV {κ:Type}:List (κ×V)→List (κ×Value)→Prop:=Paired fun (p:κ×V) (q:κ×Value)=>p.1=q.1∧RelV p.2 q.2
def kV:Key→V
 | .inl i=>.int i
 | .inr x=>.str x
inductive HO where
 | lst (xs:List V)
 | tup (xs:List V)
 | dK (kvs:List (Key×V)) | dT (kvs:List (List Key×V))
 | set (S:Int→Bool) (n:Nat)
 | ins (C dx:Addr) (fs:List (Str×V))
 | own (x:Addr)
 | xd (fs:List (Str×V))
 | met (f x:Addr)
 | Tu (lo hi:Int)
 | Bx (o:Obj) (u:HO)
 | Lm (ps:Array Value)
 | ext (φ:Heap→Prop)
abbrev Hp:=Addr→Option HO
def upd (H:Hp) (a:Addr) (o:HO):Hp:=fun b=>if b=a then some o else H b
theorem af {H:Hp} {a:Addr} {o:HO}:upd H a o a=some o:=by unfold upd;rw [if_pos rfl]
theorem aY {H:Hp} {a b:Addr} {o:HO} (h:b≠a):upd H a o b=H b:=by unfold upd;rw [if_neg h]
theorem BK {H:Hp} {a:Addr} {o u:HO}:upd (upd H a o) a u=upd H a u:=by
 funext b;unfold upd;split<;>rfl
theorem vq {H:Hp} {a b:Addr} {o u:HO} (h:H a=some o) (h':H b=some u) (d:o≠u):a≠b:=by
 intro e;subst e;rw [h] at h';exact d (Option.some.inj h')
theorem aE {H:Hp} {a b:Addr} {o:HO} (h:H a=some o) (h':H b=none):a≠b:=by
 intro e;subst e;rw [h] at h';cases h'
section
variable (P:Program) (w:World)
def eO (H:Hp) (h:Heap) (a:Addr):HO→Prop
 | .lst xs=>xs.length≤sizeLine∧∃(its:List Value) (n:Nat),Vals xs its∧h.get? a=some { cls:=.type "list",data:=.seq its.toArray n }
 | .tup xs=>xs.length≤sizeLine∧∃its:List Value,Vals xs its∧IsTup h a its.toArray
 | .dK kvs=>kvs.length≤sizeLine∧(a == sysModules)=false∧∃vs,KV kvs vs∧h.DictOf (fj P w) a vs
 | .dT kvs=>kvs.length≤sizeLine∧(a == sysModules)=false∧∃xs:List (List Key×Addr×Value),
   Paired (fun (p:List Key×V) (q:List Key×Addr×Value)=>p.1=q.1∧H q.2.1=some (.tup (p.1.map kV))∧RelV p.2 q.2.2) kvs xs ∧
   ∃o es ep,h.get? a=some o∧o.ExactDict∧o.data=.dict es ep∧es.toList=xs.map (entryOfKey (tupleKind (fj P w)))∧(xs.map (·.1)).Nodup
 | .set S n=>h.SetOf (intKind P w) a S n
 | .ins C dx fs=>H dx=some (.own a)∧fs.length≤1000∧dx≠a∧h.get? a=some (PySem.W.instObj C dx) ∧
   ∃mA,h.Ns1 dx mA∧(∀f,kI (fs.lookup f) (mA f))∧PySem.Within mA (fs.map (·.1))
 | .own _=>∃o,h.get? a=some o
 | .xd fs=>∃mA,h.Ns1 a mA∧∀f,kI (fs.lookup f) (mA f)
 | .Tu lo hi=>∃t u v,h.get? a=some { cls:=.type "range",data:=.fields #[.int lo t,.int hi u,.int 1 v] }
 | .Bx o u=>h.get? a=some o∧eO H h a u
 | .Lm ps=>h.get? a=some { cls:=.none,data:=.fields ps }
 | .met f x=>h.get? a=some (PySem.W.methodObj (.ref f) (.ref x))
 | .ext φ=>φ h∧(∃o,h.get? a=some o)∧∀h1 h2:Heap,φ h1→(∀o,h1.get? a=some o→h2.get? a=some o)→φ h2
def nW (H:Hp) (h:Heap):Prop:=∀a o,H a=some o→eO P w H h a o
end
section
variable {P:Program} {w:World} {H H':Hp} {h h':Heap} {a:Addr} {o:HO}
theorem eO.lt (x:eO P w H h a o):a<h.objs.size:=by
 cases o with
 | lst xs=>obtain ⟨_,_,_,_,e⟩:=x;exact Heap.lt_size e
 | tup xs=>obtain ⟨_,_,_,p⟩:=x;exact p.lt
 | dK kvs=>obtain ⟨_,_,_,_,o,_,_,e,_⟩:=x;exact Heap.lt_size e
 | dT kvs=>obtain ⟨_,_,_,_,o,_,_,e,_⟩:=x;exact Heap.lt_size e
 | set S n=>obtain ⟨o,_,_,_,e,_⟩:=x;exact Heap.lt_size e
 | ins C dx fs=>obtain ⟨_,_,_,e,_⟩:=x;exact Heap.lt_size e
 | own y=>obtain ⟨_,e⟩:=x;exact Heap.lt_size e
 | xd fs=>obtain ⟨_,⟨_,_,_,e,_⟩,_⟩:=x;exact Heap.lt_size e
 | Tu lo hi=>obtain ⟨_,_,_,e⟩:=x;exact Heap.lt_size e
 | Bx ob u=>obtain ⟨e,_⟩:=x;exact Heap.lt_size e
 | Lm ps=>exact Heap.lt_size (show h.get? a=some _ from x)
 | met f y=>exact Heap.lt_size (show h.get? a=some _ from x)
 | ext φ=>obtain ⟨_,⟨_,e⟩,_⟩:=x;exact Heap.lt_size e
theorem Paired.cQ {α β:Type} {F G:α→β→Prop}:∀{l₁:List α} {l₂:List β},Paired F l₁ l₂→(∀a b,F a b→G a b)→Paired G l₁ l₂
 | _,_,.nil,_=>.nil
 | _,_,.cons r t,f=>.cons (f _ _ r) (Paired.cQ t f)
theorem eO.stay (x:eO P w H h a o) (k:∀b u,(b=a∨H b=some (.own a))→h.get? b=some u→h'.get? b=some u)
  (ho:∀b,H b=some (.own a)→H' b=some (.own a)) (ht:∀b xs,H b=some (.tup xs)→H' b=some (.tup xs)):eO P w H' h' a o:=by
 induction o with
 | lst xs=>obtain ⟨z,its,n,r,e⟩:=x;exact ⟨z,its,n,r,k _ _ (.inl rfl) e⟩
 | tup xs=>obtain ⟨z,its,r,ob,e,c⟩:=x;exact ⟨z,its,r,ob,k _ _ (.inl rfl) e,c⟩
 | dK kvs=>obtain ⟨z,y,vs,r,ob,es,ep,e,c⟩:=x;exact ⟨z,y,vs,r,ob,es,ep,k _ _ (.inl rfl) e,c⟩
 | dT kvs =>
  obtain ⟨z,y,xs,r,ob,es,ep,e,c⟩:=x
  exact ⟨z,y,xs,Paired.cQ r fun p q z=>⟨z.1,ht _ _ z.2.1,z.2.2⟩,ob,es,ep,k _ _ (.inl rfl) e,c⟩
 | set S n=>obtain ⟨ob,es,ep,t,e,c⟩:=x;exact ⟨ob,es,ep,t,k _ _ (.inl rfl) e,c⟩
 | ins C dx fs =>
  obtain ⟨d,z,ne,e,mA,⟨od,es,ep,e2,c⟩,r⟩:=x
  exact ⟨ho _ d,z,ne,k _ _ (.inl rfl) e,mA,⟨od,es,ep,k _ _ (.inr d) e2,c⟩,r⟩
 | own y=>obtain ⟨ob,e⟩:=x;exact ⟨ob,k _ _ (.inl rfl) e⟩
 | xd fs=>obtain ⟨mA,⟨od,es,ep,e,c⟩,r⟩:=x;exact ⟨mA,⟨od,es,ep,k _ _ (.inl rfl) e,c⟩,r⟩
 | Tu lo hi=>obtain ⟨t,u,v,e⟩:=x;exact ⟨t,u,v,k _ _ (.inl rfl) e⟩
 | Bx ob u ih=>obtain ⟨e,q⟩:=x;exact ⟨k _ _ (.inl rfl) e,ih q⟩
 | Lm ps =>
  have e:h.get? a=some { cls:=.none,data:=.fields ps }:=x
  show h'.get? a=some { cls:=.none,data:=.fields ps }
  exact k a _ (.inl rfl) e
 | met f y =>
  have e:h.get? a=some (PySem.W.methodObj (.ref f) (.ref y)):=x
  show h'.get? a=some (PySem.W.methodObj (.ref f) (.ref y))
  exact k a _ (.inl rfl) e
 | ext φ=>obtain ⟨p,⟨o,e⟩,st⟩:=x;exact ⟨st _ _ p fun o q=>k _ _ (.inl rfl) q,⟨o,k _ _ (.inl rfl) e⟩,st⟩
theorem nW.lt (x:nW P w H h) (e:H a=some o):a<h.objs.size:=(x a o e).lt
theorem nW.fresh (x:nW P w H h) (e:h.objs.size≤a):H a=none:=by
 cases q:H a with
 | none=>rfl
 | some u=>exact absurd (Nat.lt_of_lt_of_le (x.lt q) e) (Nat.lt_irrefl _)
theorem nW.kept (x:nW P w H h) (k:∀b u,h.get? b=some u→h'.get? b=some u):nW P w H h':=fun a o e =>
 (x a o e).stay (fun b u _ q=>k b u q) (fun _ q=>q) fun _ _ q=>q
theorem nW.laid (x:nW P w H h) (k:∀b u,h.get? b=some u→h'.get? b=some u) (hp:h.objs.size≤a) (new:eO P w (upd H a o) h' a o):nW P w (upd H a o) h':=fun b u e=>by
 have hn:=x.fresh hp
 by_cases hb:b=a
 ·subst hb;rw [af] at e;cases e;exact new
 ·rw [aY hb] at e
  exact (x b u e).stay (fun c v _ q=>k c v q) (fun c q=>by rw [aY (aE q hn)];exact q) fun c xs q=>by rw [aY (aE q hn)];exact q
end
def Rd (H:Hp) (a:Addr) (u:HO):Prop:=H a=some u∨∃o,H a=some (.Bx o u)
theorem Rd.ok {P:Program} {w:World} {H:Hp} {h:Heap} {a:Addr} {u:HO} (r:Rd H a u) (x:nW P w H h):eO P w H h a u:=by
 rcases r with r | ⟨o,r⟩
 ·exact x a u r
 ·obtain ⟨_,q⟩:=x a _ r
  exact q
def SM:Option HO→Prop
 | some (.lst _)=>True
 | some (.dK _)=>True
 | some (.dT _)=>True
 | some (.set _ _)=>True
 | some (.ins _ _ _)=>True
 | some (.ext _)=>True
 | _=>False
section
variable {P:Program} {w:World} {H:Hp} {h h':Heap} {x e:Addr} {o':HO}
theorem nW.write (ok:nW P w H h) (mu:SM (H x)) (he:e=x∨H e=some (.own x)) (k:∀b u,b≠e→h.get? b=some u→h'.get? b=some u) (OP:∃u,h'.get? e=some u)
  (new:eO P w (upd H x o') h' x o'):nW P w (upd H x o') h':=fun b u q=>by
 have PU:∀c y,H c=some (.own y)→c≠x:=fun c y r z=>by subst z;rw [r] at mu;exact mu
 have a0r:∀c xs,H c=some (.tup xs)→c≠x:=fun c xs r z=>by subst z;rw [r] at mu;exact mu
 by_cases hb:b=x
 ·subst hb;rw [af] at q;cases q;exact new
 ·rw [aY hb] at q
  by_cases NH:b=e
  ·have q':H b=some (.own x):=by
    rcases he with z | z
    ·exact absurd (NH.trans z) hb
    ·rw [NH];exact z
   rw [q] at q';cases q'
   obtain ⟨v,hv⟩:=OP
   exact ⟨v,by rw [NH];exact hv⟩
  ·refine (ok b u q).stay (fun c v hc r=>k c v ?_ r) (fun c r=>by rw [aY (PU c b r)];exact r) fun c xs r=>by rw [aY (a0r c xs r)];exact r
   rcases hc with rfl | hc
   ·exact NH
   ·rintro rfl
    rcases he with z | z
    ·exact PU c b hc z
    ·rw [hc] at z;cases z;exact hb rfl
end
structure Un (fs ex:List Addr) (H H':Hp) (h h':Heap):Prop where
 keep:∀b o,h.get? b=some o→H b=none→b ∉ fs→b ∉ ex→h'.get? b=some o
 slot:∀b o,h.get? b=some o→H b=none→b∈fs→b ∉ ex→∃sl,h'.get? b=some { o with slots:=sl }
 free:∀b o,h.get? b=some o→H b=none→b ∉ ex→H' b=none
 there:∀b o,h.get? b=some o→b ∉ ex→∃o',h'.get? b=some o'
 tups:∀b xs,H b=some (.tup xs)→H' b=some (.tup xs)
 uQ:∀b o u,H b=some (.Bx o u)→H' b=some (.Bx o u)
 vN:∀b ps,H b=some (.Lm ps)→∃more,H' b=some (.Lm (ps++more))
section
variable {fs fs' ex ex':List Addr} {H H1 H2:Hp} {h h1 h2 h':Heap} {a x e:Addr} {o:HO}
theorem Un.any (u:Un fs ex H H1 h h1) {b:Addr} {ob:Obj} (q:h.get? b=some ob) (n:H b=none) (hx:b ∉ ex):∃sl,h1.get? b=some { ob with slots:=sl }:=by
 by_cases hb:b∈fs
 ·exact u.slot b ob q n hb hx
 ·exact ⟨ob.slots,u.keep b ob q n hb hx⟩
theorem Un.kept (k:∀b u,h.get? b=some u→h'.get? b=some u):Un fs ex H H h h' :=
 ⟨fun b ob q _ _ _=>k b ob q,fun b ob q _ _ _=>⟨ob.slots,k b ob q⟩,fun _ _ _ n _=>n,fun b ob q _=>⟨ob,k b ob q⟩,fun _ _ q=>q,fun _ _ _ q=>q,fun _ ps q=>⟨#[],by rw [q];simp⟩⟩
theorem Un.refl:Un fs ex H H h h:=Un.kept fun _ _ q=>q
theorem Un.laid (k:∀b u,h.get? b=some u→h'.get? b=some u) (hp:h.objs.size≤a) (hn:H a=none):Un fs ex H (upd H a o) h h' where
 keep:=fun b u q _ _ _=>k b u q
 slot:=fun b u q _ _ _=>⟨u.slots,k b u q⟩
 free:=fun b u q n _=>by rw [aY (Nat.ne_of_lt (Nat.lt_of_lt_of_le (Heap.lt_size q) hp))];exact n
 there:=fun b u q _=>⟨u,k b u q⟩
 tups:=fun b xs q=>by rw [aY (aE q hn)];exact q
 uQ:=fun b u xs q=>by rw [aY (aE q hn)];exact q
 vN:=fun b ps q=>⟨#[],by rw [aY (aE q hn),q];simp⟩
theorem Un.write (mu:SM (H x)) (he:e=x∨H e=some (.own x)) (k:∀b u,b≠e→h.get? b=some u→h'.get? b=some u) (OP:∃u,h'.get? e=some u):Un fs ex H (upd H x o) h h':=by
 have hx:∀b,H b=none→b≠x:=fun b n z=>by subst z;rw [n] at mu;exact mu
 have hb:∀b,H b=none→b≠e:=fun b n z=>by
  subst z
  rcases he with r | r
  ·exact hx b n r
  ·rw [n] at r;cases r
 have hm:∀b u,H b=some u→¬SM (some u)→b≠x:=fun b u q nm z=>by subst z;rw [q] at mu;exact nm mu
 refine ⟨fun b u q n _ _=>k b u (hb b n) q,fun b u q n _ _=>⟨u.slots,k b u (hb b n) q⟩,fun b u q n _=>by rw [aY (hx b n)];exact n,fun b u q _=>?_,
  fun b xs q=>by rw [aY (hm b _ q fun z=>z)];exact q,fun b u xs q=>by rw [aY (hm b _ q fun z=>z)];exact q,fun b ps q=>⟨#[],by rw [aY (hm b _ q fun z=>z),q];simp⟩⟩
 by_cases NH:b=e
 ·subst NH;exact OP
 ·exact ⟨u,k b u NH q⟩
end
def Ti (h:Heap) (H:Hp):List Addr:=(List.range h.objs.size).filter fun a=>(H a).isSome
def wV (h:Heap) (H:Hp):Heap:=PySem.W.hideAll h (Ti h H)
theorem Dz (h:Heap) (H:Hp):(wV h H).objs.size=h.objs.size:=PySem.W.hideAll_size _ _
theorem IC {h:Heap} {H:Hp} {b:Addr} {o:Obj} (e:h.get? b=some o) (n:H b=none):(wV h H).get? b=some o :=
 PySem.W.hideAll_get _ e fun hm=>by
  have q:(H b).isSome=true:=(List.mem_filter.mp hm).2
  rw [n] at q;simp at q
theorem Ke {h:Heap} {H:Hp} {b:Addr} {o:Obj} (e:(wV h H).get? b=some o):h.get? b=some o∧H b=none:=by
 have e':h.get? b=some o:=PySem.W.of_hideAll (Ti h H) e
 refine ⟨e',?_⟩
 cases q:H b with
 | none=>rfl
 | some x =>
  have hm:b∈Ti h H:=List.mem_filter.mpr ⟨List.mem_range.mpr (Heap.lt_size e'),by simp [q]⟩
  have z:(wV h H).get? b=none:=PySem.W.hideAll_none (Ti h H) hm
  rw [z] at e;cases e
def KQ (g h:Heap) (L:Addr):List (Addr×Obj):=(List.range h.objs.size).filterMap fun a=>if a=L∨(g.get? a).isSome=true then none else (h.get? a).map fun o=>(a,o)
def rest (g h:Heap) (L d:Addr):List (Addr×Obj):=(KQ g h L).filter fun p=>decide (p.1≠d)
end L2
namespace L2
open PySem PySem.Spec PyProof.Rows
structure Mod (K:PySem.W.Frag) (mg:Str→Option Value) (base:Heap):Prop where
 JF:K.In base
 glob:base.Ns mainGlobals mg
 blt:∃mb,base.Ns builtinsNs mb∧∀x:Str,x≠"__name__"→mb x=bootBuiltins x
 nolimit:base.NoLimit
structure Cx where
 prog:Program
 w:World
 K:PySem.W.Frag
 mg:Str→Option Value
 base:Heap
 A:Around
 N:List Str
 s₀:Shared
 H₀:Hp
 env:Env
 outer:List Env
 stack:List Env
 ex:List Addr
 fn:Str→Bool
 calm:Bool
 pn:List (Addr×Obj)
 xe:Value→Shared→Prop
def frs (l:List Env):List Addr:=l.filterMap (·.frame)
abbrev Cx.fs (X:Cx):List Addr:=frs X.outer
def Vu (sc:Scope) (x:Str):Prop:=sc.names.lookup x=some .local∨sc.names.lookup x=some .cell∨sc.names.lookup x=some .free
def Loc (sc:Scope) (x:Str):Prop:=sc.names.lookup x=some .local∨sc.names.lookup x=some .cell
def Look (env:Env) (h:Heap) (m:Str→Option Value) (x:Str) (u:Value):Prop :=
 (env.kindOf x=some .local∧m x=some u)∨((env.kindOf x=some .cell∨env.kindOf x=some .free)∧∃c,env.cells.lookup x=some c∧h.IsCell c (some u))
structure Cx.Ok (X:Cx):Prop where
 mod:Mod X.K X.mg X.base
 kind:X.env.scope.kind=.function
 glob:X.env.globals=mainGlobals
 blt:X.env.builtins=builtinsNs
 above:X.s₀.heap.objs.size≤X.env.locals
 inj:∀x y c,X.env.cells.lookup x=some c→X.env.cells.lookup y=some c→x=y
 has:∀x,(X.env.kindOf x=some .cell∨X.env.kindOf x=some .free)→∃c,X.env.cells.lookup x=some c
 Sw:∀x c,X.fn x=true→X.env.cells.lookup x=some c→X.s₀.heap.objs.size≤c
 hd:X.calm=true→X.A.handled=none
 frames:X.A.frames=some X.stack
 stk:X.stack=X.outer∨(X.stack=X.env::X.outer∧X.env.frame=some X.env.locals)
 Vk:∀b∈X.ex,b≠X.env.locals∧∀x c,X.env.cells.lookup x=some c→c≠b
 bs:∀b o,X.base.get? b=some o→X.s₀.heap.get? b=some o∧X.H₀ b=none
 KO:X.base.objs.size≤X.s₀.heap.objs.size
 Ho:∀b o,X.base.get? b=some o→b ∉ X.ex
 Jb:∀b∈X.ex,b ∉ X.fs
 rO:X.s₀.heap.FunFrames X.base X.outer
 N2:∀b∈X.fs,X.H₀ b=none
structure Inv (X:Cx) (pins:List (Addr×Obj)) (σ:List (Option V)) (H:Hp) (s:Shared):Prop where
 ok:X.Ok
 os:s.os=X.s₀.os
 bare:AllBare s.gens
 base:Un X.fs X.ex X.H₀ H X.s₀.heap s.heap
 loc:∃m,s.heap.Ns X.env.locals m∧∀(i:Nat) (x:Str) (v:V),X.N[i]?=some x→σ[i]?=some (some v)→Vu X.env.scope x→∃u,RelV v u∧Look X.env s.heap m x u
 cell:∀x c,X.env.cells.lookup x=some c→∃v,s.heap.IsCell c v
 free:H X.env.locals=none
 lR:∀x c,X.env.cells.lookup x=some c→H c=none
 pin:∀p∈X.pn++pins,s.heap.get? p.1=some p.2∧H p.1=none∧p.1≠X.env.locals∧p.1 ∉ X.fs∧∀v,p.2.data≠.cell v
 hok:nW X.prog X.w H s.heap
 len:σ.length=X.N.length
section
variable {X:Cx} {pins:List (Addr×Obj)} {σ:List (Option V)} {H H':Hp} {s:Shared} {h':Heap}
theorem Cx.Ok.a0t (ok:X.Ok) {b:Addr} {o:Obj} (e:X.base.get? b=some o):b ∉ X.fs:=fun hb=>by
 have:=(ok.rO.mem hb).1
 rw [e] at this;cases this
theorem Inv.bs (I:Inv X pins σ H s):∀b o,X.base.get? b=some o→s.heap.get? b=some o∧H b=none:=fun b o e =>
 ⟨I.base.keep b o (I.ok.bs b o e).1 (I.ok.bs b o e).2 (I.ok.a0t e) (I.ok.Ho b o e),I.base.free b o (I.ok.bs b o e).1 (I.ok.bs b o e).2 (I.ok.Ho b o e)⟩
theorem Inv.bk (I:Inv X pins σ H s):∀b o,X.base.get? b=some o→s.heap.get? b=some o:=fun b o e=>(I.bs b o e).1
theorem Inv.mod (I:Inv X pins σ H s):Mod X.K X.mg X.base:=I.ok.mod
theorem Inv.mJ (I:Inv X pins σ H s):X.K.In s.heap:=I.ok.mod.JF.keeps I.bk
theorem Inv.lt (I:Inv X pins σ H s):X.env.locals<s.heap.objs.size:=let ⟨_,hn,_⟩:=I.loc;hn.lt
theorem Inv.sz (I:Inv X pins σ H s):X.s₀.heap.objs.size≤s.heap.objs.size:=Nat.le_trans I.ok.above (Nat.le_of_lt I.lt)
theorem Inv.PV (I:Inv X pins σ H s) {a:Addr} (h:s.heap.objs.size≤a):a ∉ X.fs:=fun hb=>by
 obtain ⟨_,o,ho,_⟩:=I.ok.rO.mem hb
 exact absurd (Nat.lt_of_lt_of_le (Heap.lt_size ho) (Nat.le_trans I.sz h)) (Nat.lt_irrefl _)
theorem Inv.Oj (I:Inv X pins σ H s):∀x c,X.env.cells.lookup x=some c→c≠X.env.locals:=fun x c e z=>by
 obtain ⟨v,o,ho,hd⟩:=I.cell x c e
 obtain ⟨m,⟨o',es,ep,ho',hd',_⟩,_⟩:=I.loc
 rw [z,ho'] at ho;cases ho;rw [hd'] at hd;cases hd
theorem Inv.rO (I:Inv X pins σ H s):s.heap.FunFrames X.base X.outer:=by
 have all:∀(l:List Env),(∀b∈frs l,b∈X.fs)→X.s₀.heap.FunFrames X.base l→s.heap.FunFrames X.base l:=by
  intro l
  induction l with
  | nil=>intro _ _;trivial
  | cons env r ih =>
   intro hs hl
   obtain ⟨hk,⟨L,o,hf,hn,ho,hd⟩,hr⟩:=hl
   have hL:L∈X.fs:=hs L (by unfold frs;rw [List.filterMap_cons,hf];exact List.mem_cons_self)
   obtain ⟨sl,e⟩:=I.base.slot L o ho (I.ok.N2 L hL) hL fun z=>I.ok.Jb L z hL
   exact ⟨hk,⟨L,_,hf,hn,e,hd⟩,ih (fun b hb=>hs b (by unfold frs;rw [List.filterMap_cons,hf];exact List.mem_cons_of_mem _ hb)) hr⟩
 exact all X.outer (fun _ hb=>hb) I.ok.rO
theorem Inv.stack (I:Inv X pins σ H s):s.heap.FunFrames X.base X.stack:=by
 rcases I.ok.stk with e | ⟨e,hf⟩
 ·rw [e];exact I.rO
 ·rw [e]
  obtain ⟨m,hn,_⟩:=I.loc
  refine .cons (by rw [I.ok.kind];decide) hf hn ?_ I.rO
  exact Heap.get?_none_of_le (Nat.le_trans I.ok.KO I.ok.above)
theorem Inv.vO (I:Inv X pins σ H s):∀b∈frs X.stack,b∈X.env.locals::X.fs:=fun b hb=>by
 rcases I.ok.stk with e | ⟨e,hf⟩
 ·rw [e] at hb;exact List.mem_cons_of_mem _ hb
 ·rw [e] at hb
  unfold frs at hb
  rw [List.filterMap_cons,hf] at hb
  exact hb
theorem Inv.BR (I:Inv X pins σ H s):∀b∈frs X.stack,H b=none:=fun b hb=>by
 rcases List.mem_cons.mp (I.vO b hb) with e | hb
 ·rw [e];exact I.free
 ·obtain ⟨_,o,ho,_⟩:=I.ok.rO.mem hb
  exact I.base.free b o ho (I.ok.N2 b hb) fun z=>I.ok.Jb b z hb
theorem Inv.step {g':Array GenState} {t':Nat} {d':Drawn} {ch:List Addr} (I:Inv X pins σ H s)
  (hch:∀b∈ch,(b∈X.ex∨X.s₀.heap.objs.size≤b)∧b≠X.env.locals∧(∀x c,X.env.cells.lookup x=some c→c≠b)∧∀p∈X.pn++pins,p.1≠b)
  (keep:∀b o,b≠X.env.locals→b ∉ X.fs→b ∉ ch→s.heap.get? b=some o→H b=none→h'.get? b=some o)
  (slot:∀b o,b≠X.env.locals→b∈X.fs→b ∉ ch→s.heap.get? b=some o→H b=none→∃sl,h'.get? b=some { o with slots:=sl }) (free:∀b o,b ∉ ch→s.heap.get? b=some o→H b=none→H' b=none)
  (there:∀b o,b ∉ ch→s.heap.get? b=some o→∃o',h'.get? b=some o')
  (tups:∀b xs,H b=some (.tup xs)→H' b=some (.tup xs)) (uQ:∀b o u,H b=some (.Bx o u)→H' b=some (.Bx o u)) (vN:∀b ps,H b=some (.Lm ps)→∃more,H' b=some (.Lm (ps++more)))
  (ns:∀m,s.heap.Ns X.env.locals m→h'.Ns X.env.locals m) (hok:nW X.prog X.w H' h') (hg:AllBare g') :
  Inv X pins σ H' { s with heap:=h',gens:=g',drawn:=d',toks:=t' }:=by
 have neL:∀b o,X.s₀.heap.get? b=some o→b≠X.env.locals:=fun b o e=>Nat.ne_of_lt (Nat.lt_of_lt_of_le (Heap.lt_size e) I.ok.above)
 have TJ:∀b o,X.s₀.heap.get? b=some o→b ∉ X.ex→b ∉ ch:=fun b o e hx hb=>by
  rcases (hch b hb).1 with z | z
  ·exact hx z
  ·exact absurd (Nat.lt_of_lt_of_le (Heap.lt_size e) z) (Nat.lt_irrefl _)
 have cellK:∀x c,X.env.cells.lookup x=some c→∀v,s.heap.IsCell c v→h'.IsCell c v:=fun x c e v ⟨o,ho,hd⟩=>by
  have P6:c ∉ ch:=fun z=>(hch c z).2.2.1 x c e rfl
  by_cases hc:c∈X.fs
  ·obtain ⟨sl,q⟩:=slot c o (I.Oj x c e) hc P6 ho (I.lR x c e)
   exact ⟨_,q,hd⟩
  ·exact ⟨o,keep c o (I.Oj x c e) hc P6 ho (I.lR x c e),hd⟩
 refine ⟨I.ok,I.os,hg,⟨fun b o e n hb hx=>?_,fun b o e n hb hx=>?_,fun b o e n hx=>?_,fun b o e hx=>?_,fun b xs e=>tups b xs (I.base.tups b xs e),fun b o xs e=>uQ b o xs (I.base.uQ b o xs e),fun b ps e=>?_⟩,?_,fun x c e=>?_,?_,fun x c e=>?_,fun p hp=>?_,hok,I.len⟩
 ·exact keep b o (neL b o e) hb (TJ b o e hx) (I.base.keep b o e n hb hx) (I.base.free b o e n hx)
 ·obtain ⟨sl,e1⟩:=I.base.slot b o e n hb hx
  obtain ⟨sl',e2⟩:=slot b _ (neL b o e) hb (TJ b o e hx) e1 (I.base.free b o e n hx)
  exact ⟨sl',e2⟩
 ·obtain ⟨o',e1⟩:=I.base.there b o e hx
  exact free b o' (TJ b o e hx) e1 (I.base.free b o e n hx)
 ·obtain ⟨o',e1⟩:=I.base.there b o e hx
  exact there b o' (TJ b o e hx) e1
 ·obtain ⟨m1,e1⟩:=I.base.vN b ps e
  obtain ⟨m2,e2⟩:=vN b _ e1
  exact ⟨m1++m2,by rw [e2,Array.append_assoc]⟩
 ·obtain ⟨m,hn,hl⟩:=I.loc
  refine ⟨m,ns m hn,fun i x v e1 e2 e3=>?_⟩
  obtain ⟨u,r,l⟩:=hl i x v e1 e2 e3
  refine ⟨u,r,?_⟩
  rcases l with l | ⟨k,c,e,z⟩
  ·exact .inl l
  ·exact .inr ⟨k,c,e,cellK x c e _ z⟩
 ·obtain ⟨v,z⟩:=I.cell x c e
  exact ⟨v,cellK x c e v z⟩
 ·obtain ⟨m,⟨o,_,_,ho,_⟩,_⟩:=I.loc
  exact free _ o (fun z=>(hch _ z).2.1 rfl) ho I.free
 ·obtain ⟨v,o,ho,hd⟩:=I.cell x c e
  exact free c o (fun z=>(hch c z).2.2.1 x c e rfl) ho (I.lR x c e)
 ·obtain ⟨e,n,ne,nf,d⟩:=I.pin p hp
  have P6:p.1 ∉ ch:=fun z=>(hch p.1 z).2.2.2 p hp rfl
  exact ⟨keep p.1 p.2 ne nf P6 e n,free p.1 p.2 P6 e n,ne,nf,d⟩
theorem Inv.un {t':Nat} (I:Inv X pins σ H s) (u:Un X.fs [] H H' s.heap h') (hok:nW X.prog X.w H' h'):Inv X pins σ H' { s with heap:=h',toks:=t' }:=by
 obtain ⟨m,⟨o,es,ep,ho,r⟩,_⟩:=id I.loc
 obtain ⟨sl,hL⟩:=u.any ho I.free (by simp)
 exact I.step (g':=s.gens) (d':=s.drawn) (ch:=[]) (fun _ z=>nomatch z) (fun b o _ hb _ e n=>u.keep b o e n hb (by simp)) (fun b o _ hb _ e n=>u.slot b o e n hb (by simp)) (fun b o _ e n=>u.free b o e n (by simp)) (fun b o _ e=>u.there b o e (by simp)) u.tups u.uQ u.vN (fun m' hm=>by
  obtain ⟨o',es',Q5,ho',r'⟩:=hm
  rw [ho] at ho';cases ho'
  exact ⟨_,es',Q5,hL,r'⟩) hok I.bare
theorem Inv.call {g':Array GenState} {t':Nat} {d':Drawn} {ch:List Addr} (I:Inv X pins σ H s) (u:Un (frs X.stack) ch H H' s.heap h') (hok:nW X.prog X.w H' h') (hg:AllBare g')
  (hch:∀b∈ch,(b∈X.ex∨X.s₀.heap.objs.size≤b)∧b≠X.env.locals∧(∀x c,X.env.cells.lookup x=some c→c≠b)∧∀p∈X.pn++pins,p.1≠b) :
  Inv X pins σ H' { s with heap:=h',gens:=g',drawn:=d',toks:=t' }:=by
 obtain ⟨m,⟨o,es,ep,ho,r⟩,_⟩:=id I.loc
 obtain ⟨sl,hL⟩:=u.any ho I.free fun z=>(hch _ z).2.1 rfl
 exact I.step (ch:=ch) hch (fun b o hL hb hc e n=>u.keep b o e n (fun z=>(List.mem_cons.mp (I.vO b z)).elim hL hb) hc) (fun b o _ _ hc e n=>u.any e n hc) (fun b o hc e n=>u.free b o e n hc) (fun b o hc e=>u.there b o e hc) u.tups u.uQ u.vN (fun m' hm=>by
  obtain ⟨o',es',Q5,ho',r'⟩:=hm
  rw [ho] at ho';cases ho'
  exact ⟨_,es',Q5,hL,r'⟩) hok hg
theorem Inv.turned {t':Nat} {it:Addr} (I:Inv X pins σ H s) (k:∀b o,b≠it→s.heap.get? b=some o→h'.get? b=some o) (hn:H it=none) (hL:it≠X.env.locals)
  (h1:it∈X.ex∨X.s₀.heap.objs.size≤it) (h2:∀x c,X.env.cells.lookup x=some c→c≠it) (h3:∀p∈X.pn++pins,p.1≠it):Inv X pins σ H { s with heap:=h',toks:=t' }:=by
 have nit:∀b u,H b=some u→b≠it:=fun b u e z=>by rw [z,hn] at e;cases e
 refine I.step (g':=s.gens) (d':=s.drawn) (ch:=[it]) (fun b hb=>?_) (fun b o _ _ hc e _=>k b o (fun z=>hc (by simp [z])) e) (fun b o _ _ hc e _=>⟨o.slots,k b o (fun z=>hc (by simp [z])) e⟩) (fun _ _ _ _ n=>n)
  (fun b o hc e=>⟨o,k b o (fun z=>hc (by simp [z])) e⟩) (fun _ _ e=>e) (fun _ _ _ e=>e) (fun b ps e=>⟨#[],by rw [e];simp⟩) (fun m hm=>?_) (fun b u e=>?_) I.bare
 ·have e:b=it:=by simpa using hb
  subst e
  exact ⟨h1,hL,h2,h3⟩
 ·obtain ⟨o,es,ep,ho,r⟩:=hm
  exact ⟨o,es,ep,k _ o (Ne.symm hL) ho,r⟩
 ·refine (I.hok b u e).stay (fun c v hc q=>k c v ?_ q) (fun _ q=>q) fun _ _ q=>q
  rcases hc with z | z
  ·rw [z];exact nit b u e
  ·exact nit c _ z
theorem Inv.tok (I:Inv X pins σ H s) (t:Nat):Inv X pins σ H { s with toks:=t }:=I.un (h':=s.heap) (t':=t) Un.refl I.hok
theorem Inv.kept {t':Nat} (I:Inv X pins σ H s) (k:∀b u,s.heap.get? b=some u→h'.get? b=some u):Inv X pins σ H { s with heap:=h',toks:=t' }:=I.un (Un.kept k) (I.hok.kept k)
theorem Inv.laid {a:Addr} {o:HO} {t':Nat} (I:Inv X pins σ H s) (k:∀b u,s.heap.get? b=some u→h'.get? b=some u) (hp:s.heap.objs.size≤a) (new:eO X.prog X.w (upd H a o) h' a o) :
  Inv X pins σ (upd H a o) { s with heap:=h',toks:=t' }:=I.un (Un.laid k hp (I.hok.fresh hp)) (I.hok.laid k hp new)
theorem Inv.write {x e:Addr} {o:HO} {t':Nat} (I:Inv X pins σ H s) (mu:SM (H x)) (he:e=x∨H e=some (.own x)) (k:∀b u,b≠e→s.heap.get? b=some u→h'.get? b=some u) (OP:∃u,h'.get? e=some u)
  (new:eO X.prog X.w (upd H x o) h' x o):Inv X pins σ (upd H x o) { s with heap:=h',toks:=t' }:=I.un (Un.write mu he k OP) (I.hok.write mu he k OP new)
theorem Inv.weak {σ':List (Option V)} (I:Inv X pins σ H s) (hl:σ'.length=σ.length) (w:∀(i:Nat) v,σ'[i]?=some (some v)→σ[i]?=some (some v)):Inv X pins σ' H s :=
 ⟨I.ok,I.os,I.bare,I.base,let ⟨m,hn,hl'⟩:=I.loc;⟨m,hn,fun i x v e1 e2 e3=>hl' i x v e1 (w i v e2) e3⟩,I.cell,I.free,I.lR,I.pin,I.hok,hl.trans I.len⟩
theorem Inv.r8 {tU:List (Addr×Obj)} (I:Inv X pins σ H s) (h:∀p∈tU,s.heap.get? p.1=some p.2∧H p.1=none∧p.1≠X.env.locals∧p.1 ∉ X.fs∧∀v,p.2.data≠.cell v):Inv X tU σ H s :=
 ⟨I.ok,I.os,I.bare,I.base,I.loc,I.cell,I.free,I.lR,fun p hp=>(List.mem_append.mp hp).elim (fun z=>I.pin p (List.mem_append_left _ z)) (h p),I.hok,I.len⟩
theorem xU {N:List Str} (hN:N.Nodup) {i j:Nat} {x:Str} (a:N[i]?=some x) (b:N[j]?=some x):i=j:=by
 obtain ⟨h1,e1⟩:=List.getElem?_eq_some_iff.mp a
 obtain ⟨h2,e2⟩:=List.getElem?_eq_some_iff.mp b
 exact (List.getElem_inj hN).mp (e1.trans e2.symm)
theorem u7 {M:Model} {A:Around} {E:Value→Shared→Prop} {i:Nat} {x:Str} {v:V} {u:Value} {Q:Unit→Shared→Prop} (I:Inv X pins σ H s) (hN:X.N.Nodup) (hi:X.N[i]?=some x) (hx:Loc X.env.scope x) (r:RelV v u)
  (h:∀s',Inv X pins (σ.set i (some v)) H s'→(∃a,Heap.SameBut a s.heap s'.heap∧(a=X.env.locals∨X.env.cells.lookup x=some a))→Q () s') (hf:X.fn x=true∨X.env.scope.names.lookup x=some .local:=by first | exact .inl rfl | exact .inr rfl | assumption):wpAny M A (storeName X.env x u) Q E s:=by
 obtain ⟨m,hn,hl⟩:=id I.loc
 have hcls:(X.env.scope.kind == .class||(X.env.scope.kind == .module&&X.env.locals != X.env.globals))=false:=by rw [I.ok.kind];rfl
 have hiσ:i<σ.length:=by rw [I.len];exact (List.getElem?_eq_some_iff.mp hi).1
 have Oj:=I.Oj
 have tracked:∀{a:Addr} {h':Heap},(∃o,s.heap.get? a=some o∧H a=none)→Heap.SameBut a s.heap h'→nW X.prog X.w H h':=fun {a h'} ha hs b ob e=>by
  obtain ⟨_,_,hfree⟩:=ha
  refine (I.hok b ob e).stay (fun c w' hc q=>(hs.2 c ?_).trans q) (fun _ q=>q) fun _ _ q=>q
  rintro rfl
  rcases hc with rfl | hc
  ·rw [hfree] at e;cases e
  ·rw [hfree] at hc;cases hc
 rcases hx with hk | hk
 ·refine wpAny_storeName_local hk hn (fun h' hn' hs=>?_) hcls
  obtain ⟨oL,_,_,hoL,_⟩:=id hn
  refine h _ ⟨I.ok,I.os,I.bare,⟨fun b o e n hb hx=>?_,fun b o e n hb hx=>?_,I.base.free,fun b o e hx=>?_,I.base.tups,I.base.uQ,I.base.vN⟩,⟨_,hn',fun j y v' e1 e2 e3=>?_⟩,fun y c e=>?_,I.free,I.lR,fun p hp=>?_,tracked ⟨oL,hoL,I.free⟩ hs,by simpa using I.len⟩ ⟨_,hs,.inl rfl⟩
  ·exact (hs.2 b (Nat.ne_of_lt (Nat.lt_of_lt_of_le (Heap.lt_size e) I.ok.above))).trans (I.base.keep b o e n hb hx)
  ·obtain ⟨sl,e1⟩:=I.base.slot b o e n hb hx
   exact ⟨sl,(hs.2 b (Nat.ne_of_lt (Nat.lt_of_lt_of_le (Heap.lt_size e) I.ok.above))).trans e1⟩
  ·obtain ⟨o',e1⟩:=I.base.there b o e hx
   exact ⟨o',(hs.2 b (Nat.ne_of_lt (Nat.lt_of_lt_of_le (Heap.lt_size e) I.ok.above))).trans e1⟩
  ·by_cases hj:j=i
   ·subst hj
    rw [hi] at e1;cases e1
    rw [List.getElem?_set_self hiσ] at e2
    cases e2
    exact ⟨u,r,.inl ⟨hk,by simp⟩⟩
   ·rw [List.getElem?_set_ne (Ne.symm hj)] at e2
    obtain ⟨u',r',q⟩:=hl j y v' e1 e2 e3
    refine ⟨u',r',?_⟩
    rcases q with ⟨k,e⟩ | ⟨k,c,e,z⟩
    ·refine .inl ⟨k,?_⟩
     have:y≠x:=fun e=>hj (xU hN e1 (e▸hi))
     simp [this,e]
    ·exact .inr ⟨k,c,e,z.sameBut hs (Oj y c e)⟩
  ·obtain ⟨w',z⟩:=I.cell y c e
   exact ⟨w',z.sameBut hs (Oj y c e)⟩
  ·obtain ⟨e,n,ne,nf,d⟩:=I.pin p hp
   exact ⟨(hs.2 p.1 ne).trans e,n,ne,nf,d⟩
 ·have hfn:X.fn x=true:=by
   rcases hf with z | z
   ·exact z
   ·rw [z] at hk;cases hk
  obtain ⟨c,hc⟩:=I.ok.has x (.inl hk)
  obtain ⟨w',z⟩:=I.cell x c hc
  refine wpAny_storeName_cell I.ok.kind hk hc z (fun h' hc' hs=>?_)
  obtain ⟨oc,hoc,a3E⟩:=id z
  refine h { s with heap:=h' } ⟨I.ok,I.os,I.bare,⟨fun b o e n hb hx=>?_,fun b o e n hb hx=>?_,I.base.free,fun b o e hx=>?_,I.base.tups,I.base.uQ,I.base.vN⟩,⟨m,hn.sameBut hs (Ne.symm (Oj x c hc)),fun j y v' e1 e2 e3=>?_⟩,fun y c' e=>?_,I.free,I.lR,fun p hp=>?_,tracked ⟨oc,hoc,I.lR x c hc⟩ hs,by simpa using I.len⟩ ⟨c,hs,.inr hc⟩
  ·exact (hs.2 b (Nat.ne_of_lt (Nat.lt_of_lt_of_le (Heap.lt_size e) (I.ok.Sw x c hfn hc)))).trans (I.base.keep b o e n hb hx)
  ·obtain ⟨sl,e1⟩:=I.base.slot b o e n hb hx
   exact ⟨sl,(hs.2 b (Nat.ne_of_lt (Nat.lt_of_lt_of_le (Heap.lt_size e) (I.ok.Sw x c hfn hc)))).trans e1⟩
  ·obtain ⟨o',e1⟩:=I.base.there b o e hx
   exact ⟨o',(hs.2 b (Nat.ne_of_lt (Nat.lt_of_lt_of_le (Heap.lt_size e) (I.ok.Sw x c hfn hc)))).trans e1⟩
  ·by_cases hj:j=i
   ·subst hj
    rw [hi] at e1;cases e1
    rw [List.getElem?_set_self hiσ] at e2
    cases e2
    exact ⟨u,r,.inr ⟨.inl hk,c,hc,hc'⟩⟩
   ·rw [List.getElem?_set_ne (Ne.symm hj)] at e2
    obtain ⟨u',r',q⟩:=hl j y v' e1 e2 e3
    refine ⟨u',r',?_⟩
    rcases q with q | ⟨k,c',e,z'⟩
    ·exact .inl q
    ·refine .inr ⟨k,c',e,z'.sameBut hs ?_⟩
     rintro rfl
     exact hj (xU hN e1 (I.ok.inj _ _ _ e hc▸hi))
  ·by_cases hcc:c'=c
   ·subst hcc;exact ⟨_,hc'⟩
   ·obtain ⟨w2,z2⟩:=I.cell y c' e
    exact ⟨w2,z2.sameBut hs hcc⟩
  ·obtain ⟨e,n,ne,nf,d⟩:=I.pin p hp
   refine ⟨(hs.2 p.1 ?_).trans e,n,ne,nf,d⟩
   intro q
   rw [q,hoc] at e
   have q':oc=p.2:=Option.some.inj e
   exact d w' (by rw [←q'];exact a3E)
theorem sS {M:Model} {A:Around} {E:Value→Shared→Prop} {i:Nat} {x:Str} {v:V} {u:Value} {Q:Unit→Shared→Prop} (I:Inv X pins σ H s) (hN:X.N.Nodup) (hi:X.N[i]?=some x) (hx:Loc X.env.scope x) (r:RelV v u)
  (h:∀s',Inv X pins (σ.set i (some v)) H s'→Q () s') (hf:X.fn x=true∨X.env.scope.names.lookup x=some .local:=by first | exact .inl rfl | exact .inr rfl | assumption):wpAny M A (storeName X.env x u) Q E s :=
 u7 I hN hi hx r (fun s' I' _=>h s' I') hf
theorem Inv.Sv {s':Shared} {ch:List Addr} (I:Inv X pins σ H s) (ho:s'.os=s.os) (u:Un (frs X.stack) ch H H' s.heap s'.heap) (hok:nW X.prog X.w H' s'.heap) (hg:AllBare s'.gens)
  (hch:∀b∈ch,(b∈X.ex∨X.s₀.heap.objs.size≤b)∧b≠X.env.locals∧(∀x c,X.env.cells.lookup x=some c→c≠b)∧∀p∈X.pn++pins,p.1≠b):Inv X pins σ H' s':=by
 obtain ⟨h',g',d',t',o'⟩:=s'
 have e:o'=s.os:=ho
 subst e
 exact I.call (g':=g') (t':=t') (d':=d') u hok hg hch
end
abbrev XK:=Value→Option Addr→Hp→Prop
abbrev St:=List (Option V)
abbrev VK:=V→Hp→Prop
abbrev TE:=St→Hp→VK→Prop
abbrev TT:=St→Hp→(Bool→Hp→Prop)→Prop
abbrev TA:=St→Hp→(List V→Hp→Prop)→Prop
structure Ends where
 nx:St→Hp→Prop
 rt:VK
 bk:St→Hp→Prop:=fun _ _=>False
 ct:St→Hp→Prop:=fun _ _=>False
abbrev TS:=Ends→St→Hp→Prop
def EP (X:Cx) (pins:List (Addr×Obj)) (σ:St) (Q:VK) (u:Value) (s':Shared):Prop:=∃v H',Inv X pins σ H' s'∧RelV v u∧Q v H'
def TP (X:Cx) (pins:List (Addr×Obj)) (σ:St) (Q:Bool→Hp→Prop) (b:Bool) (s':Shared):Prop:=∃H',Inv X pins σ H' s'∧Q b H'
def AP (X:Cx) (pins:List (Addr×Obj)) (σ:St) (Q:List V→Hp→Prop) (us:List Value) (s':Shared):Prop:=∃vs H',Inv X pins σ H' s'∧Vals vs us∧Q vs H'
def SP (X:Cx) (pins:List (Addr×Obj)) (D:Ends) (f:Flow) (s':Shared):Prop :=
 match f with
 | .next=>∃σ' H',Inv X pins σ' H' s'∧D.nx σ' H'
 | .brk=>∃σ' H',Inv X pins σ' H' s'∧D.bk σ' H'
 | .cont=>∃σ' H',Inv X pins σ' H' s'∧D.ct σ' H'
 | .ret u=>∃v σ' H',Inv X pins σ' H' s'∧RelV v u∧D.rt v H'
def PE (X:Cx) (e:Expr) (t:TE):Prop :=
 ∀(pins:List (Addr×Obj)) (s:Shared) (σ:St) (H:Hp) (Q:VK),Inv X pins σ H s→t σ H Q→wpAny (model X.prog X.w) X.A (eval e X.env) (EP X pins σ Q) X.xe s
def PT (X:Cx) (e:Expr) (t:TT):Prop :=
 ∀(pins:List (Addr×Obj)) (s:Shared) (σ:St) (H:Hp) (Q:Bool→Hp→Prop),Inv X pins σ H s→t σ H Q→wpAny (model X.prog X.w) X.A (isTrue e X.env (eval e X.env)) (TP X pins σ Q) X.xe s
def PW (X:Cx) (e:Expr) (t:TT):Prop :=
 ∀(whole:Sem Value) (pins:List (Addr×Obj)) (s:Shared) (σ:St) (H:Hp) (Q:Bool→Hp→Prop),Inv X pins σ H s→t σ H Q→wpAny (model X.prog X.w) X.A (isTrue e X.env whole) (TP X pins σ Q) X.xe s
theorem PW.pt {X:Cx} {e:Expr} {t:TT} (h:PW X e t):PT X e t:=h _
def PA (X:Cx) (es:List Expr) (t:TA):Prop :=
 ∀(pos:Pos) (pins:List (Addr×Obj)) (s:Shared) (σ:St) (H:Hp) (Q:List V→Hp→Prop),Inv X pins σ H s→t σ H Q→wpAny (model X.prog X.w) X.A (spliced (backTo pos (starEach es X.env))) (AP X pins σ Q) X.xe s
def PS (X:Cx) (st:Stmt) (t:TS):Prop :=
 ∀(pins:List (Addr×Obj)) (s:Shared) (σ:St) (H:Hp) (D:Ends),Inv X pins σ H s→t D σ H→wpAny (model X.prog X.w) X.A (exec st X.env) (SP X pins D) X.xe s
def DQ (X:Cx) (st:List Stmt) (t:TS):Prop :=
 ∀(pins:List (Addr×Obj)) (s:Shared) (σ:St) (H:Hp) (D:Ends),Inv X pins σ H s→t D σ H→wpAny (model X.prog X.w) X.A (execs st X.env) (SP X pins D) X.xe s
theorem fz {α:Type} {t:Sem α} {Q Q':α→Shared→Prop} {M:Model} {A:Around} {E:Value→Shared→Prop} {s:Shared} (h:wpAny M A t Q E s) (hQ:∀a s,Q a s→Q' a s):wpAny M A t Q' E s:=wpAny_mono h hQ fun _ _ x=>x
end L2
namespace L2
open PySem PySem.Spec PyProof.Rows
section
variable {X:Cx}
def Mu (i:Nat):TE:=fun σ H Q=>∃v,σ[i]?=some (some v)∧Q v H
def tC (v:V):TE:=fun _ H Q=>Q v H
theorem MN {i:Nat} {x:Str} {pos:Pos} (hN:X.N[i]?=some x) (hv:Vu X.env.scope x) (hd:(x == ("__debug__":Str))=false:=by decide) (hcd:(x == ("__classdict__":Str))=false:=by decide):PE X (.Name x pos) (Mu i):=by
 intro pins s σ H Q I h
 obtain ⟨v,e,h⟩:=h
 obtain ⟨m,hn,hl⟩:=I.loc
 obtain ⟨u,r,l⟩:=hl i x v hN e hv
 have fin:EP X pins σ Q u s:=⟨v,H,I,r,h⟩
 rcases l with ⟨hk,hm⟩ | ⟨hk,c,hc,hcell⟩
 ·exact wpAny_Name (wpAny_loadName_local I.ok.kind hk hn hm fin) hd
 ·rcases hk with hk | hk
  ·exact wpAny_Name (wpAny_loadName_cell I.ok.kind hk hc hcell fin) hd
  ·exact wpAny_Name (wpAny_loadName_free I.ok.kind hk hc hcell fin hcd) hd
theorem aj {i j pos}:PE X (.Constant (.int i) j pos) (tC (.int i)):=fun _ _ _ H _ I h=>wpAny_Constant_int ⟨.int i,H,I.tok _,⟨_,rfl⟩,h⟩
theorem jy {b j pos}:PE X (.Constant (.bool b) j pos) (tC (.bl b)):=fun _ _ _ H _ I h=>Constant_bool ⟨.bl b,H,I,rfl,h⟩
theorem gZ {j pos}:PE X (.Constant .none j pos) (tC .dM):=fun _ _ _ H _ I h=>Constant_none ⟨.dM,H,I,rfl,h⟩
theorem bf {x j pos}:PE X (.Constant (.str x) j pos) (tC (.str x)):=fun _ _ _ H _ I h=>Calls.Constant_str ⟨.str x,H,I.tok _,⟨_,rfl⟩,h⟩
def Gl (X:Cx) (x:Str):Prop:=X.env.kindOf x=some .globalImplicit
theorem oO {E:Value→Shared→Prop} {pins:List (Addr×Obj)} {s:Shared} {σ:St} {H:Hp} {x:Str} {u:Value} {pos:Pos} {Q:Value→Shared→Prop} (I:Inv X pins σ H s) (hg:Gl X x) (hm:X.mg x=some u) (h:Q u s)
  (hd:(x == ("__debug__":Str))=false:=by decide):wpAny (model X.prog X.w) X.A (eval (.Name x pos) X.env) Q E s :=
 Calls.Name_function_global I.ok.kind hg (Calls.loadGlobal_global (by rw [I.ok.glob];exact I.mod.glob.keeps I.bk) hm h) hd
theorem wM {E:Value→Shared→Prop} {pins:List (Addr×Obj)} {s:Shared} {σ:St} {H:Hp} {x:Str} {u:Value} {pos:Pos} {Q:Value→Shared→Prop} (I:Inv X pins σ H s) (hg:Gl X x) (hm:X.mg x=none) (hv:bootBuiltins x=some u) (h:Q u s)
  (hn:x≠"__name__":=by decide) (hd:(x == ("__debug__":Str))=false:=by decide):wpAny (model X.prog X.w) X.A (eval (.Name x pos) X.env) Q E s:=by
 obtain ⟨mb,h1,h2⟩:=I.mod.blt
 exact Calls.Name_function_global I.ok.kind hg (Calls.loadGlobal_builtin (by rw [I.ok.glob];exact I.mod.glob.keeps I.bk) hm (by rw [I.ok.blt];exact h1.keeps I.bk) ((h2 x hn).trans hv) h) hd
theorem iA {x:Str} {v:V} {u:Value} {pos:Pos} (hg:Gl X x) (hm:X.mg x=some u) (r:RelV v u) (hd:(x == ("__debug__":Str))=false:=by decide):PE X (.Name x pos) (tC v) :=
 fun _ _ _ H _ I h=>oO I hg hm ⟨v,H,I,r,h⟩ hd
theorem se {x:Str} {v:V} {u:Value} {pos:Pos} (hg:Gl X x) (hm:X.mg x=none) (hv:bootBuiltins x=some u) (r:RelV v u) (hn:x≠"__name__":=by decide) (hd:(x == ("__debug__":Str))=false:=by decide):PE X (.Name x pos) (tC v) :=
 fun _ _ _ H _ I h=>wM I hg hm hv ⟨v,H,I,r,h⟩ hn hd
variable {a b:Expr} {ta tb:TE} {pos:Pos}
def tB (t:TE):TT:=fun σ H Q=>t σ H fun x H1=>∃c,x=.bl c∧Q c H1
theorem m5 {e:Expr} {t:TE} (h:PE X e t) (he:∀whole,isTrue e X.env whole=(do let v ←whole;standAt e.pos;holding [v] (truthy v)):=by intro _;rfl):PT X e (tB t):=by
 intro pins s σ H Q I hw
 refine isTrue_plain (fz (h pins s σ H _ I hw) fun v s1 ⟨x,H1,I1,r1,q1⟩=>?_) (he _)
 obtain ⟨d,rfl,q⟩:=q1
 cases r1
 exact wpAny_truthy_bool ⟨H1,I1,q⟩
variable {tA To:TT} {rest:List Expr}
def VW (t u:TT):TT:=fun σ H Q=>t σ H fun c H1=>if c=true then u σ H1 Q else Q false H1
def tOr (t u:TT):TT:=fun σ H Q=>t σ H fun c H1=>if c=true then Q true H1 else u σ H1 Q
def VQ (t:TT):TT:=fun σ H Q=>t σ H fun c H1=>Q (!c) H1
theorem gF (ha:PT X a tA):PW X (.BoolOp .And [a] pos) tA:=by
 intro wh pins s σ H Q I h
 refine isTrue_and (fz (ha pins s σ H Q I h) fun c s1 e=>?_)
 cases c with
 | true=>exact isTrue_and_nil e
 | false=>exact e
theorem ja (ha:PT X a tA):PW X (.BoolOp .Or [a] pos) tA:=by
 intro wh pins s σ H Q I h
 refine isTrue_or (fz (ha pins s σ H Q I h) fun c s1 e=>?_)
 cases c with
 | false=>exact isTrue_or_nil e
 | true=>exact e
theorem iJ (ha:PT X a tA) (hb:PW X (.BoolOp .And (b::rest) pos) To):PW X (.BoolOp .And (a::b::rest) pos) (VW tA To):=by
 intro wh pins s σ H Q I h
 refine isTrue_and (fz (ha pins s σ H _ I h) fun c s1 ⟨H1,I1,q1⟩=>?_)
 cases c with
 | true=>exact hb wh pins s1 σ H1 Q I1 q1
 | false=>exact ⟨H1,I1,q1⟩
theorem kE (ha:PT X a tA) (hb:PW X (.BoolOp .Or (b::rest) pos) To):PW X (.BoolOp .Or (a::b::rest) pos) (tOr tA To):=by
 intro wh pins s σ H Q I h
 refine isTrue_or (fz (ha pins s σ H _ I h) fun c s1 ⟨H1,I1,q1⟩=>?_)
 cases c with
 | true=>exact ⟨H1,I1,q1⟩
 | false=>exact hb wh pins s1 σ H1 Q I1 q1
theorem pY (ha:PT X a tA):PT X (.UnaryOp .Not a pos) (VQ tA):=by
 intro pins s σ H Q I h
 exact isTrue_not (ha pins s σ H (fun c H1=>Q (!c) H1) I h)
def Pj (ta tb:TE):TE:=fun σ H Q=>ta σ H fun x H1=>∃c,x=.bl c∧if c=true then tb σ H1 Q else Q (.bl false) H1
theorem lG {op} {t:TE} (h:PE X a t):PE X (.BoolOp op [a] pos) t:=fun pins s σ H Q I hw=>BoolOp_one (h pins s σ H Q I hw)
theorem lH (ha:PE X a ta) (hb:PE X (.BoolOp .And (b::rest) pos) tb):PE X (.BoolOp .And (a::b::rest) pos) (Pj ta tb):=by
 intro pins s σ H Q I h
 refine BoolOp_and (fz (ha pins s σ H _ I h) fun v s1 ⟨x,H1,I1,r1,q1⟩=>?_)
 obtain ⟨c,rfl,q1⟩:=q1
 cases r1
 refine wpAny_truthy_bool ?_
 cases c with
 | true=>exact hb pins s1 σ H1 Q I1 q1
 | false=>exact ⟨.bl false,H1,I1,rfl,q1⟩
end
end L2
namespace L2
open PySem PySem.Spec PyProof.Rows
def bS (K:PySem.W.Frag) (H:Hp) (a:Addr) (xs:List V):Prop :=
 Rd H a (.lst xs) ∨
  ∃(o:Obj) (its:Array Value) (n:Nat),K.lookup a=some o∧o.cls=.type "list"∧o.dict=none∧o.data=.seq its n∧its.size≤sizeLine∧Vals xs its.toList
def aW (K:PySem.W.Frag) (H:Hp) (a:Addr) (xs:List V):Prop :=
 Rd H a (.tup xs) ∨
  ∃(o:Obj) (its:Array Value) (n:Nat),K.lookup a=some o∧o.cls=.type "tuple"∧o.data=.seq its n∧its.size≤sizeLine∧Vals xs its.toList
def a8M:Value→Option V
 | .none=>some .dM
 | .bool b=>some (.bl b)
 | .int i _=>some (.int i)
 | .str x _=>some (.str x)
 | .bytes b _=>some (.Ed b)
 | .float b _=>some (.N4 b)
 | .ref a=>some (.ref a)
 | .type n=>some (.ty n)
 | _=>none
theorem RelV.abs {x:V} {u:Value} (r:RelV x u):a8M u=some x:=by
 cases x with
 | dM=>cases r;rfl
 | bl _=>cases r;rfl
 | int _=>obtain ⟨t,rfl⟩:=r;rfl
 | str _=>obtain ⟨t,rfl⟩:=r;rfl
 | Ed _=>obtain ⟨t,rfl⟩:=r;rfl
 | N4 _=>obtain ⟨t,rfl⟩:=r;rfl
 | ref _=>cases r;rfl
 | ty _=>cases r;rfl
theorem RelV.inj {x y:V} {u:Value} (r:RelV x u) (q:RelV y u):x=y:=Option.some.inj (r.abs.symm.trans q.abs)
theorem Vals.inj:∀{xs ys:List V} {us:List Value},Vals xs us→Vals ys us→xs=ys
 | _,_,_,.nil,.nil=>rfl
 | _,_,_,.cons r t,.cons r' t'=>by rw [r.inj r',Vals.inj t t']
section
variable {X:Cx} {pins:List (Addr×Obj)} {σ:St} {H:Hp} {s:Shared} {a:Addr} {xs ys:List V}
theorem bS.of {K:PySem.W.Frag} (h:H a=some (.lst xs)):bS K H a xs:=.inl (.inl h)
theorem aW.of {K:PySem.W.Frag} (h:H a=some (.tup xs)):aW K H a xs:=.inl (.inl h)
theorem Inv.list (I:Inv X pins σ H s) (h:bS X.K H a xs):∃its:List Value,Vals xs its∧PlainL s.heap a its.toArray∧xs.length≤sizeLine:=by
 rcases h with h | ⟨o,its,n,hk,hc,hd,hs,hz,r⟩
 ·obtain ⟨z,its,n,r,e⟩:=h.ok I.hok
  exact ⟨its,r,⟨_,n,e,rfl,rfl,rfl⟩,z⟩
 ·refine ⟨its.toList,r,⟨o,n,I.mJ a o hk,hc,hd,by simpa using hs⟩,?_⟩
  have e:=r.length
  simp only [Array.length_toList] at e
  omega
theorem Inv.tuple (I:Inv X pins σ H s) (h:aW X.K H a xs):∃its:List Value,Vals xs its∧IsTup s.heap a its.toArray∧xs.length≤sizeLine:=by
 rcases h with h | ⟨o,its,n,hk,hc,hs,hz,r⟩
 ·obtain ⟨z,its,r,p⟩:=h.ok I.hok
  exact ⟨its,r,p,z⟩
 ·refine ⟨its.toList,r,⟨o,I.mJ a o hk,hc,n,by simpa using hs⟩,?_⟩
  have e:=r.length
  simp only [Array.length_toList] at e
  omega
theorem Inv.HQ (I:Inv X pins σ H s) (h:bS X.K H a xs) (h':bS X.K H a ys):xs=ys:=by
 obtain ⟨its,r,⟨o,n,e,_,_,d⟩,_⟩:=I.list h
 obtain ⟨its',r',⟨o',n',e',_,_,d'⟩,_⟩:=I.list h'
 rw [e] at e';cases e'
 rw [d] at d'
 injection d' with d1 _
 have:its=its':=by simpa using congrArg Array.toList d1
 subst this
 exact r.inj r'
theorem Inv.CZ (I:Inv X pins σ H s) (h:aW X.K H a xs) (h':aW X.K H a ys):xs=ys:=by
 obtain ⟨its,r,⟨o,e,_,n,d⟩,_⟩:=I.tuple h
 obtain ⟨its',r',⟨o',e',_,n',d'⟩,_⟩:=I.tuple h'
 rw [e] at e';cases e'
 rw [d] at d'
 injection d' with d1 _
 have:its=its':=by simpa using congrArg Array.toList d1
 subst this
 exact r.inj r'
end
abbrev Cx.uE (X:Cx) (E:Value→Shared→Prop):Cx:={ X with xe:=E }
abbrev Cx.qc (X:Cx):Cx:=X.uE fun _ _=>False
theorem Cx.Ok.uE {X:Cx} (ok:X.Ok) (E:Value→Shared→Prop):(X.uE E).Ok :=
 ⟨ok.mod,ok.kind,ok.glob,ok.blt,ok.above,ok.inj,ok.has,ok.Sw,ok.hd,ok.frames,ok.stk,ok.Vk,ok.bs,ok.KO,ok.Ho,ok.Jb,ok.rO,ok.N2⟩
theorem Cx.Ok.kJ {X:Cx} {E:Value→Shared→Prop} (ok:(X.uE E).Ok):X.Ok :=
 ⟨ok.mod,ok.kind,ok.glob,ok.blt,ok.above,ok.inj,ok.has,ok.Sw,ok.hd,ok.frames,ok.stk,ok.Vk,ok.bs,ok.KO,ok.Ho,ok.Jb,ok.rO,ok.N2⟩
section
variable {X:Cx} {pins:List (Addr×Obj)} {σ:St} {H:Hp} {s:Shared} {E:Value→Shared→Prop}
theorem Inv.uE (I:Inv X pins σ H s) (E:Value→Shared→Prop):Inv (X.uE E) pins σ H s:=⟨I.ok.uE E,I.os,I.bare,I.base,I.loc,I.cell,I.free,I.lR,I.pin,I.hok,I.len⟩
theorem Inv.kJ (I:Inv (X.uE E) pins σ H s):Inv X pins σ H s:=⟨I.ok.kJ,I.os,I.bare,I.base,I.loc,I.cell,I.free,I.lR,I.pin,I.hok,I.len⟩
theorem SP.kJ {D:Ends} {f:Flow} {s':Shared} (h:SP (X.uE E) pins D f s'):SP X pins D f s':=by
 cases f with
 | next=>obtain ⟨σ',H',I,q⟩:=h;exact ⟨σ',H',I.kJ,q⟩
 | brk=>obtain ⟨σ',H',I,q⟩:=h;exact ⟨σ',H',I.kJ,q⟩
 | cont=>obtain ⟨σ',H',I,q⟩:=h;exact ⟨σ',H',I.kJ,q⟩
 | ret u=>obtain ⟨v,σ',H',I,r,q⟩:=h;exact ⟨v,σ',H',I.kJ,r,q⟩
theorem DQ.qc {st:List Stmt} {t:TS} (h:DQ X.qc st t):DQ X st t:=fun pins s σ H D I hw =>
 wpAny_mono (h pins s σ H D (I.uE _) hw) (fun _ _ q=>q.kJ) fun _ _ z=>False.elim z
end
section
variable {X:Cx} {st:Stmt} {rest:List Stmt} {t u:TS} {e:Expr} {te:TE} {pos:Pos}
def Pa:TS:=fun D σ H=>D.nx σ H
def VO (t u:TS):TS:=fun D σ H=>t { D with nx:=u D } σ H
theorem bw:DQ X [] Pa:=fun _ _ σ H _ I h=>wpAny_execs_nil ⟨σ,H,I,h⟩
theorem ai (h1:PS X st t) (h2:DQ X rest u):DQ X (st::rest) (VO t u):=by
 intro pins s σ H D I h
 refine wpAny_execs_cons (fz (h1 pins s σ H { D with nx:=u D } I h) fun f s1 q=>?_)
 cases f with
 | next =>
  obtain ⟨σ',H',I',q⟩:=q
  exact h2 pins s1 σ' H' D I' q
 | ret v=>exact q
 | brk=>exact q
 | cont=>exact q
theorem aA (h1:PS X st t):DQ X [st] t:=by
 intro pins s σ H D I h
 refine wpAny_execs_cons (fz (h1 pins s σ H D I h) fun f s1 q=>?_)
 cases f with
 | next=>exact wpAny_execs_nil q
 | ret v=>exact q
 | brk=>exact q
 | cont=>exact q
theorem Inv.quiet {pins:List (Addr×Obj)} {σ:St} {H:Hp} {s:Shared} (I:Inv X pins σ H s):interactive X.env=false:=by simp [interactive,I.ok.kind]
def Pd (te:TE):TS:=fun D σ H=>te σ H fun _ H1=>D.nx σ H1
theorem fh (he:PE X e te) (hs:swapsWith e none pos.line X.env=pure false:=by rfl):PS X (.Expr e pos) (Pd te):=by
 intro pins s σ H D I h
 exact wpAny_Expr_any (fz (he pins s σ H _ I h) fun v s1 ⟨x,H1,I1,r1,q1⟩=>⟨σ,H1,I1,q1⟩) I.quiet hs
def VP (te:TE):TS:=fun D σ H=>te σ H D.rt
theorem aM (he:PE X e te):PS X (.Return (some e) pos) (VP te):=by
 intro pins s σ H D I h
 exact wpAny_Return_some (fz (he pins s σ H _ I h) fun v s1 ⟨x,H1,I1,r1,q1⟩=>⟨x,σ,H1,I1,r1,q1⟩)
def VR (c:TT) (t u:TS):TS:=fun D σ H=>c σ H fun b H1=>if b=true then t D σ H1 else u D σ H1
theorem cH {c:Expr} {a b:List Stmt} {tc:TT} (hc:PT X c tc) (ha:DQ X a t) (hb:DQ X b u):PS X (.If c a b pos) (VR tc t u):=by
 intro pins s σ H D I h
 refine wpAny_If (fz (hc pins s σ H _ I h) fun d s1 ⟨H1,I1,q1⟩=>?_)
 cases d with
 | true=>exact ha pins s1 σ H1 D I1 q1
 | false=>exact hb pins s1 σ H1 D I1 q1
end
abbrev TG:=V→St→Hp→(St→Hp→Prop)→Prop
abbrev LU:=List V→St→Hp→(St→Hp→Prop)→Prop
def PG (X:Cx) (target:Expr) (t:TG):Prop :=
 ∀(pins:List (Addr×Obj)) (s:Shared) (σ:St) (H:Hp) (v:V) (u:Value) (Q:St→Hp→Prop),Inv X pins σ H s→RelV v u→t v σ H Q →
  wpAny (model X.prog X.w) X.A (assign target X.env u) (fun _ s'=>∃σ' H',Inv X pins σ' H' s'∧Q σ' H') X.xe s
def SI (X:Cx) (ts:List Expr) (t:LU):Prop :=
 ∀(pins:List (Addr×Obj)) (s:Shared) (σ:St) (H:Hp) (vs:List V) (us:List Value) (Q:St→Hp→Prop),Inv X pins σ H s→Vals vs us→t vs σ H Q →
  wpAny (model X.prog X.w) X.A (assignInOrder ((assignEach ts X.env).map (·.2)) us) (fun _ s'=>∃σ' H',Inv X pins σ' H' s'∧Q σ' H') X.xe s
abbrev Jt:=V→V→V→Hp→(Hp→Prop)→Prop
def Ow (X:Cx) (t:Jt):Prop :=
 ∀(pins:List (Addr×Obj)) (s:Shared) (σ:St) (H:Hp) (o i v:V) (ov iv u:Value) (Q:Hp→Prop),Inv X pins σ H s→RelV o ov→RelV i iv→RelV v u→t o i v H Q →
  wpAny (model X.prog X.w) X.A (setItem ov iv u) (fun _ s'=>∃H',Inv X pins σ H' s'∧Q H') X.xe s
abbrev OY:=V→V→Hp→VK→Prop
def PIp (X:Cx) (op:Operator) (t:OY):Prop :=
 ∀(pins:List (Addr×Obj)) (s:Shared) (σ:St) (H:Hp) (x y:V) (v u:Value) (Q:VK),Inv X pins σ H s→RelV x v→RelV y u→t x y H Q →
  wpAny (model X.prog X.w) X.A (inplaceOp op v u) (EP X pins σ Q) X.xe s
section
variable {X:Cx} {pos:Pos}
def vz (i:Nat):TG:=fun v σ H Q=>Q (σ.set i (some v)) H
theorem aP {i:Nat} {x:Str} (hN:X.N.Nodup) (hi:X.N[i]?=some x) (hx:Loc X.env.scope x) (hf:X.fn x=true∨X.env.scope.names.lookup x=some .local:=by first | exact .inl rfl | exact .inr rfl | assumption):PG X (.Name x pos) (vz i):=by
 intro pins s σ H v u Q I r h
 exact wpAny_assign_Name (sS I hN hi hx r (fun s' I'=>⟨_,H,I',h⟩) hf)
def a3X:LU:=fun vs σ H Q=>vs=[]∧Q σ H
def QD (t:TG) (u:LU):LU:=fun vs σ H Q=>∃v r,vs=v::r∧t v σ H fun σ' H'=>u r σ' H' Q
theorem iz:SI X [] a3X:=by
 intro pins s σ H vs us Q I r h
 obtain ⟨e,h⟩:=h
 subst e
 cases r
 exact assignInOrder_nil ⟨σ,H,I,h⟩
theorem bZ {e:Expr} {es:List Expr} {t:TG} {u:LU} (h1:PG X e t) (h2:SI X es u)
  (hs:(assignEach (e::es) X.env).map (·.2)=assign e X.env::(assignEach es X.env).map (·.2):=by rfl):SI X (e::es) (QD t u):=by
 intro pins s σ H vs us Q I r h
 obtain ⟨v,vr,e1,h⟩:=h
 subst e1
 cases r with
 | cons r rr =>
  rw [hs]
  refine assignInOrder_cons (fz (h1 pins s σ H _ _ _ I r h) fun _ s1 ⟨σ1,H1,I1,q1⟩=>?_)
  exact h2 pins s1 σ1 H1 _ _ Q I1 rr q1
def QC (K:PySem.W.Frag) (n:Nat) (t:LU):TG:=fun v σ H Q=>∃a xs,v=.ref a∧aW K H a xs∧xs.length=n∧t xs σ H Q
theorem pZ {es:List Expr} {k:Nat} {t:LU} {n:Nat} (hc:X.calm=true) (h:SI X es t)
  (hn:(assignEach es X.env).length=n:=by rfl) (hst:(assignEach es X.env).findIdx? (·.1)=none:=by rfl):PG X (.Tuple es k pos) (QC X.K n t):=by
 intro pins s σ H v u Q I r hw
 obtain ⟨a,xs,e1,hq,hl,hw⟩:=hw
 subst e1
 cases r
 obtain ⟨its,rv,ht,hz⟩:=I.tuple hq
 refine assign_Tuple_tuple (I.ok.hd hc) ht (by simp [hn,←hl,rv.length]) hst fun h' hx=>?_
 have I1:Inv X pins σ H { s with heap:=h' }:=I.kept (t':=s.toks) fun b o e=>hx b o (Nat.ne_of_lt (Heap.lt_size e)) e
 exact h pins _ σ H xs _ Q I1 (by simpa using rv) hw
def a3W (to ti:TE) (t:Jt):TG:=fun v σ H Q=>to σ H fun o H1=>ti σ H1 fun i H2=>t o i v H2 fun H3=>Q σ H3
theorem MM {o i:Expr} {to ti:TE} {t:Jt} (ho:PE X o to) (hi:PE X i ti) (hs:Ow X t)
  (ha:∀v,assign (.Subscript o i pos) X.env v=(do
   let ov ←holding [v] (eval o X.env)
   let iv ←holding [v,ov] (eval i X.env)
   standAt pos
   holding [v,ov,iv] (setItem ov iv v)
   release [v,ov,iv] []):=by intro _;rfl):PG X (.Subscript o i pos) (a3W to ti t):=by
 intro pins s σ H v u Q I r h
 rw [ha]
 refine wpAny_bind (wpAny_holding (fz (ho pins s σ H _ I h) fun ov s1 ⟨x,H1,I1,r1,q1⟩=>?_))
 refine wpAny_bind (wpAny_holding (fz (hi pins s1 σ H1 _ I1 q1) fun iv s2 ⟨y,H2,I2,r2,q2⟩=>?_))
 refine wpAny_bind (wpAny_standAt (wpAny_bind (wpAny_holding (fz (hs pins s2 σ H2 x y v ov iv u _ I2 r1 r2 r q2) fun _ s3 ⟨H3,I3,q3⟩=>?_))))
 exact wpAny_release ⟨σ,H3,I3,q3⟩
def Mx (te:TE) (g:TG):TS:=fun D σ H=>te σ H fun x H1=>g x σ H1 D.nx
theorem tS {tg e:Expr} {te:TE} {g:TG} (he:PE X e te) (hg:PG X tg g) (hs:swapsWithSole [tg] e pos.line X.env=pure false:=by rfl) (hw:swappedStores [tg] e X.env=pure none:=by rfl)
  (h1:(assignEach [tg] X.env).map (·.2)=[assign tg X.env]:=by rfl):PS X (.Assign [tg] e pos) (Mx te g):=by
 intro pins s σ H D I h
 refine wpAny_Assign_stores (fz (he pins s σ H _ I h) fun v s1 ⟨x,H1,I1,r1,q1⟩=>?_) hs hw
 rw [h1]
 exact fz (hg pins s1 σ H1 x v _ I1 r1 q1) fun _ s2 q=>q
theorem aT {i:Nat} {x:Str} {e:Expr} {te:TE} {pos':Pos} (hN:X.N.Nodup) (hi:X.N[i]?=some x) (hx:Loc X.env.scope x) (he:PE X e te) (hs:swapsWith e (some (.Name x pos')) pos.line X.env=pure false:=by rfl) (hf:X.fn x=true∨X.env.scope.names.lookup x=some .local:=by first | exact .inl rfl | exact .inr rfl | assumption) :
  PS X (.Assign [.Name x pos'] e pos) (Mx te (vz i)):=by
 intro pins s σ H D I h
 refine wpAny_Assign_Name (fz (he pins s σ H _ I h) fun v s1 ⟨y,H1,I1,r1,q1⟩=>?_) hs
 exact sS I1 hN hi hx r1 (fun s2 I2=>⟨_,H1,I2,q1⟩) hf
def VV (i:Nat) (te:TE) (ti:OY):TS:=fun D σ H=>∃x,σ[i]?=some (some x)∧te σ H fun y H1=>ti x y H1 fun z H2=>D.nx (σ.set i (some z)) H2
theorem MK {i:Nat} {x:Str} {e:Expr} {te:TE} {op:Operator} {ti:OY} {pos':Pos} (hN:X.N.Nodup) (hi:X.N[i]?=some x) (hx:Loc X.env.scope x) (he:PE X e te) (ho:PIp X op ti) (hf:X.fn x=true∨X.env.scope.names.lookup x=some .local:=by first | exact .inl rfl | exact .inr rfl | assumption) :
  PS X (.AugAssign (.Name x pos') op e pos) (VV i te ti):=by
 intro pins s σ H D I h
 obtain ⟨v,e1,h⟩:=h
 obtain ⟨m,hn,hl⟩:=I.loc
 have vis:Vu X.env.scope x:=by rcases hx with k | k;exact .inl k;exact .inr (.inl k)
 obtain ⟨u,r,l⟩:=hl i x v hi e1 vis
 refine wpAny_AugAssign_Name ?_
 have go:wpAny (model X.prog X.w) X.A (eval e X.env) (fun w s₂=>wpAny (model X.prog X.w) X.A (inplaceOp op u w) (fun r s₃=>wpAny (model X.prog X.w) X.A (storeName X.env x r) (fun _=>SP X pins D .next) X.xe s₃) X.xe s₂) X.xe s:=by
  refine fz (he pins s σ H _ I h) fun w s1 ⟨y,H1,I1,r1,q1⟩=>?_
  refine fz (ho pins s1 σ H1 v y u w _ I1 r r1 q1) fun z s2 ⟨zv,H2,I2,r2,q2⟩=>?_
  exact sS I2 hN hi hx r2 (fun s3 I3=>⟨_,H2,I3,q2⟩) hf
 rcases l with ⟨hk,hm⟩ | ⟨hk,c,hc,hcell⟩
 ·exact wpAny_loadName_local I.ok.kind hk hn hm go
 ·rcases hk with hk | hk
  ·exact wpAny_loadName_cell I.ok.kind hk hc hcell go
  ·rcases hx with k | k
   ·have:X.env.scope.names.lookup x=some .free:=hk
    rw [k] at this;cases this
   ·have:X.env.scope.names.lookup x=some .free:=hk
    rw [k] at this;cases this
def Ph (to ti te:TE) (JS:V→V→Hp→VK→Prop) (Tj:OY) (JQ:Jt):TS:=fun D σ H=>to σ H fun o H1=>ti σ H1 fun i H2=>JS o i H2 fun x H3=>te σ H3 fun y H4=>Tj x y H4 fun z H5=>JQ o i z H5 fun H6=>D.nx σ H6
def SJ (X:Cx) (t:V→V→Hp→VK→Prop):Prop :=
 ∀(pins:List (Addr×Obj)) (s:Shared) (σ:St) (H:Hp) (o i:V) (ov iv:Value) (Q:VK),Inv X pins σ H s→RelV o ov→RelV i iv→t o i H Q →
  wpAny (model X.prog X.w) X.A (getItem ov iv) (EP X pins σ Q) X.xe s
theorem J2 {o i e:Expr} {to ti te:TE} {JS:V→V→Hp→VK→Prop} {Tj:OY} {JQ:Jt} {op:Operator} {tpos:Pos} (ho:PE X o to) (hi:PE X i ti) (hg:SJ X JS) (he:PE X e te) (hp:PIp X op Tj) (hs:Ow X JQ)
  (ha:∀ov iv new,augStore i ov iv new=(do holding [new,ov,iv] (setItem ov iv new);release [new,ov,iv] [];pure .next):=by intros;rfl):PS X (.AugAssign (.Subscript o i tpos) op e pos) (Ph to ti te JS Tj JQ):=by
 intro pins s σ H D I h
 refine wpAny_AugAssign_SubscriptAny (fz (ho pins s σ H _ I h) fun ov s1 ⟨x1,H1,I1,r1,q1⟩=>?_) ha
 refine fz (hi pins s1 σ H1 _ I1 q1) fun iv s2 ⟨x2,H2,I2,r2,q2⟩=>?_
 refine fz (hg pins s2 σ H2 x1 x2 ov iv _ I2 r1 r2 q2) fun old s3 ⟨x3,H3,I3,r3,q3⟩=>?_
 refine fz (he pins s3 σ H3 _ I3 q3) fun v s4 ⟨x4,H4,I4,r4,q4⟩=>?_
 refine fz (hp pins s4 σ H4 x3 x4 old v _ I4 r3 r4 q4) fun new s5 ⟨x5,H5,I5,r5,q5⟩=>?_
 exact fz (hs pins s5 σ H5 x1 x2 x5 ov iv new _ I5 r1 r2 r5 q5) fun _ s6 ⟨H6,I6,q6⟩=>⟨σ,H6,I6,q6⟩
def ipI (f:Int→Int→Int):OY:=fun x y H Q=>∃i j,x=.int i∧y=.int j∧Q (.int (f i j)) H
theorem Iz:PIp X .Add (ipI fun i j=>i+j):=by
 intro pins s σ H x y v u Q I r1 r2 h
 obtain ⟨i,j,e1,e2,q⟩:=h
 subst e1;subst e2
 obtain ⟨t,rfl⟩:=r1
 obtain ⟨t',rfl⟩:=r2
 exact iadd_int ⟨.int _,H,I.tok _,⟨_,rfl⟩,q⟩
end
section
variable {X:Cx} {pos:Pos}
def EI (c:TT) (tb:TS):TS:=fun D σ H=>∃W:Nat→St→Hp→Prop,(∃m,W m σ H)∧∀m σ H,W m σ H →
 c σ H fun b H1=>if b=true then ∃N:St→Hp→Prop,(∀σ' H',N σ' H'→∃m',m'<m∧W m' σ' H')∧tb { D with nx:=N,ct:=N,bk:=D.nx } σ H1 else D.nx σ H1
theorem Fl {c:Expr} {body:List Stmt} {tc:TT} {tb:TS} (hp:PassesOwn (model X.prog X.w) X.A X.env X.xe) (hc:PT X c tc) (hb:DQ X body tb):PS X (.While c body [] pos) (EI tc tb):=by
 intro pins s σ H D I h
 obtain ⟨W,⟨m0,w0⟩,turn⟩:=h
 refine wpAny_While (codeAny_whileLoop (fun n s'=>∃σ' H',Inv X pins σ' H' s'∧W n σ' H') ?_ m0 ⟨σ,H,I,w0⟩)
 rintro n s1 ⟨σ1,H1,I1,w1⟩
 refine wpAny_passesOwn hp (fz (hc pins s1 σ1 H1 _ I1 (turn n σ1 H1 w1)) fun b s2 ⟨H2,I2,q2⟩=>?_)
 cases b with
 | true =>
  obtain ⟨N,hN,q2⟩:=q2
  rw [if_pos rfl]
  refine wpAny_passesOwn hp (fz (hb pins s2 σ1 H2 _ I2 q2) fun f s3 q3=>?_)
  cases f with
  | next =>
   obtain ⟨σ3,H3,I3,n3⟩:=q3
   obtain ⟨m',hm,w3⟩:=hN σ3 H3 n3
   exact ⟨m',hm,σ3,H3,I3,w3⟩
  | cont =>
   obtain ⟨σ3,H3,I3,n3⟩:=q3
   obtain ⟨m',hm,w3⟩:=hN σ3 H3 n3
   exact ⟨m',hm,σ3,H3,I3,w3⟩
  | brk=>exact q3
  | ret v=>exact q3
 | false =>
  rw [if_neg Bool.false_ne_true]
  exact wpAny_execs_nil ⟨σ1,H2,I2,q2⟩
end
structure It where
 go:Nat→Hp→Prop
 Mi:Nat→Hp→V→Hp→Prop
 stop:Nat→Hp→Prop
def rQ (X:Cx) (pins:List (Addr×Obj)) (H:Hp) (b:Addr):Prop :=
 H b=none∧b≠X.env.locals∧b ∉ X.fs∧(b∈X.ex∨X.s₀.heap.objs.size≤b)∧(∀x c,X.env.cells.lookup x=some c→c≠b)∧∀p∈X.pn++pins,p.1≠b
theorem Inv.Ja {X:Cx} {pins:List (Addr×Obj)} {σ:St} {H H':Hp} {s:Shared} {b:Addr} (I:Inv X pins σ H s) (hb:s.heap.objs.size≤b) (hn:H' b=none):rQ X pins H' b:=by
 refine ⟨hn,Nat.ne_of_gt (Nat.lt_of_lt_of_le I.lt hb),I.PV hb,.inr (Nat.le_trans I.sz hb),fun x c e z=>?_,fun p hp z=>?_⟩
 ·obtain ⟨v,q⟩:=I.cell x c e
  exact absurd (Nat.lt_of_lt_of_le q.lt (by rw [z];exact hb)) (Nat.lt_irrefl _)
 ·exact absurd (Nat.lt_of_lt_of_le (Heap.lt_size (I.pin p hp).1) (by rw [z];exact hb)) (Nat.lt_irrefl _)
structure Turn (P:Program) (w:World) (K:PySem.W.Frag) (tg:Expr) (J:It) (fp:List Addr) (it:Addr) (tn:Nat→Heap→Prop):Prop where
 mem:it∈fp
 obj:∀i h,tn i h→∀b∈fp,∃o,h.get? b=some o∧∀v,o.data≠.cell v
 keep:∀i h h',tn i h→(∀b∈fp,∀o,h.get? b=some o→h'.get? b=some o)→tn i h'
 item:∀(X:Cx),X.prog=P→X.w=w→X.K=K→X.calm=true→∀(i:Nat) (pins:List (Addr×Obj)) (s:Shared) (σ:St) (H:Hp) (E:Value→Shared→Prop),Inv X pins σ H s→(∀b∈fp,rQ X pins H b)→tn i s.heap→J.go i H →
  wpAny (model P w) X.A (pyNext (.ref it)) (fun r s1=>∃u,r=some u ∧
   wpAny (model P w) X.A (letOwnedTupleGo tg (.ref it) u) (fun _ s2=>∃x H',Inv X pins σ H' s2∧RelV x u∧J.Mi i H x H'∧tn (i+1) s2.heap∧∀b∈fp,H' b=none) E s1) E s
 done:∀(X:Cx),X.prog=P→X.w=w→X.K=K→X.calm=true→∀(i:Nat) (pins:List (Addr×Obj)) (s:Shared) (σ:St) (H:Hp) (E:Value→Shared→Prop),Inv X pins σ H s→(∀b∈fp,rQ X pins H b)→tn i s.heap→J.stop i H →
  wpAny (model P w) X.A (pyNext (.ref it)) (fun r s1=>r=none∧Inv X pins σ H s1) E s
 self:∀(A:Around) (i:Nat) (s:Shared) (Q:Value→Shared→Prop) (E:Value→Shared→Prop),tn i s.heap→Q (.ref it) s→wpAny (model P w) A (pyIter (.ref it)) Q E s
abbrev TI:=St→Hp→(It→Hp→Prop)→Prop
def PIE (X:Cx) (pins:List (Addr×Obj)) (σ:St) (tg:Expr) (R:It→Hp→Prop) (itv:Value) (s2:Shared):Prop :=
 ∃(it:Addr) (fp:List Addr) (tn:Nat→Heap→Prop) (J:It) (H':Hp),itv=.ref it∧Inv X pins σ H' s2∧Turn X.prog X.w X.K tg J fp it tn∧tn 0 s2.heap∧(∀b∈fp,rQ X pins H' b)∧R J H'
def PI (X:Cx) (tg iter:Expr) (wi:TI):Prop :=
 ∀(pins:List (Addr×Obj)) (s:Shared) (σ:St) (H:Hp) (R:It→Hp→Prop),Inv X pins σ H s→wi σ H R →
  wpAny (model X.prog X.w) X.A (eval iter X.env) (fun v s1=>wpAny (model X.prog X.w) X.A (pyIter v) (PIE X pins σ tg R) X.xe s1) X.xe s
theorem IZ {M:Model} {A:Around} {E:Value→Shared→Prop} {s:Shared} {tg:Expr} {it:Addr} {u:Value} {o:Obj} {n:String} {vs:Array Value} {Q:Unit→Shared→Prop} (ho:s.heap.get? it=some o) (hc:o.cls=.type n) (hd:o.data=.fields vs)
  (hn:["enumerate","zip","dict_itemiterator","dict_reverseitemiterator","odict_iterator","itertools.zip_longest","itertools.pairwise"].contains n=false) (hQ:Q () s):wpAny M A (letOwnedTupleGo tg (.ref it) u) Q E s:=by
 unfold letOwnedTupleGo
 cases tg<;>first
  | exact wpAny_pure hQ
  | (cases u<;>first
    | exact wpAny_pure hQ
    | (
      refine wpAny_bind (wpAny_load ho ?_)
      rw [hc,hd]
      show wpAny M A (if (["enumerate","zip","dict_itemiterator","dict_reverseitemiterator","odict_iterator","itertools.zip_longest","itertools.pairwise"].contains n&&vs[0]? == some (rawInt _))=true then _ else _) Q E s
      rw [if_neg (by intro h;rw [hn,Bool.false_and] at h;cases h)]
      exact wpAny_pure hQ))
def KY (K:PySem.W.Frag) (a:Addr):It :=
 ⟨fun i H=>∃xs x,bS K H a xs∧xs[i]?=some x,fun i H x H'=>H'=H∧∀xs,bS K H a xs→xs[i]?=some x,fun i H=>∃xs,bS K H a xs∧xs.length≤i⟩
def JM (K:PySem.W.Frag) (a:Addr):It :=
 ⟨fun i H=>∃xs x,aW K H a xs∧xs[i]?=some x,fun i H x H'=>H'=H∧∀xs,aW K H a xs→xs[i]?=some x,fun i H=>∃xs,aW K H a xs∧xs.length≤i⟩
def Oz (lo:Int) (n:Nat):It:=⟨fun i _=>i<n,fun i H x H'=>H'=H∧x=.int (lo+i),fun i _=>n≤i⟩
theorem u6 {P:Program} {w:World} {K:PySem.W.Frag} {tg:Expr} (a it:Addr):Turn P w K tg (KY K a) [it] it (fun i h=>h.IsListIter it a i) where
 mem:=by simp
 obj:=fun i h st b hb=>by
  have e:b=it:=by simpa using hb
  subst e
  obtain ⟨o,e,c,d⟩:=st
  exact ⟨o,e,fun v z=>by rw [d] at z;cases z⟩
 keep:=fun i h h' st k=>st.at fun o e=>k it (by simp) o e
 item:=by
  intro X hP hw hK hc i pins s σ H E I hf st hg
  subst hP hw hK
  obtain ⟨xs,x,hq,hx⟩:=hg
  obtain ⟨its,rv,p,hz⟩:=I.list hq
  obtain ⟨u,hu,ru⟩:=rv.get hx
  obtain ⟨f0,f1,f2,f3,f4,f5⟩:=hf it (by simp)
  refine wpAny_pyNext_list_item st p.isList (x:=u) (by simpa using hu) fun h' st' sb=>?_
  have I1:Inv X pins σ H { s with heap:=h' }:=I.turned (t':=s.toks) (fun b o hb e=>(sb.2 b hb).trans e) f0 f1 f3 f4 f5
  obtain ⟨o,e,c,d⟩:=id st'
  exact ⟨u,rfl,IZ (s:={ s with heap:=h' }) e c d (by decide) ⟨x,H,I1,ru,⟨rfl,fun ys hy=>by rw [I.HQ hy hq];exact hx⟩,st',fun b hb=>(hf b hb).1⟩⟩
 done:=by
  intro X hP hw hK hc i pins s σ H E I hf st hg
  subst hP hw hK
  obtain ⟨xs,hq,hx⟩:=hg
  obtain ⟨its,rv,p,hz⟩:=I.list hq
  obtain ⟨f0,f1,f2,f3,f4,f5⟩:=hf it (by simp)
  have hl:=rv.length
  exact wpAny_pyNext_list_end (I.ok.hd hc) st p.isList (by simp;omega) fun h' eb=>⟨rfl,I.turned (t':=s.toks) (fun b o hb e=>eb b o hb e) f0 f1 f3 f4 f5⟩
 self:=fun _ _ _ _ _ st h=>wpAny_pyIter_listiter st h
theorem sP {P:Program} {w:World} {K:PySem.W.Frag} {tg:Expr} (a it:Addr):Turn P w K tg (JM K a) [it] it (fun i h=>h.IsTupleIter it a i) where
 mem:=by simp
 obj:=fun i h st b hb=>by
  have e:b=it:=by simpa using hb
  subst e
  obtain ⟨o,e,c,d⟩:=st
  exact ⟨o,e,fun v z=>by rw [d] at z;cases z⟩
 keep:=fun i h h' st k=>st.at fun o e=>k it (by simp) o e
 item:=by
  intro X hP hw hK hc i pins s σ H E I hf st hg
  subst hP hw hK
  obtain ⟨xs,x,hq,hx⟩:=hg
  obtain ⟨its,rv,p,hz⟩:=I.tuple hq
  obtain ⟨u,hu,ru⟩:=rv.get hx
  obtain ⟨f0,f1,f2,f3,f4,f5⟩:=hf it (by simp)
  refine wpAny_pyNext_tuple_item st (show s.heap.IsTuple a its.toArray from p) (x:=u) (by simpa using hu) fun h' st' sb=>?_
  have I1:Inv X pins σ H { s with heap:=h' }:=I.turned (t':=s.toks) (fun b o hb e=>(sb.2 b hb).trans e) f0 f1 f3 f4 f5
  obtain ⟨o,e,c,d⟩:=id st'
  exact ⟨u,rfl,IZ (s:={ s with heap:=h' }) e c d (by decide) ⟨x,H,I1,ru,⟨rfl,fun ys hy=>by rw [I.CZ hy hq];exact hx⟩,st',fun b hb=>(hf b hb).1⟩⟩
 done:=by
  intro X hP hw hK hc i pins s σ H E I hf st hg
  subst hP hw hK
  obtain ⟨xs,hq,hx⟩:=hg
  obtain ⟨its,rv,p,hz⟩:=I.tuple hq
  obtain ⟨f0,f1,f2,f3,f4,f5⟩:=hf it (by simp)
  have hl:=rv.length
  exact wpAny_pyNext_tuple_end (I.ok.hd hc) st (show s.heap.IsTuple a its.toArray from p) (by simp;omega) fun h' eb=>⟨rfl,I.turned (t':=s.toks) (fun b o hb e=>eb b o hb e) f0 f1 f3 f4 f5⟩
 self:=fun _ _ _ _ _ st h=>wpAny_pyIter_tupleiter st h
theorem AV {P:Program} {w:World} {K:PySem.W.Frag} {tg:Expr} (it:Addr) (lo:Int) (n:Nat):Turn P w K tg (Oz lo n) [it] it (fun i h=>IsRangeIter h it (lo+(i:Nat)*1) ((n:Int)-(i:Nat)) 1) where
 mem:=by simp
 obj:=fun i h st b hb=>by
  have e:b=it:=by simpa using hb
  subst e
  exact ⟨_,st,fun v z=>by
   have z':Data.fields _=Data.cell v:=z
   cases z'⟩
 keep:=fun i h h' st k=>k it (by simp) _ st
 item:=by
  intro X hP hw hK hc i pins s σ H E I hf st hg
  subst hP hw hK
  obtain ⟨f0,f1,f2,f3,f4,f5⟩:=hf it (by simp)
  have W:=Walks.range (prog:=X.prog) (w:=X.w) (I.ok.hd hc) it lo 1 n
  refine W.item i s _ _ hg st fun v h' tk hv st' kk=>?_
  obtain ⟨t,rfl⟩:=hv
  have I1:Inv X pins σ H { s with heap:=h',toks:=tk }:=I.turned (fun b o hb e=>kk b o (by simpa using hb) e) f0 f1 f3 f4 f5
  refine ⟨_,rfl,IZ (s:={ s with heap:=h',toks:=tk }) (n:="range_iterator") st' rfl rfl (by decide) ⟨.int (lo+i),H,I1,⟨t,?_⟩,⟨rfl,rfl⟩,st',fun b hb=>(hf b hb).1⟩⟩
  rw [Int.mul_one]
 done:=by
  intro X hP hw hK hc i pins s σ H E I hf st hg
  subst hP hw hK
  obtain ⟨f0,f1,f2,f3,f4,f5⟩:=hf it (by simp)
  exact wpAny_pyNext_range_end (I.ok.hd hc) st (by have:n≤i:=hg;omega) fun h' eb=>⟨rfl,I.turned (t':=s.toks) (fun b o hb e=>eb b o hb e) f0 f1 f3 f4 f5⟩
 self:=fun _ _ _ _ _ st h=>wpAny_pyIter_rangeiter st h
end L2
namespace L2
open PySem PySem.Spec PyProof.Rows
section
variable {X:Cx} {tg:Expr}
def Qv (K:PySem.W.Frag) (tl:TE):TI:=fun σ H R=>tl σ H fun x H1=>∃a,x=.ref a∧(∃xs,bS K H1 a xs)∧R (KY K a) H1
def Qt (K:PySem.W.Frag) (tl:TE):TI:=fun σ H R=>tl σ H fun x H1=>∃a,x=.ref a∧(∃xs,aW K H1 a xs)∧R (JM K a) H1
theorem gp {l:Expr} {tl:TE} (hl:PE X l tl):PI X tg l (Qv X.K tl):=by
 intro pins s σ H R I h
 refine fz (hl pins s σ H _ I h) fun v s1 ⟨x,H1,I1,r1,q1⟩=>?_
 obtain ⟨a,e,⟨xs,hq⟩,q⟩:=q1
 subst e
 cases r1
 obtain ⟨its,rv,p,hz⟩:=I1.list hq
 refine wpAny_pyIter_list p.isList ?_
 refine ⟨s1.heap.objs.size,[s1.heap.objs.size],_,_,H1,rfl,I1.kept (t':=s1.toks) fun b o e=>Heap.get?_push_of_some _ e,u6 a _,⟨_,Heap.get?_push_size _ rfl,rfl,rfl⟩,fun b hb=>?_,q⟩
 have e:b=s1.heap.objs.size:=by simpa using hb
 subst e
 exact I1.Ja (Nat.le_refl _) (I1.hok.fresh (Nat.le_refl _))
theorem eX {l:Expr} {tl:TE} (hl:PE X l tl):PI X tg l (Qt X.K tl):=by
 intro pins s σ H R I h
 refine fz (hl pins s σ H _ I h) fun v s1 ⟨x,H1,I1,r1,q1⟩=>?_
 obtain ⟨a,e,⟨xs,hq⟩,q⟩:=q1
 subst e
 cases r1
 obtain ⟨its,rv,p,hz⟩:=I1.tuple hq
 refine wpAny_pyIter_tuple (show s1.heap.IsTuple a its.toArray from p) ?_
 refine ⟨s1.heap.objs.size,[s1.heap.objs.size],_,_,H1,rfl,I1.kept (t':=s1.toks) fun b o e=>Heap.get?_push_of_some _ e,sP a _,⟨_,Heap.get?_push_size _ rfl,rfl,rfl⟩,fun b hb=>?_,q⟩
 have e:b=s1.heap.objs.size:=by simpa using hb
 subst e
 exact I1.Ja (Nat.le_refl _) (I1.hok.fresh (Nat.le_refl _))
theorem Ff {pins:List (Addr×Obj)} {σ:St} {H:Hp} {s:Shared} {R:It→Hp→Prop} {E:Value→Shared→Prop} {lo hi:Int} {t u v:Tok} {tk:Nat} (I:Inv X pins σ H s) (h1:-(2 ^ 62)≤lo) (h2:lo<2 ^ 62) (h3:-(2 ^ 62)≤hi) (h4:hi<2 ^ 62)
  (q:R (Oz lo (hi-lo).toNat) H):wpAny (model X.prog X.w) X.A (pyIter (.ref s.heap.objs.size)) (PIE X pins σ tg R) E { s with heap:=s.heap.push { cls:=.type "range",data:=.fields #[.int lo t,.int hi u,.int 1 v] },toks:=tk }:=by
 refine wpAny_pyIter_range (IsRange.new ..) (small_one h1 h2 h3 h4) ?_
 have I1:Inv X pins σ H { s with heap:=s.heap.push { cls:=.type "range",data:=.fields #[.int lo t,.int hi u,.int 1 v] },toks:=tk }:=I.kept fun b o e=>Heap.get?_push_of_some _ e
 refine ⟨(s.heap.push { cls:=.type "range",data:=.fields #[.int lo t,.int hi u,.int 1 v] }).objs.size,[(s.heap.push { cls:=.type "range",data:=.fields #[.int lo t,.int hi u,.int 1 v] }).objs.size],_,_,H,rfl,
  I1.kept (t':=tk) fun b o e=>Heap.get?_push_of_some _ e,AV _ lo (hi-lo).toNat,?_,fun b hb=>?_,q⟩
 ·have e1:lo+((0:Nat):Int)*1=lo:=by simp
  have e2:(((hi-lo).toNat:Nat):Int)-((0:Nat):Int)=Builtin.Range.rangeSize lo hi 1:=by rw [rangeSize_one];split<;>omega
  show IsRangeIter _ _ (lo+((0:Nat):Int)*1) ((((hi-lo).toNat:Nat):Int)-((0:Nat):Int)) 1
  rw [e1,e2]
  exact Heap.get?_push_size _ rfl
 ·have e:b=(s.heap.push { cls:=.type "range",data:=.fields #[.int lo t,.int hi u,.int 1 v] }).objs.size:=by simpa using hb
  subst e
  exact I1.Ja (Nat.le_refl _) (I1.hok.fresh (Nat.le_refl _))
def Qu (ta:TA):TI:=fun σ H R=>ta σ H fun vs H1=>∃j:Int,vs=[.int j]∧-(2 ^ 62)≤j∧j<2 ^ 62∧R (Oz 0 j.toNat) H1
theorem fq {a:Expr} {ta:TA} {p pos:Pos} (hg:Gl X "range") (hm:X.mg "range"=none) (ha:PA X [a] ta) (hs:starEach [a] X.env=[(false,eval a X.env)]:=by rfl):PI X tg (.Call (.Name "range" p) [a] [] pos) (Qu ta):=by
 intro pins s σ H R I h
 refine Call_ (wM I hg hm boot_range (PyProof.Rows.callWith_type1 (fz (ha pos pins s σ H _ I h) fun us s1 ⟨vs,H1,I1,r1,q1⟩=>?_) hs rfl))
 obtain ⟨j,e,q1,q2,q⟩:=q1
 subst e
 cases r1 with
 | cons r rr =>
  cases rr
  obtain ⟨t,rfl⟩:=r
  exact call_range_1 (Ff I1 (by omega) (by omega) q1 q2 (by simpa using q))
def VS (wi:TI) (g:TG) (tb:TS):TS:=fun D σ H=>wi σ H fun J H1=>∃W:Nat→Nat→St→Hp→Prop,(∃m,W 0 m σ H1)∧∀i m σ H,W i m σ H →
 (J.stop i H∧D.nx σ H)∨(J.go i H∧∃N:St→Hp→Prop,(∀σ' H',N σ' H'→∃m',m'<m∧W (i+1) m' σ' H')∧∀x H',J.Mi i H x H'→g x σ H' fun σ2 H2=>tb { D with nx:=N,ct:=N,bk:=D.nx } σ2 H2)
def tT (fp:List Addr) (h:Heap):List (Addr×Obj):=fp.filterMap fun b=>(h.get? b).map fun o=>(b,o)
theorem kr {fp:List Addr} {h:Heap} {b:Addr} {o:Obj} (hb:b∈fp) (e:h.get? b=some o):(b,o)∈tT fp h:=List.mem_filterMap.mpr ⟨b,hb,by rw [e];rfl⟩
theorem De {fp:List Addr} {h:Heap} {p:Addr×Obj} (hp:p∈tT fp h):p.1∈fp∧h.get? p.1=some p.2:=by
 obtain ⟨b,hb,e⟩:=List.mem_filterMap.mp hp
 cases q:h.get? b with
 | none=>rw [q] at e;cases e
 | some o =>
  rw [q] at e
  have e':(b,o)=p:=Option.some.inj e
  subst e'
  exact ⟨hb,q⟩
theorem Inv.pinned {pins:List (Addr×Obj)} {σ:St} {H:Hp} {s:Shared} {fp:List Addr} (I:Inv X pins σ H s) (hf:∀b∈fp,rQ X pins H b) (ho:∀b∈fp,∃o,s.heap.get? b=some o∧∀v,o.data≠.cell v):Inv X (pins++tT fp s.heap) σ H s :=
 I.r8 fun p hp=>(List.mem_append.mp hp).elim (fun z=>I.pin p (List.mem_append_right _ z)) fun z=>by
  obtain ⟨hb,e⟩:=De z
  obtain ⟨f0,f1,f2,_⟩:=hf p.1 hb
  obtain ⟨o,e',d⟩:=ho p.1 hb
  rw [e] at e';cases e'
  exact ⟨e,f0,f1,f2,d⟩
theorem Inv.nZ {pins pl:List (Addr×Obj)} {σ:St} {H:Hp} {s:Shared} (I:Inv X (pins++pl) σ H s):Inv X pins σ H s:=I.r8 fun p hp=>I.pin p (List.mem_append_right _ (List.mem_append_left _ hp))
theorem kc {iter:Expr} {body:List Stmt} {wi:TI} {g:TG} {tb:TS} {pos:Pos} (hp:PassesOwn (model X.prog X.w) X.A X.env X.xe) (hc:X.calm=true) (hi:PI X tg iter wi) (hg:PG X tg g) (hb:DQ X body tb)
  (hs:∀x,foldedSetIterable iter X.env x=pure x:=by intro _;rfl):PS X (.For tg iter body [] pos) (VS wi g tb):=by
 intro pins s σ H D I h
 refine wpAny_For (fz (hi pins s σ H _ I h) fun v s1 h1=>fz h1 fun itv s2 h2=>?_) hs
 obtain ⟨it,fp,tn,J,H2,e,I2,T,st2,f2,W,⟨m0,w0⟩,turn⟩:=h2
 subst e
 have Mz:∀{H':Hp},(∀b∈fp,H' b=none)→∀b∈fp,rQ X pins H' b:=fun hn b hb=>⟨hn b hb,(f2 b hb).2⟩
 refine codeAny_forLoop_any (fun n s'=>∃i σ' H',Inv X pins σ' H' s'∧tn i s'.heap∧(∀b∈fp,H' b=none)∧W i n σ' H') ?_ m0 ⟨0,σ,H2,I2,st2,fun b hb=>(f2 b hb).1,w0⟩
 rintro n s3 ⟨i,σ3,H3,I3,st3,fr3,w3⟩
 rcases turn i n σ3 H3 w3 with ⟨stop,qn⟩ | ⟨go,N,hN,step⟩
 ·refine wpAny_passesOwn hp (fz (T.done X rfl rfl rfl hc i pins s3 σ3 H3 X.xe I3 (Mz fr3) st3 stop) fun r s4 ⟨hr,I4⟩=>?_)
  subst hr
  exact wpAny_execs_nil ⟨σ3,H3,I4,qn⟩
 ·refine wpAny_passesOwn hp (fz (T.item X rfl rfl rfl hc i pins s3 σ3 H3 X.xe I3 (Mz fr3) st3 go) fun r s4 ⟨u,hr,h4⟩=>?_)
  subst hr
  refine wpAny_passesOwn hp (fz h4 fun _ s5 ⟨x,H5,I5,r5,y5,V0,fr5⟩=>?_)
  have I5':=I5.pinned (Mz fr5) (T.obj _ _ V0)
  refine wpAny_passesOwn hp (fz (hg _ s5 σ3 H5 x u _ I5' r5 (step x H5 y5)) fun _ s6 ⟨σ6,H6,I6,q6⟩=>?_)
  refine wpAny_passesOwn hp (fz (hb _ s6 σ6 H6 _ I6 q6) fun f s7 q7=>?_)
  have again:∀{σ7:St} {H7:Hp},Inv X (pins++tT fp s5.heap) σ7 H7 s7→N σ7 H7→∃m,m<n∧∃i σ' H',Inv X pins σ' H' s7∧tn i s7.heap∧(∀b∈fp,H' b=none)∧W i m σ' H':=fun {σ7 H7} I7 n7=>by
   obtain ⟨m',hm,w7⟩:=hN σ7 H7 n7
   refine ⟨m',hm,i+1,σ7,H7,I7.nZ,T.keep _ _ _ V0 fun b hb o e=>(I7.pin (b,o) (List.mem_append_right _ (List.mem_append_right _ (kr hb e)))).1,fun b hb=>?_,w7⟩
   obtain ⟨o,e,d⟩:=T.obj _ _ V0 b hb
   exact (I7.pin (b,o) (List.mem_append_right _ (List.mem_append_right _ (kr hb e)))).2.1
  cases f with
  | next=>obtain ⟨σ7,H7,I7,n7⟩:=q7;exact again I7 n7
  | cont=>obtain ⟨σ7,H7,I7,n7⟩:=q7;exact again I7 n7
  | brk=>obtain ⟨σ7,H7,I7,q7⟩:=q7;exact ⟨σ7,H7,I7.nZ,q7⟩
  | ret v=>obtain ⟨x7,σ7,H7,I7,r7,q7⟩:=q7;exact ⟨x7,σ7,H7,I7.nZ,r7,q7⟩
end
theorem yh {K:PySem.W.Frag} {a:Addr} {xs:List V} {g:TG} {tb:TS} {D:Ends} {σ:St} {H:Hp} (Pv:Nat→St→Hp→Prop) (h0:Pv 0 σ H) (hl:∀i σ H,i≤xs.length→Pv i σ H→bS K H a xs)
  (hs:∀i x σ H,xs[i]?=some x→Pv i σ H→g x σ H fun σ2 H2=>tb { D with nx:=Pv (i+1),ct:=Pv (i+1),bk:=D.nx } σ2 H2) (hd:∀σ H,Pv xs.length σ H→D.nx σ H) :
  ∃W:Nat→Nat→St→Hp→Prop,(∃m,W 0 m σ H)∧∀i m σ H,W i m σ H →
   ((KY K a).stop i H∧D.nx σ H)∨((KY K a).go i H∧∃N:St→Hp→Prop,(∀σ' H',N σ' H'→∃m',m'<m∧W (i+1) m' σ' H')∧∀x H',(KY K a).Mi i H x H'→g x σ H' fun σ2 H2=>tb { D with nx:=N,ct:=N,bk:=D.nx } σ2 H2):=by
 refine ⟨fun i m σ H=>m=xs.length-i∧i≤xs.length∧Pv i σ H,⟨xs.length,by simp,Nat.zero_le _,h0⟩,?_⟩
 rintro i m σ H ⟨rfl,hi,p⟩
 have q:=hl i σ H hi p
 by_cases hlt:i<xs.length
 ·refine .inr ⟨⟨xs,xs[i],q,by simp [hlt]⟩,Pv (i+1),fun σ' H' p'=>⟨xs.length-(i+1),by omega,rfl,hlt,p'⟩,fun x H' y=>?_⟩
  obtain ⟨e,y⟩:=y
  subst e
  exact hs i x σ _ (y xs q) p
 ·have e:i=xs.length:=by omega
  subst e
  exact .inl ⟨⟨xs,q,Nat.le_refl _⟩,hd σ H p⟩
theorem wW {K:PySem.W.Frag} {a:Addr} {xs:List V} {g:TG} {tb:TS} {D:Ends} {σ:St} {H:Hp} (Pv:Nat→St→Hp→Prop) (h0:Pv 0 σ H) (hl:∀i σ H,i≤xs.length→Pv i σ H→aW K H a xs)
  (hs:∀i x σ H,xs[i]?=some x→Pv i σ H→g x σ H fun σ2 H2=>tb { D with nx:=Pv (i+1),ct:=Pv (i+1),bk:=D.nx } σ2 H2) (hd:∀σ H,Pv xs.length σ H→D.nx σ H) :
  ∃W:Nat→Nat→St→Hp→Prop,(∃m,W 0 m σ H)∧∀i m σ H,W i m σ H →
   ((JM K a).stop i H∧D.nx σ H)∨((JM K a).go i H∧∃N:St→Hp→Prop,(∀σ' H',N σ' H'→∃m',m'<m∧W (i+1) m' σ' H')∧∀x H',(JM K a).Mi i H x H'→g x σ H' fun σ2 H2=>tb { D with nx:=N,ct:=N,bk:=D.nx } σ2 H2):=by
 refine ⟨fun i m σ H=>m=xs.length-i∧i≤xs.length∧Pv i σ H,⟨xs.length,by simp,Nat.zero_le _,h0⟩,?_⟩
 rintro i m σ H ⟨rfl,hi,p⟩
 have q:=hl i σ H hi p
 by_cases hlt:i<xs.length
 ·refine .inr ⟨⟨xs,xs[i],q,by simp [hlt]⟩,Pv (i+1),fun σ' H' p'=>⟨xs.length-(i+1),by omega,rfl,hlt,p'⟩,fun x H' y=>?_⟩
  obtain ⟨e,y⟩:=y
  subst e
  exact hs i x σ _ (y xs q) p
 ·have e:i=xs.length:=by omega
  subst e
  exact .inl ⟨⟨xs,q,Nat.le_refl _⟩,hd σ H p⟩
theorem jR {lo:Int} {n:Nat} {g:TG} {tb:TS} {D:Ends} {σ:St} {H:Hp} (Pv:Nat→St→Hp→Prop) (h0:Pv 0 σ H)
  (hs:∀i σ H,i<n→Pv i σ H→g (.int (lo+i)) σ H fun σ2 H2=>tb { D with nx:=Pv (i+1),ct:=Pv (i+1),bk:=D.nx } σ2 H2) (hd:∀σ H,Pv n σ H→D.nx σ H) :
  ∃W:Nat→Nat→St→Hp→Prop,(∃m,W 0 m σ H)∧∀i m σ H,W i m σ H →
   ((Oz lo n).stop i H∧D.nx σ H)∨((Oz lo n).go i H∧∃N:St→Hp→Prop,(∀σ' H',N σ' H'→∃m',m'<m∧W (i+1) m' σ' H')∧∀x H',(Oz lo n).Mi i H x H'→g x σ H' fun σ2 H2=>tb { D with nx:=N,ct:=N,bk:=D.nx } σ2 H2):=by
 refine ⟨fun i m σ H=>m=n-i∧i≤n∧Pv i σ H,⟨n,by simp,Nat.zero_le _,h0⟩,?_⟩
 rintro i m σ H ⟨rfl,hi,p⟩
 by_cases hlt:i<n
 ·refine .inr ⟨hlt,Pv (i+1),fun σ' H' p'=>⟨n-(i+1),by omega,rfl,hlt,p'⟩,fun x H' y=>?_⟩
  obtain ⟨e,y⟩:=y
  subst e y
  exact hs i σ _ hlt p
 ·have e:i=n:=by omega
  subst e
  exact .inl ⟨Nat.le_refl _,hd σ H p⟩
theorem sM {c:TT} {tb:TS} {D:Ends} {σ:St} {H:Hp} (Pv:St→Hp→Prop) (μ:St→Hp→Nat) (h0:Pv σ H)
  (hs:∀σ H,Pv σ H→c σ H fun b H1=>if b=true then tb { D with nx:=fun σ' H'=>Pv σ' H'∧μ σ' H'<μ σ H,ct:=fun σ' H'=>Pv σ' H'∧μ σ' H'<μ σ H,bk:=D.nx } σ H1 else D.nx σ H1)
  (mono:∀σ H Q Q',(∀b H1,Q b H1→Q' b H1)→c σ H Q→c σ H Q'):EI c tb D σ H:=by
 refine ⟨fun m σ H=>m=μ σ H∧Pv σ H,⟨_,rfl,h0⟩,?_⟩
 rintro m σ H ⟨rfl,p⟩
 refine mono σ H _ _ (fun b H1 q=>?_) (hs σ H p)
 cases b with
 | true=>exact ⟨_,fun σ' H' ⟨p',l⟩=>⟨_,l,rfl,p'⟩,q⟩
 | false=>exact q
end L2
namespace L2
open PySem PySem.Spec PyProof.Rows
abbrev R2:=V→V→Hp→VK→Prop
def nV (X:Cx) (f:Value→Value→Sem Value) (r:R2):Prop :=
 ∀(pins:List (Addr×Obj)) (s:Shared) (σ:St) (H:Hp) (x y:V) (v u:Value) (Q:VK),Inv X pins σ H s→RelV x v→RelV y u→r x y H Q →
  wpAny (model X.prog X.w) X.A (f v u) (EP X pins σ Q) X.xe s
def UnR (X:Cx) (f:Value→Sem Value) (r:V→Hp→VK→Prop):Prop :=
 ∀(pins:List (Addr×Obj)) (s:Shared) (σ:St) (H:Hp) (x:V) (v:Value) (Q:VK),Inv X pins σ H s→RelV x v→r x H Q →
  wpAny (model X.prog X.w) X.A (f v) (EP X pins σ Q) X.xe s
def kF (X:Cx) (f:Value) (r:List V→Hp→VK→Prop):Prop :=
 ∀(pins:List (Addr×Obj)) (s:Shared) (σ:St) (H:Hp) (xs:List V) (us:List Value) (Q:VK),Inv X pins σ H s→Vals xs us→r xs H Q →
  wpAny (model X.prog X.w) X.A (call f us) (EP X pins σ Q) X.xe s
def O9 (r:R2) (ta tb:TE):TE:=fun σ H Q=>ta σ H fun x H1=>tb σ H1 fun y H2=>r x y H2 Q
def tUn (r:V→Hp→VK→Prop) (ta:TE):TE:=fun σ H Q=>ta σ H fun x H1=>r x H1 Q
def rI (C:Int→Int→Prop) (g:Int→Int→V):R2:=fun x y H Q=>∃i j,x=.int i∧y=.int j∧C i j∧Q (g i j) H
def OH (g:Int→Int→V):R2:=fun x y H Q=>∃i j,x=.int i∧y=.int j∧Q (g i j) H
def rU (g:Int→V):V→Hp→VK→Prop:=fun x H Q=>∃i,x=.int i∧Q (g i) H
section
variable {X:Cx} {a b c:Expr} {ta tb tc:TE} {pos:Pos}
theorem Oq (ha:PE X a ta) (hb:PE X b tb) {pins:List (Addr×Obj)} {s:Shared} {σ:St} {H:Hp} {R:V→V→Hp→Prop} (I:Inv X pins σ H s)
  (h:ta σ H fun x H1=>tb σ H1 fun y H2=>R x y H2) {Q:Value→Shared→Prop} {f:Value→Value→Sem Value}
  (hf:∀v u s2 x y H2,Inv X pins σ H2 s2→RelV x v→RelV y u→R x y H2→wpAny (model X.prog X.w) X.A (f v u) Q X.xe s2) :
  wpAny (model X.prog X.w) X.A (eval a X.env) (fun v s₁=>wpAny (model X.prog X.w) X.A (eval b X.env) (fun u s₂=>wpAny (model X.prog X.w) X.A (f v u) Q X.xe s₂) X.xe s₁) X.xe s:=by
 refine fz (ha pins s σ H _ I h) fun v s1 ⟨x,H1,I1,r1,q1⟩=>?_
 refine fz (hb pins s1 σ H1 _ I1 q1) fun u s2 ⟨y,H2,I2,r2,q2⟩=>?_
 exact hf v u s2 x y H2 I2 r1 r2 q2
theorem bN {op:Operator} {r:R2} (ho:nV X (binaryOp op) r) (ha:PE X a ta) (hb:PE X b tb):PE X (.BinOp a op b pos) (O9 r ta tb):=by
 intro pins s σ H Q I h
 exact wpAny_BinOp (Oq ha hb I h fun v u s2 x y H2 I2 rx ry q=>ho pins s2 σ H2 x y v u Q I2 rx ry q)
theorem vf {op:UnaryOp} {r:V→Hp→VK→Prop} (ho:UnR X (unaryOp op) r) (ha:PE X a ta):PE X (.UnaryOp op a pos) (tUn r ta):=by
 intro pins s σ H Q I h
 exact UnaryOp_ (fz (ha pins s σ H _ I h) fun v s1 ⟨x,H1,I1,r1,q1⟩=>ho pins s1 σ H1 x v Q I1 r1 q1)
theorem Yu {f:Value→Value→Sem Value} {C:Int→Int→Prop} {g:Int→Int→Int}
  (rule:∀(i j:Int) (t u:Tok) (s:Shared) (Q:Value→Shared→Prop) (E:Value→Shared→Prop),C i j→Q (.int (g i j) s.toks) { s with toks:=s.toks+1 }→wpAny (model X.prog X.w) X.A (f (.int i t) (.int j u)) Q E s) :
  nV X f (rI C fun i j=>.int (g i j)):=by
 intro pins s σ H x y v u Q I rx ry h
 obtain ⟨i,j,rfl,rfl,hc,q⟩:=h
 obtain ⟨t,rfl⟩:=rx
 obtain ⟨t',rfl⟩:=ry
 exact rule i j t t' s _ _ hc ⟨.int (g i j),H,I.tok _,⟨_,rfl⟩,q⟩
theorem PF {f:Value→Value→Sem Value} {g:Int→Int→Int}
  (rule:∀(i j:Int) (t u:Tok) (s:Shared) (Q:Value→Shared→Prop) (E:Value→Shared→Prop),Q (.int (g i j) s.toks) { s with toks:=s.toks+1 }→wpAny (model X.prog X.w) X.A (f (.int i t) (.int j u)) Q E s) :
  nV X f (OH fun i j=>.int (g i j)):=by
 intro pins s σ H x y v u Q I rx ry h
 obtain ⟨i,j,rfl,rfl,q⟩:=h
 obtain ⟨t,rfl⟩:=rx
 obtain ⟨t',rfl⟩:=ry
 exact rule i j t t' s _ _ ⟨.int (g i j),H,I.tok _,⟨_,rfl⟩,q⟩
theorem PJ {f:Value→Value→Sem Value} {g:Int→Int→Bool}
  (rule:∀(i j:Int) (t u:Tok) (s:Shared) (Q:Value→Shared→Prop) (E:Value→Shared→Prop),Q (.bool (g i j)) s→wpAny (model X.prog X.w) X.A (f (.int i t) (.int j u)) Q E s) :
  nV X f (OH fun i j=>.bl (g i j)):=by
 intro pins s σ H x y v u Q I rx ry h
 obtain ⟨i,j,rfl,rfl,q⟩:=h
 obtain ⟨t,rfl⟩:=rx
 obtain ⟨t',rfl⟩:=ry
 exact rule i j t t' s _ _ ⟨.bl (g i j),H,I,rfl,q⟩
def a9S (i j:Int):Prop:=0<j∧j<1073741824
def OE (i j:Int):Prop:=(-(2 ^ 64)<i∧i<2 ^ 64)∨(-(2 ^ 64)<j∧j<2 ^ 64)
theorem OE.ok {i j:Int} (h:OE i j):IntMulOk i j:=by
 rcases h with ⟨h1,h2⟩ | ⟨h1,h2⟩
 ·exact .of_left (intBits_le_64 h1 h2)
 ·exact .of_right (intBits_le_64 h1 h2)
theorem gx:nV X (binaryOp .Add) (OH fun i j=>.int (i+j)):=PF fun _ _ _ _ _ _ _ q=>add_int q
theorem m8:nV X (binaryOp .Sub) (OH fun i j=>.int (i-j)):=PF fun _ _ _ _ _ _ _ q=>sub_int q
theorem nc:nV X (binaryOp .Mult) (rI OE fun i j=>.int (i*j)):=Yu fun _ _ _ _ _ _ _ hc q=>mul_int q hc.ok
theorem oM:nV X (binaryOp .FloorDiv) (rI a9S fun i j=>.int (i / j)):=Yu fun i j _ _ _ _ _ hc q=>by
 have h1:(0:Int)<j:=hc.1
 have h2:j<1073741824:=hc.2
 exact floordiv_int (by omega) (by rw [Int.fdiv_eq_ediv_of_nonneg i (by omega)];exact q) (.inl (PyProof.noPylong_small (by omega)))
theorem iK:nV X (binaryOp .Mod) (rI (fun _ j=>0<j) fun i j=>.int (i % j)):=Yu fun i j _ _ _ _ _ hc q=>by
 have h1:(0:Int)<j:=hc
 exact mod_int' (by omega) (by rw [Int.fmod_eq_emod_of_nonneg i (by omega)];exact q)
theorem unI {f:Value→Sem Value} {g:Int→Int}
  (rule:∀(i:Int) (t:Tok) (s:Shared) (Q:Value→Shared→Prop) (E:Value→Shared→Prop),Q (.int (g i) s.toks) { s with toks:=s.toks+1 }→wpAny (model X.prog X.w) X.A (f (.int i t)) Q E s) :
  UnR X f (rU fun i=>.int (g i)):=by
 intro pins s σ H x v Q I rx h
 obtain ⟨i,rfl,q⟩:=h
 obtain ⟨t,rfl⟩:=rx
 exact rule i t s _ _ ⟨.int (g i),H,I.tok _,⟨_,rfl⟩,q⟩
theorem pP:UnR X (unaryOp .USub) (rU fun i=>.int (-i)):=unI fun _ _ _ _ _ q=>neg_int q
end
def Pp:V→V→Bool
 | .dM,.dM=>true | .dM,.int _=>true | .int _,.dM=>true | .dM,.bl _=>true | .bl _,.dM=>true | .dM,.str _=>true | .str _,.dM=>true
 | .int _,.int _=>true | .bl _,.bl _=>true | .str _,.str _=>true | .Ed _,.Ed _=>true
 | .int _,.str _=>true | .str _,.int _=>true | .bl _,.str _=>true | .str _,.bl _=>true
 | _,_=>false
def rEq:R2:=fun x y H Q=>Pp x y=true∧Q (.bl (decide (x=y))) H
def rNe:R2:=fun x y H Q=>Pp x y=true∧Q (.bl (!decide (x=y))) H
theorem CJ {i j:Int}:decide (V.int i=V.int j)=(i == j):=by
 rw [Bool.eq_iff_iff]
 simp
theorem Jh {i j:Bool}:decide (V.bl i=V.bl j)=(i == j):=by
 rw [Bool.eq_iff_iff]
 simp
theorem CI {i j:Str}:decide (V.str i=V.str j)=(i == j):=by
 rw [Bool.eq_iff_iff]
 simp
theorem CK {i j:Array UInt8}:decide (V.Ed i=V.Ed j)=(i.toList == j.toList):=by
 rw [Bool.eq_iff_iff]
 cases i
 cases j
 simp
section
variable {X:Cx} {a b c:Expr} {ta tb tc:TE} {pos:Pos}
theorem cX {pins:List (Addr×Obj)} {σ:St} {H:Hp} {s:Shared} {Q:VK} {k k':Bool} (I:Inv X pins σ H s) (q:Q (.bl k) H) (e:k=k'):EP X pins σ Q (.bool k') s:=by
 subst e
 exact ⟨.bl k,H,I,rfl,q⟩
theorem cS:nV X (compareOp .Eq) rEq:=by
 intro pins s σ H x y v u Q I rx ry h
 obtain ⟨hs,q⟩:=h
 cases x with
 | dM =>
  cases rx
  cases y with
  | dM=>cases ry;exact PySem.EqNone.eq_none_none (cX I q (by simp))
  | bl j=>cases ry;exact PySem.EqNone.eq_none_bool (cX I q (by simp))
  | int j=>obtain ⟨t',rfl⟩:=ry;exact PySem.EqNone.eq_none_int (cX I q (by simp))
  | str j=>obtain ⟨t',rfl⟩:=ry;exact PySem.EqNone.eq_none_str (cX I q (by simp))
  | _=>exact absurd (show false=true from hs) Bool.false_ne_true
 | bl i =>
  cases rx
  cases y with
  | dM=>cases ry;exact PySem.EqNone.eq_bool_none (cX I q (by simp))
  | bl j=>cases ry;exact eq_bool (cX I q Jh)
  | str j=>obtain ⟨t',rfl⟩:=ry;exact PySem.EqMixed.eq_bool_str (cX I q (by simp))
  | _=>exact absurd (show false=true from hs) Bool.false_ne_true
 | int i =>
  obtain ⟨t,rfl⟩:=rx
  cases y with
  | dM=>cases ry;exact PySem.EqNone.eq_int_none (cX I q (by simp))
  | int j=>obtain ⟨t',rfl⟩:=ry;exact eq_int (cX I q CJ)
  | str j=>obtain ⟨t',rfl⟩:=ry;exact PySem.EqMixed.eq_int_str (cX I q (by simp))
  | _=>exact absurd (show false=true from hs) Bool.false_ne_true
 | str i =>
  obtain ⟨t,rfl⟩:=rx
  cases y with
  | dM=>cases ry;exact PySem.EqNone.eq_str_none (cX I q (by simp))
  | bl j=>cases ry;exact PySem.EqMixed.eq_str_bool (cX I q (by simp))
  | int j=>obtain ⟨t',rfl⟩:=ry;exact PySem.EqMixed.eq_str_int (cX I q (by simp))
  | str j=>obtain ⟨t',rfl⟩:=ry;exact eq_str (cX I q CI)
  | _=>exact absurd (show false=true from hs) Bool.false_ne_true
 | Ed i =>
  obtain ⟨t,rfl⟩:=rx
  cases y with
  | Ed j=>obtain ⟨t',rfl⟩:=ry;exact PySem.W.eq_bytes (cX I q CK)
  | _=>exact absurd (show false=true from hs) Bool.false_ne_true
 | _=>cases y<;>exact absurd (show false=true from hs) Bool.false_ne_true
theorem Ck:nV X (compareOp .NotEq) rNe:=by
 intro pins s σ H x y v u Q I rx ry h
 obtain ⟨hs,q⟩:=h
 cases x with
 | dM =>
  cases rx
  cases y with
  | dM=>cases ry;exact PySem.EqNone.ne_none_none (cX I q (by simp))
  | bl j=>cases ry;exact PySem.EqNone.ne_none_bool (cX I q (by simp))
  | int j=>obtain ⟨t',rfl⟩:=ry;exact PySem.EqNone.ne_none_int (cX I q (by simp))
  | str j=>obtain ⟨t',rfl⟩:=ry;exact PySem.EqNone.ne_none_str (cX I q (by simp))
  | _=>exact absurd (show false=true from hs) Bool.false_ne_true
 | bl i =>
  cases rx
  cases y with
  | dM=>cases ry;exact PySem.EqNone.ne_bool_none (cX I q (by simp))
  | bl j=>cases ry;exact ne_bool (cX I q (congrArg not Jh))
  | str j=>obtain ⟨t',rfl⟩:=ry;exact PySem.EqMixed.ne_bool_str (cX I q (by simp))
  | _=>exact absurd (show false=true from hs) Bool.false_ne_true
 | int i =>
  obtain ⟨t,rfl⟩:=rx
  cases y with
  | dM=>cases ry;exact PySem.EqNone.ne_int_none (cX I q (by simp))
  | int j=>obtain ⟨t',rfl⟩:=ry;exact ne_int (cX I q (congrArg not CJ))
  | str j=>obtain ⟨t',rfl⟩:=ry;exact PySem.EqMixed.ne_int_str (cX I q (by simp))
  | _=>exact absurd (show false=true from hs) Bool.false_ne_true
 | str i =>
  obtain ⟨t,rfl⟩:=rx
  cases y with
  | dM=>cases ry;exact PySem.EqNone.ne_str_none (cX I q (by simp))
  | bl j=>cases ry;exact PySem.EqMixed.ne_str_bool (cX I q (by simp))
  | int j=>obtain ⟨t',rfl⟩:=ry;exact PySem.EqMixed.ne_str_int (cX I q (by simp))
  | str j=>obtain ⟨t',rfl⟩:=ry;exact ne_str (cX I q (congrArg not CI))
  | _=>exact absurd (show false=true from hs) Bool.false_ne_true
 | Ed i =>
  obtain ⟨t,rfl⟩:=rx
  cases y with
  | Ed j=>obtain ⟨t',rfl⟩:=ry;exact PySem.W.ne_bytes (cX I q (congrArg not CK))
  | _=>exact absurd (show false=true from hs) Bool.false_ne_true
 | _=>cases y<;>exact absurd (show false=true from hs) Bool.false_ne_true
theorem Gw:nV X (compareOp .Lt) (OH fun i j=>.bl (decide (i<j))):=PJ fun _ _ _ _ _ _ _ q=>lt_int q
theorem Gx:nV X (compareOp .Gt) (OH fun i j=>.bl (decide (j<i))):=PJ fun _ _ _ _ _ _ _ q=>gt_int q
theorem oK:nV X (compareOp .IsNot) (fun x y H Q=>y=.dM∧Q (.bl (!decide (x=.dM))) H):=by
 intro pins s σ H x y v u Q I rx ry h
 obtain ⟨rfl,q⟩:=h
 cases ry
 refine isnot_none_gen (cX I q ?_)
 cases x<;>first
  | (cases rx;rfl)
  | (obtain ⟨t,rfl⟩:=rx;rfl)
theorem aR (b:Expr) {op:CmpOp} (h:op≠.In:=by decide) (h2:op≠.NotIn:=by decide):behindInMarks op b=false:=by
 have e1:(op == CmpOp.In)=false:=by cases op<;>first | rfl | exact absurd rfl h
 have e2:(op == CmpOp.NotIn)=false:=by cases op<;>first | rfl | exact absurd rfl h2
 cases b<;>simp [behindInMarks,e1,e2]
theorem eF {op:CmpOp} {r:R2} (ho:nV X (compareOp op) r) (ha:PE X a ta) (hb:PE X b tb) (hm:behindInMarks op b=false):PE X (.Compare a [op] [b] pos) (O9 r ta tb):=by
 intro pins s σ H Q I h
 exact wpAny_Compare1 (Oq ha hb I h fun v u s2 x y H2 I2 rx ry q=>ho pins s2 σ H2 x y v u Q I2 rx ry q) hm
def Ln (t:TE):TT:=fun σ H Q=>t σ H fun x H'=>∃k,x=.bl k∧Q k H'
theorem aN {op:CmpOp} {r:R2} (ho:nV X (compareOp op) r) (ha:PE X a ta) (hb:PE X b tb) (hm:behindInMarks op b=false):PT X (.Compare a [op] [b] pos) (Ln (O9 r ta tb)):=by
 intro pins s σ H Q I h
 refine wpAny_isTrue_Compare1 (fz (ha pins s σ H _ I h) fun v s1 ⟨x,H1,I1,r1,q1⟩=>fz (hb pins s1 σ H1 _ I1 q1) fun u s2 ⟨y,H2,I2,r2,q2⟩ =>
  fz (ho pins s2 σ H2 x y v u _ I2 r1 r2 q2) fun c s3 ⟨z,H3,I3,r3,k,e,q3⟩=>?_) hm
 subst e
 cases r3
 exact wpAny_truthy_bool ⟨H3,I3,q3⟩
theorem qz:(sizeLine:Nat)<2 ^ 63:=by rw [sizeLine_eq];decide
theorem ic:nV X (binaryOp .Add) (fun x y H Q=>∃i j,x=.str i∧y=.str j∧i.length+j.length≤sizeLine∧Q (.str (i++j)) H):=by
 intro pins s σ H x y v u Q I rx ry h
 obtain ⟨i,j,rfl,rfl,hz,q⟩:=h
 obtain ⟨t,rfl⟩:=rx
 obtain ⟨t',rfl⟩:=ry
 exact add_str (fun t' tk=>⟨.str (i++j),H,I.tok _,⟨_,rfl⟩,q⟩) hz
theorem vals1 {x:V} {us:List Value} (r:Vals [x] us):∃u,us=[u]∧RelV x u:=by
 cases r with
 | cons r1 r2=>cases r2;exact ⟨_,rfl,r1⟩
theorem vals2 {x y:V} {us:List Value} (r:Vals [x,y] us):∃u w',us=[u,w']∧RelV x u∧RelV y w':=by
 cases r with
 | cons r1 r2 =>
  cases r2 with
  | cons r3 r4=>cases r4;exact ⟨_,_,rfl,r1,r3⟩
theorem qH:kF X (.type "int") (fun xs H Q=>(∃i,xs=[.int i]∧Q (.int i) H)∨∃k,xs=[.bl k]∧Q (.int (if k then 1 else 0)) H):=by
 intro pins s σ H xs us Q I r h
 rcases h with ⟨i,rfl,q⟩ | ⟨k,rfl,q⟩
 ·obtain ⟨u,rfl,t,rfl⟩:=vals1 r
  exact call_int_int ⟨.int i,H,I,⟨_,rfl⟩,q⟩
 ·obtain ⟨u,rfl,r1⟩:=vals1 r
  cases r1
  exact call_int_bool ⟨.int (if k then 1 else 0),H,I.tok _,⟨_,rfl⟩,q⟩
end
end L2
namespace L2
open PySem PySem.Spec PyProof.Rows
structure BE (h:Heap) (x dx C:Addr) (mA:Str→Option Value):Prop where
 obj:h.get? x=some (PySem.W.instObj C dx)
 ns:h.Ns1 dx mA
 ne:dx≠x
theorem Di {h:Heap} {dx:Addr} {mA:Str→Option Value} (n:h.Ns1 dx mA):∃od,h.get? dx=some od∧∀name,PySem.W.lookIn name od=some (mA name):=by
 obtain ⟨o,es,ep,ho,hd,hk,_,hm⟩:=n
 refine ⟨o,ho,fun name=>?_⟩
 have e:=hm name
 unfold nsFind findBy at e
 rw [←Array.find?_toList] at e
 unfold PySem.W.lookIn
 rw [hd]
 dsimp only
 split
 ·rename_i y q
  rw [q] at e
  exact congrArg some e
 ·rename_i q
  rw [q] at e
  have a:es.toList.any (·.refKey)=false:=by
   rw [List.any_eq_false]
   intro y hy
   obtain ⟨z,t,hkey⟩:=hk y (Array.mem_toList_iff.mp hy)
   simp [DictEntry.refKey,hkey]
  have a':¬es.toList.any (·.refKey)=true:=by rw [a];exact Bool.false_ne_true
  rw [if_neg a']
  exact congrArg some e
theorem BE.look {h:Heap} {x dx C:Addr} {mA:Str→Option Value} (I:BE h x dx C mA):∃od,PySem.W.InstAt h x (PySem.W.instObj C dx) C (some od)∧∀name,PySem.W.lookIn name od=some (mA name) :=
 let ⟨od,ho,hl⟩:=Di I.ns
 ⟨od,⟨I.obj,rfl,rfl,ho⟩,hl⟩
section
variable {prog:Program} {w:World} {A:Around} {E:Value→Shared→Prop} {s:Shared} {K:PySem.W.Frag} {x dx C f:Addr} {mA:Str→Option Value} {name:Str} {v:Value}
theorem get_map {expr:Bool} {Q:Value→Shared→Prop} (X:K.In s.heap) (I:BE s.heap x dx C mA) (hg:PySem.W.plainGet K C name=true) (hh:PySem.W.hasDictIn K C=true)
  (ha:PySem.W.findIn K (.ref C) name=some none) (hv:mA name=some v) (hv':PySem.W.handedIn v=true) (h:Q v { s with toks:=s.toks+1 }) :
  wpAny (model prog w) A (getAttr (.ref x) name expr) Q E s:=by
 obtain ⟨od,J,hl⟩:=I.look
 exact PySem.W.get_value X J (PySem.W.plainGet_of hg).1 (PySem.W.findObj_own hh ha rfl (by rw [hl,hv])) hv' h
theorem I0 {pl:Sem Bool} {Q:Value×List Value→Shared→Prop} (X:K.In s.heap) (I:BE s.heap x dx C mA) (hg:PySem.W.plainGet K C name=true)
  (hf:PySem.W.findIn K (.ref C) name=some (some (.ref f))) (ht:PySem.W.isFn K (.ref f)=true) (hv:mA name=none) (h:Q (.ref f,[.ref x]) s) :
  wpAny (model prog w) A (getMethod (.ref x) name pl) Q E s:=by
 obtain ⟨od,J,hl⟩:=I.look
 exact PySem.W.method_fn X J (PySem.W.plainGet_of hg).1 (PySem.W.plainGet_of hg).2 hf (beq_iff_eq.mp ht) (by show (PySem.W.lookIn name od).map (·.isSome)=some false;rw [hl,hv];rfl) h
theorem J0 {ns:List Str} {Q:Unit→Shared→Prop} (X:K.In s.heap) (I:BE s.heap x dx C mA)
  (hs:PySem.W.findIn K (.ref C) "__setattr__"=some (some (.builtin "object.__setattr__"))) (hp:PySem.W.plainOver K C=true) (ht:PySem.W.takerIn K C name=some none) (hh:PySem.W.hasDictIn K C=true)
  (hw:PySem.Within mA ns) (hsz:ns.length≤sizeLine)
  (h:∀h',BE h' x dx C (fun y=>if y=name then some v else mA y)→Heap.SameBut dx s.heap h'→Q () { s with heap:=h',toks:=s.toks+2 }) :
  wpAny (model prog w) A (setAttr (.ref x) name v) Q E s:=by
 obtain ⟨od,J,hl⟩:=I.look
 refine PySem.W.set_plain X J hs (PySem.W.osa_open (s:={ s with toks:=s.toks+1 }) (r:=none) X J hp ht fun b=>?_)
 obtain ⟨cd,hc,hd'⟩:=PySem.W.any_some hh
 have hx:s.heap.get? x=some ⟨.ref C,some dx,.plain,#[]⟩:=I.obj
 refine wpAny_bind (wpAny_pure (wpAny_bind (wpAny_bind (wpAny_loadPart hx (wpAny_bind (PySem.W.Looks.here (s:={ s with toks:=s.toks+1 }) (PySem.W.looks_clsIn X hc) ?_))))))
 rw [hd']
 refine wpAny_pure (a:=some dx) (wpAny_bind (wpAny_pure (wpAny_bind ?_)))
 refine wpAny_nsSet1 (s:={ s with toks:=s.toks+1 }) I.ns fun h' hn2 hs2=>?_
 obtain ⟨oD,esD,epD,hoD,hdD,hcD⟩:=hn2.count (PySem.Within.cons name v hw)
 refine wpAny_bind (wpAny_lookBehind hoD (by rw [hdD];exact pastItsLine_dict (Nat.le_trans hcD (by rw [List.length_cons];omega))) ?_)
 exact wpAny_pure (h _ ⟨(hs2.2 _ (Ne.symm I.ne)).trans I.obj,hn2,I.ne⟩ hs2)
theorem HK {R:Result→Shared→Prop} {vs:List Value} {kw:List (Str×Value)} (X:K.In s.heap) (hm:PySem.W.makesIn K C=true)
  (hi:PySem.W.findIn K (.ref C) "__init__"=some (some (.ref f))) (hf:PySem.W.typeIn K (.ref f)=some (.type "function"))
  (h:codeAny (model prog w) (A.under (.builtin "type.__call__" ⟨.ref C::vs,kw⟩)) (.call (.ref f) ⟨.ref (s.heap.objs.size+1)::vs,kw⟩) (PySem.W.InitBack (s.heap.objs.size+1) R)
   { s with heap:=(s.heap.push PySem.W.emptyDict).push (PySem.W.instObj C s.heap.objs.size) }) :
  codeAny (model prog w) A (.call (.ref C) ⟨vs,kw⟩) R s:=by
 obtain ⟨hh,g,d,t,os⟩:=s
 exact PySem.W.make_core (PySem.W.makes_of X hm) (PySem.W.looks_findIn X hi) (fun self=>PySem.W.bind_fn X self hf) (.inl rfl) h
end
def bu (f:Str) (v:V):List (Str×V)→List (Str×V)
 | []=>[(f,v)]
 | (g,x)::r=>if g=f then (g,v)::r else (g,x)::bu f v r
theorem bF (f g:Str) (v:V):∀fs:List (Str×V),(bu f v fs).lookup g=if g=f then some v else fs.lookup g
 | []=>by
  show List.lookup g [(f,v)]=_
  by_cases h:g=f
  ·have hb:(g == f)=true:=beq_iff_eq.mpr h
   simp only [List.lookup,hb,if_pos h]
  ·have hb:(g == f)=false:=beq_eq_false_iff_ne.mpr h
   simp only [List.lookup,hb,if_neg h]
 | (k,x)::r=>by
  have ih:=bF f g v r
  rw [show bu f v ((k,x)::r)=(if k=f then (k,v)::r else (k,x)::bu f v r) from rfl]
  by_cases hk:k=f
  ·rw [if_pos hk]
   by_cases h:g=k
   ·have hb:(g == k)=true:=beq_iff_eq.mpr h
    simp only [List.lookup,hb,if_pos (h.trans hk)]
   ·have hb:(g == k)=false:=beq_eq_false_iff_ne.mpr h
    simp only [List.lookup,hb,if_neg (fun e:g=f=>h (e.trans hk.symm))]
  ·rw [if_neg hk]
   by_cases h:g=k
   ·have hb:(g == k)=true:=beq_iff_eq.mpr h
    simp only [List.lookup,hb,if_neg (fun e:g=f=>hk (h.symm.trans e))]
   ·have hb:(g == k)=false:=beq_eq_false_iff_ne.mpr h
    simp only [List.lookup,hb]
    exact ih
theorem qB (f:Str) (v:V):∀fs:List (Str×V),f∈(bu f v fs).map (·.1)∧∀g,g∈fs.map (·.1)→g∈(bu f v fs).map (·.1)
 | []=>⟨by simp [bu],fun g h=>by simp at h⟩
 | (k,x)::r=>by
  obtain ⟨i1,i2⟩:=qB f v r
  rw [show bu f v ((k,x)::r)=(if k=f then (k,v)::r else (k,x)::bu f v r) from rfl]
  by_cases hk:k=f
  ·rw [if_pos hk]
   subst hk
   exact ⟨by simp,fun g h=>by simpa using h⟩
  ·rw [if_neg hk]
   refine ⟨?_,fun g h=>?_⟩
   ·rw [List.map_cons]
    exact List.mem_cons_of_mem _ i1
   ·rw [List.map_cons] at h ⊢
    rcases List.mem_cons.mp h with e | e
    ·exact List.mem_cons.mpr (.inl e)
    ·exact List.mem_cons_of_mem _ (i2 g e)
theorem q9 (f:Str) (v:V):∀fs:List (Str×V),(bu f v fs).length≤fs.length+1
 | []=>by simp [bu]
 | (k,x)::r=>by
  have ih:=q9 f v r
  rw [show bu f v ((k,x)::r)=(if k=f then (k,v)::r else (k,x)::bu f v r) from rfl]
  by_cases hk:k=f
  ·rw [if_pos hk,List.length_cons,List.length_cons];omega
  ·rw [if_neg hk,List.length_cons,List.length_cons];omega
theorem kI.some_of {v:V} {o:Option Value} (r:kI (some v) o):∃u,o=some u∧RelV v u:=by
 cases o with
 | none=>exact (show False from r).elim
 | some u=>exact ⟨u,rfl,r⟩
theorem kI.none_of {o:Option Value} (r:kI none o):o=none:=by
 cases o with
 | none=>rfl
 | some u=>exact (show False from r).elim
theorem DA {v:V} {u:Value} (r:RelV v u):PySem.W.handedIn u=true:=by
 cases v with
 | dM=>cases (show u=Value.none from r);rfl
 | bl b=>cases (show u=Value.bool b from r);rfl
 | int i=>obtain ⟨t,e⟩:=(show ∃t,u=Value.int i t from r);cases e;rfl
 | str x=>obtain ⟨t,e⟩:=(show ∃t,u=Value.str x t from r);cases e;rfl
 | Ed b=>obtain ⟨t,e⟩:=(show ∃t,u=Value.bytes b t from r);cases e;rfl
 | N4 b=>obtain ⟨t,e⟩:=(show ∃t,u=Value.float b t from r);cases e;rfl
 | ref a=>cases (show u=Value.ref a from r);rfl
 | ty n=>cases (show u=Value.type n from r);rfl
section
variable {P:Program} {w:World} {H H':Hp} {h h':Heap} {a C dx:Addr} {fs fs':List (Str×V)}
theorem oR (hok:nW P w H h) (e:H a=some (.ins C dx fs)):∃mA,BE h a dx C mA∧(∀f,kI (fs.lookup f) (mA f))∧PySem.Within mA (fs.map (·.1))∧fs.length≤1000∧H dx=some (.own a):=by
 obtain ⟨d,z,ne,ob,mA,n,r,q⟩:=(show eO P w H h a (.ins C dx fs) from hok a _ e)
 exact ⟨mA,⟨ob,n,ne⟩,r,q,z,d⟩
end
structure uY (K:PySem.W.Frag) (C:Addr):Prop where
 pg:PySem.W.plainGet K C Str.empty=true
 hd:PySem.W.hasDictIn K C=true
 po:PySem.W.plainOver K C=true
 sa:PySem.W.findIn K (.ref C) "__setattr__"=some (some (.builtin "object.__setattr__"))
theorem uY.get {K:PySem.W.Frag} {C:Addr} (c:uY K C) (f:Str):PySem.W.plainGet K C f=true:=c.pg
def eZ (K:PySem.W.Frag) (C:Addr) (f:Str):Prop:=PySem.W.findIn K (.ref C) f=some none
theorem eZ.O7 {K:PySem.W.Frag} {C:Addr} {f:Str} (n:eZ K C f):PySem.W.takerIn K C f=some none:=by
 unfold PySem.W.takerIn
 rw [show PySem.W.findIn K (.ref C) f=some none from n]
 rfl
structure Meth (K:PySem.W.Frag) (C:Addr) (m:Str) (f:Addr):Prop where
 at_:PySem.W.findIn K (.ref C) m=some (some (.ref f))
 fn:PySem.W.isFn K (.ref f)=true
 kp:PySem.W.keepIn K (.ref f)=true
section
variable {X:Cx} {pins:List (Addr×Obj)} {σ:St} {H:Hp} {s:Shared} {a C dx:Addr} {fs:List (Str×V)} {f:Str} {v:V} {A:Around} {E:Value→Shared→Prop}
theorem Bv {b:Bool} {Q:Value→Shared→Prop} (I:Inv X pins σ H s) (e:H a=some (.ins C dx fs)) (c:uY X.K C) (n:eZ X.K C f) (l:fs.lookup f=some v)
  (h:∀u s',Inv X pins σ H s'→RelV v u→Q u s'):wpAny (model X.prog X.w) A (getAttr (.ref a) f b) Q E s:=by
 obtain ⟨mA,O,r,_,_,_⟩:=oR I.hok e
 obtain ⟨u,hu,ru⟩:=kI.some_of (v:=v) (o:=mA f) (by rw [←l];exact r f)
 exact get_map I.mJ O (c.get f) c.hd n hu (DA ru) (h u _ (I.tok _) ru)
theorem ku {m:Str} {g:Addr} {pl:Sem Bool} {Q:Value×List Value→Shared→Prop} (I:Inv X pins σ H s) (e:H a=some (.ins C dx fs)) (c:uY X.K C) (k:Meth X.K C m g) (l:fs.lookup m=none)
  (h:Q (.ref g,[.ref a]) s):wpAny (model X.prog X.w) A (getMethod (.ref a) m pl) Q E s:=by
 obtain ⟨mA,O,r,_,_,_⟩:=oR I.hok e
 have hn:mA m=none:=kI.none_of (by rw [←l];exact r m)
 exact I0 I.mJ O (c.get m) k.at_ k.fn hn h
theorem AX {y:V} {u:Value} {Q:Unit→Shared→Prop} (I:Inv X pins σ H s) (e:H a=some (.ins C dx fs)) (c:uY X.K C) (n:eZ X.K C f) (hl:fs.length<1000) (ry:RelV y u)
  (h:∀s',Inv X pins σ (upd H a (.ins C dx (bu f y fs))) s'→Q () s'):wpAny (model X.prog X.w) A (setAttr (.ref a) f u) Q E s:=by
 obtain ⟨mA,O,r,wi,_,ho⟩:=oR I.hok e
 have hz:(fs.map (·.1)).length≤sizeLine:=by rw [List.length_map,sizeLine_eq];omega
 refine J0 I.mJ O c.sa c.po n.O7 c.hd wi hz fun h' O' sb=>h _ ?_
 have hd:∃o,h'.get? dx=some o:=let ⟨o,_,_,e',_⟩:=O'.ns;⟨o,e'⟩
 refine I.write (x:=a) (e:=dx) (by rw [e];exact True.intro) (.inr ho) (fun b q hb z=>(sb.2 b hb).trans z) hd ?_
 refine ⟨by rw [aY O.ne];exact ho,?_,O.ne,O'.obj,_,O'.ns,fun g=>?_,fun g hg=>?_⟩
 ·have:=q9 f y fs;omega
 ·show kI ((bu f y fs).lookup g) (if g=f then some u else mA g)
  rw [bF]
  by_cases q:g=f
  ·rw [if_pos q,if_pos q];exact ry
  ·rw [if_neg q,if_neg q];exact r g
 ·by_cases q:g=f
  ·rw [q];exact (qB f y fs).1
  ·refine (qB f y fs).2 g (wi g fun z=>hg ?_)
   show (if g=f then some u else mA g)=none
   rw [if_neg q];exact z
theorem Inv.made (I:Inv X pins σ H s):Inv X pins σ (upd (upd H s.heap.objs.size (.own (s.heap.objs.size+1))) (s.heap.objs.size+1) (.ins C s.heap.objs.size []))
  { s with heap:=(s.heap.push PySem.W.emptyDict).push (PySem.W.instObj C s.heap.objs.size) }:=by
 have e1:(s.heap.push PySem.W.emptyDict).get? s.heap.objs.size=some PySem.W.emptyDict:=Heap.get?_push_size s.heap rfl
 have e2:((s.heap.push PySem.W.emptyDict).push (PySem.W.instObj C s.heap.objs.size)).get? (s.heap.objs.size+1)=some (PySem.W.instObj C s.heap.objs.size):=by
  have:=Heap.get?_push_size (s.heap.push PySem.W.emptyDict) (o:=PySem.W.instObj C s.heap.objs.size) rfl
  rwa [Heap.size_push] at this
 have e3:(s.heap.push PySem.W.emptyDict).Ns s.heap.objs.size (fun _=>none):=⟨PySem.W.emptyDict,#[],_,e1,rfl,(fun e he=>absurd he (by simp)),fun _=>rfl⟩
 have I1:=I.laid (a:=s.heap.objs.size) (o:=.own (s.heap.objs.size+1)) (h':=s.heap.push PySem.W.emptyDict) (t':=s.toks) (fun b u q=>Heap.get?_push_of_some _ q) (Nat.le_refl _) ⟨_,e1⟩
 refine I1.laid (a:=s.heap.objs.size+1) (o:=.ins C s.heap.objs.size []) (t':=s.toks) (fun b u q=>Heap.get?_push_of_some _ q) (Nat.le_of_eq (Heap.size_push _ _)) ?_
 have ne:s.heap.objs.size≠s.heap.objs.size+1:=Nat.ne_of_lt (Nat.lt_succ_self _)
 refine ⟨by rw [aY ne,af],Nat.zero_le _,ne,e2,fun _=>none,(Heap.Ns1.of_empty e3).at fun o q=>Heap.get?_push_of_some _ q,fun _=>True.intro,fun y hy=>absurd rfl hy⟩
theorem KP {prog:Program} {w:World} {env:Env} {e:Expr} {f:Str} {pos:Pos} {s:Shared} {Q:Value→Shared→Prop} (hb:attributeBase e f env (eval e env)=eval e env)
  (h:wpAny (model prog w) A (eval e env) (fun o s₁=>wpAny (model prog w) A (getAttr o f true) Q E s₁) E s):wpAny (model prog w) A (eval (.Attribute e f pos) env) Q E s :=
 Attribute_any_ h (by rw [arm_eval_Attribute,hb])
end
def Pc (K:PySem.W.Frag) (ta:TE) (f:Str):TE:=fun σ H Q=>ta σ H fun x H1=>∃a C dx fs v,x=.ref a∧H1 a=some (.ins C dx fs)∧uY K C∧eZ K C f∧fs.lookup f=some v∧Q v H1
def W5 (K:PySem.W.Frag) (ta tv:TE) (f:Str):TS:=fun D σ H=>tv σ H fun y H1=>ta σ H1 fun x H2=>∃a C dx fs,x=.ref a∧H2 a=some (.ins C dx fs)∧uY K C∧eZ K C f∧fs.length<1000 ∧
 D.nx σ (upd H2 a (.ins C dx (bu f y fs)))
section
variable {X:Cx} {o e value:Expr} {f:Str} {pos pos' tpos:Pos} {ta tv:TE}
theorem aG (he:PE X e ta) (hb:attributeBase e f X.env (eval e X.env)=eval e X.env):PE X (.Attribute e f pos) (Pc X.K ta f):=by
 intro pins s σ H Q I h
 refine KP hb (fz (he pins s σ H _ I h) fun u s1 ⟨x,H1,I1,rx,a,C,dx,fs,v,ex,ea,c,n,l,q⟩=>?_)
 subst ex
 obtain rfl:u=Value.ref a:=rx
 exact Bv I1 ea c n l fun u' s2 I2 ru=>⟨v,H1,I2,ru,q⟩
theorem ck (ha:PE X o ta) (hv:PE X value tv) (hs:swapsWith value (some (.Attribute o f pos')) pos.line X.env=pure false):PS X (.Assign [.Attribute o f pos'] value pos) (W5 X.K ta tv f):=by
 intro pins s σ H D I h
 refine plainObj_wpAny_Assign_Attribute (fz (hv pins s σ H _ I h) fun u s1 ⟨y,H1,I1,ry,q⟩=>fz (ha pins s1 σ H1 _ I1 q) fun ov s2 ⟨x,H2,I2,rx,a,C,dx,fs,ex,ea,c,n,l,q2⟩=>?_) hs
 subst ex
 obtain rfl:ov=Value.ref a:=rx
 exact AX I2 ea c n l ry fun s3 I3=>⟨σ,_,I3,q2⟩
end
section
variable {X:Cx} {pins:List (Addr×Obj)} {σ:St} {H:Hp} {s:Shared} {A:Around} {E:Value→Shared→Prop} {Q:Value→Shared→Prop} {c:Value} {b:Bool}
inductive nR (K:PySem.W.Frag) (H:Hp):V→Value→Prop where
 | dM:nR K H .dM (.type "NoneType")
 | bl (x:Bool):nR K H (.bl x) (.type "bool")
 | int (i:Int):nR K H (.int i) (.type "int")
 | str (x:Str):nR K H (.str x) (.type "str")
 | N4 (x:UInt64):nR K H (.N4 x) (.type "float")
 | lst {a:Addr} {xs:List V} (e:H a=some (.lst xs)):nR K H (.ref a) (.type "list")
 | Bx {a:Addr} {o:Obj} {xs:List V} (e:H a=some (.Bx o (.lst xs))):nR K H (.ref a) (.type "list")
 | tup {a:Addr} {xs:List V} (e:H a=some (.tup xs)):nR K H (.ref a) (.type "tuple")
 | dK {a:Addr} {kvs:List (Key×V)} (e:H a=some (.dK kvs)):nR K H (.ref a) (.type "dict")
 | dT {a:Addr} {kvs:List (List Key×V)} (e:H a=some (.dT kvs)):nR K H (.ref a) (.type "dict")
 | ins {a C dx:Addr} {fs:List (Str×V)} (e:H a=some (.ins C dx fs)) (cl:uY K C) (ha:PySem.W.findIn K (.ref C) "__class__"=some (some (.builtin "object.__class__")))
   (hn:PySem.W.specialIn K (.builtin "object.__class__") "__get__"=some (some (.builtin "getset_descriptor.__get__"))) (htk:PySem.W.takesIn K (.builtin "object.__class__")=some true)
   (hm:PySem.W.mroIn K C (.type "object")=some true):nR K H (.ref a) (.ref C)
theorem Ds {x:V} {u t:Value} (I:Inv X pins σ H s) (rx:RelV x u) (ty:nR X.K H x t) (e:PySem.W.kitOne X.K t c=some b) (h:∀tk,Q (.bool b) { s with toks:=tk }) :
  wpAny (model X.prog X.w) A (call (.builtin "isinstance") [u,c]) Q E s:=by
 cases ty with
 | dM=>cases (show u=Value.none from rx);exact PySem.W.kia_one PySem.W.kitx_none I.mJ True.intro e (fun z=>nomatch z) h
 | bl y=>cases (show u=Value.bool y from rx);exact PySem.W.kia_one PySem.W.kitx_bool I.mJ True.intro e (fun z=>nomatch z) h
 | int i=>obtain ⟨t,q⟩:=(show ∃t,u=Value.int i t from rx);cases q;exact PySem.W.kia_one PySem.W.kitx_int I.mJ True.intro e (fun z=>nomatch z) h
 | str y=>obtain ⟨t,q⟩:=(show ∃t,u=Value.str y t from rx);cases q;exact PySem.W.kia_one PySem.W.kitx_str I.mJ True.intro e (fun z=>nomatch z) h
 | N4 y=>obtain ⟨t,q⟩:=(show ∃t,u=Value.float y t from rx);cases q;exact PySem.W.kia_one PySem.W.kitx_float I.mJ True.intro e (fun z=>nomatch z) h
 | @lst a xs ea =>
  cases (show u=Value.ref a from rx)
  obtain ⟨_,_,n,_,h1⟩:=(show eO X.prog X.w H s.heap a (.lst xs) from I.hok a _ ea)
  exact PySem.W.kia_one PySem.W.kitx_list I.mJ ⟨_,h1,rfl⟩ e (fun z=>nomatch z) h
 | @Bx a ob xs ea =>
  cases (show u=Value.ref a from rx)
  obtain ⟨_,_,_,n,_,h1⟩:=(show eO X.prog X.w H s.heap a (.Bx ob (.lst xs)) from I.hok a _ ea)
  exact PySem.W.kia_one PySem.W.kitx_list I.mJ ⟨_,h1,rfl⟩ e (fun z=>nomatch z) h
 | @tup a xs ea =>
  cases (show u=Value.ref a from rx)
  obtain ⟨_,_,_,p⟩:=(show eO X.prog X.w H s.heap a (.tup xs) from I.hok a _ ea)
  obtain ⟨o,h1,h2,_⟩:=p
  exact PySem.W.kia_one PySem.W.kitx_tuple I.mJ ⟨o,h1,h2⟩ e (fun z=>nomatch z) h
 | @dK a kvs ea =>
  cases (show u=Value.ref a from rx)
  obtain ⟨_,_,vs,_,p⟩:=(show eO X.prog X.w H s.heap a (.dK kvs) from I.hok a _ ea)
  obtain ⟨o,es,ep,h1,h2,_⟩:=p
  exact PySem.W.kia_one PySem.W.kitx_dict I.mJ ⟨o,h1,h2.1⟩ e (fun z=>nomatch z) h
 | @dT a kvs ea =>
  cases (show u=Value.ref a from rx)
  obtain ⟨_,_,xs,_,o,es,ep,h1,h2,_⟩:=(show eO X.prog X.w H s.heap a (.dT kvs) from I.hok a _ ea)
  exact PySem.W.kia_one PySem.W.kitx_dict I.mJ ⟨o,h1,h2.1⟩ e (fun z=>nomatch z) h
 | @ins a C dx fs ea cl ha hn htk hm =>
  cases (show u=Value.ref a from rx)
  obtain ⟨mA,O,_⟩:=oR I.hok ea
  obtain ⟨od,J,_⟩:=O.look
  exact PySem.W.kia_one (PySem.W.kitx_own (cl.get _) cl.hd ha hn htk hm) I.mJ J e (fun z=>nomatch z) h
end
end L2
namespace L2
open PySem PySem.Spec PyProof.Rows
structure dD (k:Nat) (A:Around):Prop where
 hd:A.handled=none
 dp:A.depth+3*k+5<recursionLimit
 un:A.units+16*k+200<cLine
theorem dD.mono {j k:Nat} {A:Around} (r:dD k A) (h:j≤k):dD j A:=⟨r.hd,by have:=r.dp;omega,by have:=r.un;omega⟩
theorem dD.deeper {k:Nat} {A:Around} (r:dD (k+1) A) (env:Env):dD k (A.deeper env) :=
 ⟨r.hd,by have:=r.dp;show A.depth+1+3*k+5<_;omega,by have:=r.un;show A.units+3+16*k+200<_;omega⟩
theorem Bq {A:Around} {C:Addr} {us:List Value} {kw:List (Str×Value)}:(A.under (.builtin "type.__call__" ⟨.ref C::us,kw⟩)).depth=A.depth+1:=by
 first | rfl | simp [Around.under,Code.weight,Code.isCreation,Code.isGuard,Code.isCaller,Code.frames,Code.isFrame,guardIds]
theorem Bp {A:Around} {C:Addr} {us:List Value} {kw:List (Str×Value)}:(A.under (.builtin "type.__call__" ⟨.ref C::us,kw⟩)).units=A.units+1:=by
 first | rfl | simp [Around.under,Code.cUnits,Code.frames,Code.isFrame]
theorem dD.make {k:Nat} {A:Around} (r:dD (k+1) A) (C:Addr) (us:List Value) (kw:List (Str×Value)):dD k (A.under (.builtin "type.__call__" ⟨.ref C::us,kw⟩)) :=
 ⟨r.hd,by have:=r.dp;rw [Bq];omega,by have:=r.un;rw [Bp];omega⟩
theorem dD.depth {k:Nat} {A:Around} (r:dD k A):A.depth<recursionLimit:=by have:=r.dp;omega
theorem dD.units {k:Nat} {A:Around} (r:dD k A):A.units+64<cLine:=by have:=r.un;omega
def JU:TA:=fun _ H Q=>Q [] H
def Lu (ta:TE) (tr:TA):TA:=fun σ H Q=>ta σ H fun x H1=>tr σ H1 fun xs H2=>Q (x::xs) H2
section
variable {X:Cx} {e:Expr} {es:List Expr} {te:TE} {t:TA} {pos:Pos}
theorem ah:PA X [] JU:=fun _ _ _ _ H Q I h=>Calls.spliced_nil ⟨[],H,I,.nil,h⟩
theorem di (ha:PE X e te) (hr:PA X es t) (hs:starEach (e::es) X.env=(false,eval e X.env)::starEach es X.env:=by rfl):PA X (e::es) (Lu te t):=by
 intro pos pins s σ H Q I h
 rw [hs]
 show wpAny _ _ (spliced ((false,eval e X.env)::backTo pos (starEach es X.env))) _ _ s
 refine Calls.spliced_cons (fz (ha pins s σ H _ I h) fun u s1 ⟨x,H1,I1,r1,q1⟩=>?_)
 exact fz (hr pos pins s1 σ H1 _ I1 q1) fun us s2 ⟨xs,H2,I2,r2,q2⟩=>⟨x::xs,H2,I2,.cons r1 r2,q2⟩
def VM (t:TA):TE:=fun σ H Q=>t σ H fun xs H1=>xs.length≤sizeLine∧∀p,H1 p=none→Q (.ref p) (upd H1 p (.tup xs))
def Pb (t:TA):TE:=fun σ H Q=>t σ H fun xs H1=>xs.length≤sizeLine∧∀p,H1 p=none→Q (.ref p) (upd H1 p (.lst xs))
theorem aS {x1} (h:PA X es t):PE X (.Tuple es x1 pos) (VM t):=by
 intro pins s σ H Q I hq
 refine wpAny_Tuple_spliced (fz (h pos pins s σ H _ I hq) fun us s1 ⟨xs,H1,I1,r,z,q⟩=>⟨by rw [←r.length];exact z,?_⟩)
 have hf:H1 s1.heap.objs.size=none:=I1.hok.fresh (Nat.le_refl _)
 refine ⟨.ref s1.heap.objs.size,upd H1 s1.heap.objs.size (.tup xs),I1.laid (t':=s1.toks) (fun b u e=>Heap.get?_push_of_some _ e) (Nat.le_refl _) ?_,rfl,q _ hf⟩
 exact ⟨z,us,r,⟨_,Heap.get?_push_size _ rfl,rfl,_,rfl⟩⟩
theorem cP (h:PA X es t):PE X (.List es pos) (Pb t):=by
 intro pins s σ H Q I hq
 refine wpAny_List_spliced (fz (h pos pins s σ H _ I hq) fun us s1 ⟨xs,H1,I1,r,z,q⟩=>⟨by rw [←r.length];exact z,?_⟩)
 have hf:H1 s1.heap.objs.size=none:=I1.hok.fresh (Nat.le_refl _)
 refine ⟨.ref s1.heap.objs.size,upd H1 s1.heap.objs.size (.lst xs),I1.laid (t':=s1.toks) (fun b u e=>Heap.get?_push_of_some _ e) (Nat.le_refl _) ?_,rfl,q _ hf⟩
 exact ⟨z,us,0,r,Heap.get?_push_size _ rfl⟩
end
abbrev Sp:=List V→Hp→VK→XK→Prop
abbrev DV:=List Env→Hp→Shared→XK→Value→Shared→Prop
structure BH (P:Program) (w:World) (K:PySem.W.Frag) (mg:Str→Option Value) (base:Heap) (A:Around) (outer:List Env) (s:Shared) (H:Hp):Prop where
 frames:A.frames=some outer
 mod:Mod K mg base
 bs:∀b o,base.get? b=some o→s.heap.get? b=some o∧H b=none
 KO:base.objs.size≤s.heap.objs.size
 rO:s.heap.FunFrames base outer
 N2:∀b∈frs outer,H b=none
 hok:nW P w H s.heap
 bare:AllBare s.gens
def CE (outer:List Env) (P:Program) (w:World) (H:Hp) (s:Shared) (Q:VK) (u:Value) (s':Shared):Prop :=
 ∃v H',s'.os=s.os∧AllBare s'.gens∧Un (frs outer) [] H H' s.heap s'.heap∧nW P w H' s'.heap∧RelV v u∧Q v H'
def CR (CX:DV) (outer:List Env) (P:Program) (w:World) (H:Hp) (s:Shared) (Q:VK) (E:XK) (r:Result) (s':Shared):Prop :=
 match r with
 | .ok (.ret u)=>CE outer P w H s Q u s'
 | .ok _=>False
 | .error e=>CX outer H s E e s'
structure bH (P:Program) (w:World) (K:PySem.W.Frag) (mg:Str→Option Value) (base:Heap) (CX:DV) (k:Nat) (f:Addr) (fd:FuncData) (ps:List Str) (sp:Sp):Prop where
 len:∀vs H Q E,sp vs H Q E→vs.length=ps.length
 run:∀(A:Around) (outer:List Env) (s:Shared) (H:Hp) (args:Args) (us:List Value) (vs:List V) (Q:VK) (E:XK),dD k A→BH P w K mg base A outer s H→BindsTo s fd args (ps.zip us)→Vals vs us→sp vs H Q E →
  codeAny (model P w) A (.call (.ref f) args) (CR CX outer P w H s Q E) s
theorem BH.make {P:Program} {w:World} {K:PySem.W.Frag} {mg:Str→Option Value} {base:Heap} {A:Around} {outer:List Env} {s:Shared} {H:Hp} (e:BH P w K mg base A outer s H) (C:Addr) (us:List Value) (kw:List (Str×Value)) :
  BH P w K mg base (A.under (.builtin "type.__call__" ⟨.ref C::us,kw⟩)) outer s H:=⟨by first | exact e.frames | (simpa [Around.under,Code.envs,Code.isFrame,pushEnvs] using e.frames),e.mod,e.bs,e.KO,e.rO,e.N2,e.hok,e.bare⟩
section
variable {X:Cx} {pins:List (Addr×Obj)} {σ:St} {H:Hp} {s s':Shared}
theorem Inv.Q6 (I:Inv X pins σ H s):BH X.prog X.w X.K X.mg X.base X.A X.stack s H :=
 ⟨I.ok.frames,I.ok.mod,I.bs,Nat.le_trans I.ok.KO I.sz,I.stack,I.BR,I.hok,I.bare⟩
theorem Inv.after {Q:VK} {u:Value} (I:Inv X pins σ H s) (h:CE X.stack X.prog X.w H s Q u s'):EP X pins σ Q u s':=by
 obtain ⟨v,H',os,bare,un,hok,r,q⟩:=h
 obtain ⟨hh,g,d,t,os'⟩:=s'
 obtain rfl:os'=s.os:=os
 exact ⟨v,H',I.call (h':=hh) (g':=g) (d':=d) (t':=t) (ch:=[]) un hok bare (fun b z=>absurd z (by simp)),r,q⟩
end
def BN (sp:Sp) (pM:List V) (E:XK) (t:TA):TE:=fun σ H Q=>t σ H fun vs H1=>sp (vs++pM) H1 Q E
def Lq (C:Addr) (m:Str) (sp:Sp) (pM:List V) (E:XK) (ta:TE) (t:TA):TE:=fun σ H Q=>ta σ H fun x H1=>∃a dx fs,x=.ref a∧H1 a=some (.ins C dx fs)∧fs.lookup m=none ∧
 t σ H1 fun vs H2=>sp (x::(vs++pM)) H2 Q E
def Lr (C:Addr) (sp:Sp) (pM:List V) (E:XK) (t:TA):TE:=fun σ H Q=>t σ H fun vs H1=>∀x dx,H1 x=none→H1 dx=none→dx≠x →
 sp (.ref x::(vs++pM)) (upd (upd H1 dx (.own x)) x (.ins C dx [])) (fun v H2=>v=.dM∧Q (.ref x) H2) E
def Binds (K:PySem.W.Frag) (fd:FuncData) (ps:List Str) (ds:List Value):Prop :=
 ∀(s:Shared) (us:List Value),K.In s.heap→(us++ds).length=ps.length→BindsTo s fd ⟨us,[]⟩ (ps.zip (us++ds))
theorem Binds.all {K:PySem.W.Frag} {fd:FuncData} {ps:List Str} (h:∀us:List Value,us.length=ps.length→bindArgs fd ⟨us,[]⟩=pure (ps.zip us)):Binds K fd ps []:=fun s us _ hl=>by
 rw [List.append_nil] at hl ⊢
 exact .of_eq (h us hl)
def Passes (CX:DV) (X:Cx) (E:XK):Prop:=∀(pins:List (Addr×Obj)) (σ:St) (H:Hp) (s:Shared) (e:Value) (s':Shared),Inv X pins σ H s→CX X.stack H s E e s'→X.xe e s'
section
variable {X:Cx} {CX:DV} {k:Nat} {f C:Addr} {fd:FuncData} {ps:List Str} {sp:Sp} {pM:List V} {ds:List Value} {E:XK} {x m:Str} {p pos apos:Pos} {e o:Expr} {es:List Expr} {ta:TE} {t:TA}
theorem mZ {pins:List (Addr×Obj)} {σ:St} {H:Hp} {s:Shared} {Q:VK} {us:List Value} {vs:List V} (F:bH X.prog X.w X.K X.mg X.base CX k f fd ps sp) (hr:dD k X.A) (hb:Binds X.K fd ps ds) (hd:Vals pM ds) (hx:Passes CX X E)
  (I:Inv X pins σ H s) (r:Vals vs us) (h:sp (vs++pM) H Q E):wpAny (model X.prog X.w) X.A (call (.ref f) us) (EP X pins σ Q) X.xe s:=by
 have r2:Vals (vs++pM) (us++ds):=r.append hd
 have hl:(us++ds).length=ps.length:=by rw [←r2.length];exact F.len _ _ _ _ h
 refine wpAny_call (codeAny_mono (F.run X.A X.stack s H ⟨us,[]⟩ (us++ds) (vs++pM) Q E hr I.Q6 (hb s us I.mJ hl) r2 h) fun r s' hq=>?_)
 cases r with
 | error e=>exact hx pins σ H s e s' I hq
 | ok fl =>
  cases fl with
  | ret u=>exact I.after hq
  | next=>exact False.elim hq
  | brk=>exact False.elim hq
  | cont=>exact False.elim hq
theorem J4 (F:bH X.prog X.w X.K X.mg X.base CX k f fd ps sp) (hr:dD k X.A) (hg:Gl X x) (hm:X.mg x=some (.ref f)) (hk:PySem.W.keepIn X.K (.ref f)=true) (hb:Binds X.K fd ps ds) (hd:Vals pM ds) (hx:Passes CX X E)
  (ha:PA X (e::es) t) (hdb:(x == ("__debug__":Str))=false:=by decide) (he:starEach (e::es) X.env=(false,eval e X.env)::starEach es X.env:=by rfl) (hpl:(backTo pos (starEach es X.env)).any (·.1)=false:=by rfl) :
  PE X (.Call (.Name x p) (e::es) [] pos) (BN sp pM E t):=by
 intro pins s σ H Q I h
 refine wpAny_Call_Name_kw (oO I hg hm ?_ hdb)
 refine PySem.W.callWith_K (h₀:=X.base) I.ok.mod.JF hk (fz (ha pos pins s σ H _ I h) fun us s1 ⟨vs,H1,I1,r,q⟩=>⟨I1.mJ,?_⟩) he hpl
 exact mZ F hr hb hd hx I1 r q
theorem Gu (F:bH X.prog X.w X.K X.mg X.base CX k f fd ps sp) (hr:dD k X.A) (hg:Gl X x) (hm:X.mg x=some (.ref f)) (hk:PySem.W.keepIn X.K (.ref f)=true) (hb:Binds X.K fd ps ds) (hd:Vals pM ds) (hx:Passes CX X E)
  (hdb:(x == ("__debug__":Str))=false:=by decide):PE X (.Call (.Name x p) [] [] pos) (BN sp pM E JU):=by
 intro pins s σ H Q I h
 refine wpAny_Call_Name_kw (oO I hg hm ?_ hdb)
 exact PySem.W.callWith_K0 I.mJ hk (mZ (us:=[]) F hr hb hd hx I .nil h)
theorem we {pl:Sem Bool} (he:PE X o ta) (c:uY X.K C) (hm:Meth X.K C m f) (F:bH X.prog X.w X.K X.mg X.base CX k f fd ps sp) (hr:dD k X.A) (hb:Binds X.K fd ps ds) (hd:Vals pM ds) (hx:Passes CX X E) (ha:PA X (e::es) t)
  (hst:starEach (e::es) X.env=(false,eval e X.env)::starEach es X.env:=by rfl) (hpl:(backTo pos (starEach es X.env)).any (·.1)=false:=by rfl)
  (ht:eval (.Call (.Attribute o m apos) (e::es) [] pos) X.env=(do
   let ov ←eval o X.env
   standAt apos.atName
   let (f,first) ←holding [ov] (getMethod ov m pl)
   callWith pos f first (backTo pos (starEach (e::es) X.env)) (backToKw pos (keywordEach [] X.env))):=by rfl) :
  PE X (.Call (.Attribute o m apos) (e::es) [] pos) (Lq C m sp pM E ta t):=by
 intro pins s σ H Q I h
 refine PySem.W.methodCall_KW (pl:=pl) (fz (he pins s σ H _ I h) fun u s1 ⟨x,H1,I1,rx,a,dx,fs,ex,ea,l,q⟩=>?_) ht
 subst ex
 obtain rfl:u=Value.ref a:=rx
 refine ku I1 ea c hm l ?_
 refine PySem.W.callWith_K (first:=[.ref a]) (h₀:=X.base) I.ok.mod.JF hm.kp (fz (ha pos pins s1 σ H1 _ I1 q) fun us s2 ⟨vs,H2,I2,r,q2⟩=>⟨I2.mJ,?_⟩) hst hpl
 exact mZ (us:=.ref a::us) (vs:=.ref a::vs) F hr hb hd hx I2 (.cons rfl r) q2
theorem eE {pl:Sem Bool} (he:PE X o ta) (c:uY X.K C) (hm:Meth X.K C m f) (F:bH X.prog X.w X.K X.mg X.base CX k f fd ps sp) (hr:dD k X.A) (hb:Binds X.K fd ps ds) (hd:Vals pM ds) (hx:Passes CX X E)
  (ht:eval (.Call (.Attribute o m apos) [] [] pos) X.env=(do
   let ov ←eval o X.env
   standAt apos.atName
   let (f,first) ←holding [ov] (getMethod ov m pl)
   callWith pos f first (backTo pos (starEach [] X.env)) (backToKw pos (keywordEach [] X.env))):=by rfl) :
  PE X (.Call (.Attribute o m apos) [] [] pos) (Lq C m sp pM E ta JU):=by
 intro pins s σ H Q I h
 refine PySem.W.methodCall_KW (pl:=pl) (fz (he pins s σ H _ I h) fun u s1 ⟨x,H1,I1,rx,a,dx,fs,ex,ea,l,q⟩=>?_) ht
 subst ex
 obtain rfl:u=Value.ref a:=rx
 refine ku I1 ea c hm l ?_
 exact PySem.W.callWith_K0 (first:=[.ref a]) I1.mJ hm.kp (mZ (us:=[.ref a]) (vs:=[.ref a]) F hr hb hd hx I1 (.cons rfl .nil) q)
structure Mk (K:PySem.W.Frag) (C f:Addr):Prop where
 makes:PySem.W.makesIn K C=true
 init:PySem.W.findIn K (.ref C) "__init__"=some (some (.ref f))
 fn:PySem.W.isFn K (.ref f)=true
 kp:PySem.W.keepIn K (.ref C)=true
theorem Fe {pins:List (Addr×Obj)} {σ:St} {H:Hp} {s:Shared} {Q:VK} {us:List Value} {vs:List V} (M:Mk X.K C f) (F:bH X.prog X.w X.K X.mg X.base CX k f fd ps sp) (hr:dD (k+1) X.A) (hb:Binds X.K fd ps ds) (hd:Vals pM ds)
  (hx:Passes CX X E) (I:Inv X pins σ H s) (r:Vals vs us)
  (h:∀x dx,H x=none→H dx=none→dx≠x→sp (.ref x::(vs++pM)) (upd (upd H dx (.own x)) x (.ins C dx [])) (fun v H2=>v=.dM∧Q (.ref x) H2) E) :
  wpAny (model X.prog X.w) X.A (call (.ref C) us) (EP X pins σ Q) X.xe s:=by
 have hq:=h (s.heap.objs.size+1) s.heap.objs.size (I.hok.fresh (Nat.le_succ _)) (I.hok.fresh (Nat.le_refl _)) (Nat.ne_of_lt (Nat.lt_succ_self _))
 have I2:=Inv.made (C:=C) I
 have r2:Vals (V.ref (s.heap.objs.size+1)::(vs++pM)) (Value.ref (s.heap.objs.size+1)::(us++ds)):=.cons rfl (r.append hd)
 have hl:(Value.ref (s.heap.objs.size+1)::us++ds).length=ps.length:=by
  have e:=r2.length
  rw [F.len _ _ _ _ hq] at e
  exact e.symm
 refine wpAny_call (HK (f:=f) I.mJ M.makes M.init (beq_iff_eq.mp M.fn) (codeAny_mono (F.run _ X.stack _ _ ⟨Value.ref (s.heap.objs.size+1)::us,[]⟩ (Value.ref (s.heap.objs.size+1)::(us++ds)) _ _ E (hr.make C us [])
  (I2.Q6.make C us []) (hb _ (Value.ref (s.heap.objs.size+1)::us) I2.mJ hl) r2 hq) fun r s' hq'=>?_))
 cases r with
 | error e=>exact hx pins σ _ _ e s' I2 hq'
 | ok fl =>
  cases fl with
  | ret u =>
   obtain ⟨v,H',I3,rv,ev,q3⟩:=I2.after hq'
   subst ev
   exact ⟨rv,⟨V.ref (s.heap.objs.size+1),H',I3,rfl,q3⟩⟩
  | next=>exact False.elim hq'
  | brk=>exact False.elim hq'
  | cont=>exact False.elim hq'
theorem Ci (M:Mk X.K C f) (F:bH X.prog X.w X.K X.mg X.base CX k f fd ps sp) (hr:dD (k+1) X.A) (hg:Gl X x) (hm:X.mg x=some (.ref C)) (hb:Binds X.K fd ps ds) (hd:Vals pM ds) (hx:Passes CX X E)
  (ha:PA X (e::es) t) (hdb:(x == ("__debug__":Str))=false:=by decide) (he:starEach (e::es) X.env=(false,eval e X.env)::starEach es X.env:=by rfl) (hpl:(backTo pos (starEach es X.env)).any (·.1)=false:=by rfl) :
  PE X (.Call (.Name x p) (e::es) [] pos) (Lr C sp pM E t):=by
 intro pins s σ H Q I h
 refine wpAny_Call_Name_kw (oO I hg hm ?_ hdb)
 refine PySem.W.callWith_K (h₀:=X.base) I.ok.mod.JF M.kp (fz (ha pos pins s σ H _ I h) fun us s1 ⟨vs,H1,I1,r,q⟩=>⟨I1.mJ,?_⟩) he hpl
 exact Fe M F hr hb hd hx I1 r q
end
section
variable {X:Cx} {CX:DV} {k:Nat} {f C:Addr} {fd:FuncData} {ps ks:List Str} {sp:Sp} {E:XK} {x m:Str} {p pos apos kpos:Pos} {e o:Expr} {es:List Expr} {kws:List Keyword} {te ta:TE} {t tk:TA} {nm:Option Str}
variable {g:List Value→List Value→List Value} {gV:List V→List V→List V}
end
structure aQ (N P:List Str) (sc:Scope):Prop where
 kind:sc.kind=.function
 co:sc.isCoroutine=false
 gen:sc.isGenerator=false
 nd:N.Nodup
 pre:N.take P.length=P
 par:∀x∈P,sc.names.lookup x=some .local∨sc.names.lookup x=some .cell
 Nk:∀y∈sc.names,y.2≠.free
theorem vF {kindOf:Str→Option NameKind} {x:Str}:∀{binds:List (Str×Value)} {m:Str→Option Value},(∀v,(x,v) ∉ binds)→bindL kindOf binds m x=m x
 | [],_,_=>rfl
 | (n,v)::r,m,h=>by
  unfold bindL
  rw [vF fun w hw=>h w (List.mem_cons_of_mem _ hw)]
  split
  ·have:x≠n:=by rintro rfl;exact h v List.mem_cons_self
   simp [this]
  ·rfl
theorem vH {kindOf:Str→Option NameKind} {x:Str}:∀{binds:List (Str×Value)} {m:Str→Option Value},(∀v,(x,v) ∉ binds)→bindC kindOf binds m x=m x
 | [],_,_=>rfl
 | (n,v)::r,m,h=>by
  unfold bindC
  rw [vH fun w hw=>h w (List.mem_cons_of_mem _ hw)]
  split
  ·rfl
  ·have:x≠n:=by rintro rfl;exact h v List.mem_cons_self
   simp [this]
theorem vG {kindOf:Str→Option NameKind} {x:Str} {v:Value}:∀{P:List Str} {vs:List Value} {i:Nat} {m:Str→Option Value},P.Nodup→P[i]?=some x→vs[i]?=some v→kindOf x=some .local →
  bindL kindOf (P.zip vs) m x=some v
 | [],_,_,_,_,h,_,_=>by simp at h
 | _::_,[],_,_,_,_,h,_=>by simp at h
 | p::P,w::vs,0,m,nd,h1,h2,hk=>by
  simp at h1 h2;subst h1;subst h2
  show bindL kindOf ((p,w)::P.zip vs) m p=_
  unfold bindL
  rw [vF fun v hv=>(List.nodup_cons.mp nd).1 (List.of_mem_zip hv).1,if_pos hk]
  simp
 | p::P,w::vs,i+1,m,nd,h1,h2,hk=>by
  show bindL kindOf ((p,w)::P.zip vs) m x=_
  unfold bindL
  exact vG (i:=i) (List.nodup_cons.mp nd).2 (by simpa using h1) (by simpa using h2) hk
theorem vI {kindOf:Str→Option NameKind} {x:Str} {v:Value}:∀{P:List Str} {vs:List Value} {i:Nat} {m:Str→Option Value},P.Nodup→P[i]?=some x→vs[i]?=some v→kindOf x≠some .local →
  bindC kindOf (P.zip vs) m x=some v
 | [],_,_,_,_,h,_,_=>by simp at h
 | _::_,[],_,_,_,_,h,_=>by simp at h
 | p::P,w::vs,0,m,nd,h1,h2,hk=>by
  simp at h1 h2;subst h1;subst h2
  show bindC kindOf ((p,w)::P.zip vs) m p=_
  unfold bindC
  rw [vH fun v hv=>(List.nodup_cons.mp nd).1 (List.of_mem_zip hv).1,if_neg hk]
  simp
 | p::P,w::vs,i+1,m,nd,h1,h2,hk=>by
  show bindC kindOf ((p,w)::P.zip vs) m x=_
  unfold bindC
  exact vI (i:=i) (List.nodup_cons.mp nd).2 (by simpa using h1) (by simpa using h2) hk
def start (N:List Str) (vs:List V):St:=vs.map some++List.replicate (N.length-vs.length) none
def gP (CX:DV) (P:Program) (w:World) (K:PySem.W.Frag) (mg:Str→Option Value) (base:Heap) (N:List Str) (qual:Str) (scope:Scope) (f:Addr) (cd:Value) (A:Around) (outer:List Env) (s:Shared) (H:Hp) (E:XK):Cx where
 prog:=P
 w:=w
 K:=K
 mg:=mg
 base:=base
 A:=A.deeper (envOfC qual scope s.heap.objs.size f cd)
 N:=N
 s₀:=s
 H₀:=H
 env:=envOfC qual scope s.heap.objs.size f cd
 outer:=outer
 stack:=envOfC qual scope s.heap.objs.size f cd::outer
 ex:=[]
 calm:=true
 fn:=fun _=>true
 pn:=[]
 xe:=fun e s'=>wpAny (model P w) (A.deeper (envOfC qual scope s.heap.objs.size f cd)) (leaving (envOfC qual scope s.heap.objs.size f cd) e) (fun _ s''=>CX outer H s E e s'') (fun e' s''=>CX outer H s E e' s'') s'
theorem yx {sc:Scope} {n:Nat} {x:Str} (h:sc.names.lookup x=some .cell):∃c,(cellsFrom n sc.names []).lookup x=some c:=by
 have q:=PySem.W.cellsFrom_some sc.names n [] (.inl h)
 exact Option.isSome_iff_exists.mp q
theorem Du {CX:DV} {P:Program} {w:World} {K:PySem.W.Frag} {mg:Str→Option Value} {base:Heap} {N ps:List Str} {qual:Str} {scope:Scope} {f:Addr} {cd:Value} {A:Around} {outer:List Env} {s s1:Shared} {H:Hp} {E:XK} {us:List Value} {vs:List V}
  (S:aQ N ps scope) (hd:A.handled=none) (e0:BH P w K mg base A outer s H) (hl:vs.length=ps.length) (r:Vals vs us)
  (x:InCallC s s.heap.objs.size (bindL (envOfC qual scope s.heap.objs.size f cd).kindOf (ps.zip us) fun _=>none) (cellsFrom (s.heap.objs.size+1) scope.names []) (bindC (envOfC qual scope s.heap.objs.size f cd).kindOf (ps.zip us) fun _=>none) s1) :
  Inv (gP CX P w K mg base N qual scope f cd A outer s H E) [] (start N vs) H s1:=by
 have hpl:ps.length≤N.length:=by have:=congrArg List.length S.pre;rw [List.length_take] at this;omega
 obtain ⟨h1,tk,rfl,hk⟩:=x.done
 have PX:∀b:Addr,b ∉ (gP CX P w K mg base N qual scope f cd A outer s H E).ex:=fun b z=>absurd (show b∈([]:List Addr) from z) (by simp)
 refine ⟨⟨e0.mod,S.kind,rfl,rfl,Nat.le_refl _,fun y z c h1 h2=>?_,fun y hy=>?_,fun y c _ h=>?_,fun _=>hd,Around.frames_deeper e0.frames,.inr ⟨rfl,rfl⟩,fun b z=>absurd z (PX b),e0.bs,e0.KO,fun b _ _=>PX b,fun b z=>absurd z (PX b),e0.rO,e0.N2⟩,
  rfl,e0.bare,Un.kept hk,⟨_,x.toInCall.ns,fun i y v h1 h2 h3=>?_⟩,fun y c h=>⟨_,x.cell y c h⟩,e0.hok.fresh (Nat.le_refl _),fun y c h=>?_,fun p hp=>absurd (show p∈([]:List (Addr×Obj)) from hp) (by simp),e0.hok.kept hk,?_⟩
 ·exact name_of_addr x.apart (PySem.mem_of_lookup h1) (PySem.mem_of_lookup h2)
 ·have hy:scope.names.lookup y=some .cell∨scope.names.lookup y=some .free:=hy
  rcases hy with hy | hy
  ·exact yx hy
  ·exact absurd rfl (S.Nk _ (PySem.mem_of_lookup hy))
 ·exact Nat.le_of_lt (x.above y c (PySem.mem_of_lookup h))
 ·have hi:i<vs.length:=by
   unfold start at h2
   by_cases hi:i<vs.length
   ·exact hi
   ·rw [List.getElem?_append_right (by simpa using hi)] at h2
    rw [List.getElem?_replicate] at h2
    split at h2<;>cases h2
  have ha:vs[i]?=some v:=by
   unfold start at h2
   rw [List.getElem?_append_left (by simpa using hi),List.getElem?_map] at h2
   cases e:vs[i]? with
   | none=>rw [e] at h2;cases h2
   | some a=>rw [e] at h2;cases h2;rfl
  obtain ⟨u,hu,rv⟩:=r.get ha
  have hp:ps[i]?=some y:=by
   rw [←S.pre,List.getElem?_take_of_lt (by omega)];exact h1
  have ndP:ps.Nodup:=by rw [←S.pre];exact S.nd.sublist (List.take_sublist _ _)
  refine ⟨u,rv,?_⟩
  rcases S.par y (List.mem_of_getElem? hp) with k | k
  ·exact .inl ⟨k,vG ndP hp hu k⟩
  ·obtain ⟨c,e⟩:=yx (n:=s.heap.objs.size+1) k
   refine .inr ⟨.inl k,c,e,?_⟩
   have q:=x.cell y c e
   rw [vI ndP hp hu (by show scope.names.lookup y≠_;rw [k];decide)] at q
   exact q
 ·exact e0.hok.fresh (Nat.le_of_lt (x.above y c (PySem.mem_of_lookup h)))
 ·unfold start
  show _=N.length
  rw [List.length_append,List.length_map,List.length_replicate]
  omega
theorem QE {CX:DV} {P:Program} {w:World} {K:PySem.W.Frag} {mg:Str→Option Value} {base:Heap} {k:Nat} {f:Addr} {name qual:Str} {params:Arguments} {body:List Stmt} {scope:Scope} {dV kV doc pm cdv ct oc:Value} {an od:Option Addr}
  {osl:Array (Option Value)} {N ps:List Str} {sp:Sp} (lk:K.lookup f=some ⟨oc,od,.func (PySem.W.fnOf name qual params body scope dV kV doc pm an cdv ct),osl⟩) (hcd:PySem.W.codeIn K cdv qual=true) (S:aQ N ps scope)
  (len:∀vs H Q E,sp vs H Q E→vs.length=ps.length)
  (hbody:∀(A:Around) (outer:List Env) (s:Shared) (H:Hp) (vs:List V) (Q:VK) (E:XK),dD k (A.deeper (envOfC qual scope s.heap.objs.size f cdv))→sp vs H Q E →
   ∃t,DQ (gP CX P w K mg base N qual scope f cdv A outer s H E) body t∧t { nx:=fun _ H'=>Q .dM H',rt:=Q } (start N vs) H) :
  bH P w K mg base CX (k+1) f (PySem.W.fnOf name qual params body scope dV kV doc pm an cdv ct) ps sp:=by
 refine ⟨len,fun A outer s H args us vs Q E hr e0 hb r LF=>?_⟩
 have hl:=len _ _ _ _ LF
 have KX:K.In s.heap:=e0.mod.JF.keeps fun b o e=>(e0.bs b o e).1
 have lim:s.heap.NoLimit:=e0.mod.nolimit.keeps fun b o e=>(e0.bs b o e).1
 have hkind:∀y∈ps.zip us,scope.names.lookup y.1=some .local∨(scope.names.lookup y.1=some .cell∧((cellsFrom (s.heap.objs.size+1) scope.names []).lookup y.1).isSome=true):=fun ⟨n,v⟩ hy=>by
  rcases S.par n (List.of_mem_zip hy).1 with q | q
  ·exact .inl q
  ·exact .inr ⟨q,PySem.W.cellsFrom_some _ _ _ (.inl q)⟩
 refine codeAny_call_function hr.depth (KX _ _ lk) rfl S.co S.gen rfl (PySem.W.codeRec_of KX hcd) (hb _ _ _ _ ?_)
 refine wpAny_newFunctionEnv_cells S.kind hkind fun env he s1 x=>?_
 subst he
 refine ⟨lim.keeps x.toInCall.keep,codeAny_func ?_⟩
 obtain ⟨t,ht,hq⟩:=hbody A outer s H vs Q E (hr.deeper _) LF
 have I:Inv (gP CX P w K mg base N qual scope f cdv A outer s H E) [] (start N vs) H s1:=Du S hr.hd e0 hl r x
 refine wpAny_mono (ht [] s1 (start N vs) H _ I hq) (fun fl s' hs=>?_) fun e s' hs=>hs
 have fin:∀{σ':St} {H':Hp} {v:V} {u:Value},Inv (gP CX P w K mg base N qual scope f cdv A outer s H E) [] σ' H' s'→RelV v u→Q v H'→CE outer P w H s Q u s' :=
  fun {σ' H' v u} J rv q=>⟨v,H',J.os,J.bare,J.base,J.hok,rv,q⟩
 cases fl with
 | ret u =>
  obtain ⟨v,σ',H',J,rv,q⟩:=hs
  exact fin J rv q
 | next =>
  obtain ⟨σ',H',J,q⟩:=hs
  exact fin (v:=V.dM) (u:=Value.none) J rfl q
 | brk =>
  obtain ⟨_,_,_,q⟩:=hs
  exact False.elim q
 | cont =>
  obtain ⟨_,_,_,q⟩:=hs
  exact False.elim q
end L2
namespace L2
open PySem PySem.Spec PyProof.Rows
section
variable {X:Cx} {x:Str} {p pos:Pos} {e:Expr} {es:List Expr} {t:TA} {id T:String} {r:List V→Hp→VK→Prop}
def Tn (r:List V→Hp→VK→Prop) (t:TA):TE:=fun σ H Q=>t σ H fun vs H1=>r vs H1 Q
theorem xR (hc:kF X (.builtin id) r) (hg:Gl X x) (hm:X.mg x=none) (hv:bootBuiltins x=some (.builtin id)) (ha:PA X (e::es) t) (hn:x≠"__name__":=by decide) (hdb:(x == ("__debug__":Str))=false:=by decide)
  (he:starEach (e::es) X.env=(false,eval e X.env)::starEach es X.env:=by rfl) (hpl:(backTo pos (starEach es X.env)).any (·.1)=false:=by rfl):PE X (.Call (.Name x p) (e::es) [] pos) (Tn r t):=by
 intro pins s σ H Q I h
 refine wpAny_Call_Name_kw (wM I hg hm hv ?_ hn hdb)
 exact PyProof.Rows.callWith_builtin1 (fz (ha pos pins s σ H _ I h) fun us s1 ⟨vs,H1,I1,r1,q1⟩=>hc pins s1 σ H1 vs us Q I1 r1 q1) he hpl
theorem ia (hc:kF X (.type T) r) (hg:Gl X x) (hm:X.mg x=none) (hv:bootBuiltins x=some (.type T)) (ha:PA X (e::es) t) (hn:x≠"__name__":=by decide) (hdb:(x == ("__debug__":Str))=false:=by decide)
  (he:starEach (e::es) X.env=(false,eval e X.env)::starEach es X.env:=by rfl) (hpl:(backTo pos (starEach es X.env)).any (·.1)=false:=by rfl):PE X (.Call (.Name x p) (e::es) [] pos) (Tn r t):=by
 intro pins s σ H Q I h
 refine wpAny_Call_Name_kw (wM I hg hm hv ?_ hn hdb)
 exact PyProof.Rows.callWith_type1 (fz (ha pos pins s σ H _ I h) fun us s1 ⟨vs,H1,I1,r1,q1⟩=>hc pins s1 σ H1 vs us Q I1 r1 q1) he hpl
end
end L2
namespace HT
open PySem PyProof.Rows
section
open PySem.SeqAt
open PySem.AutoSeq1 (wpAny_loadPart')
open PySem.MeetsSeq PySem.MeetsSeq2 PySem.MeetsSeq3
end
section
variable {prog:Program} {w:World} {A:Around} {E:Value→Shared→Prop} {s:Shared}
theorem KN {t b:Addr} {vs ws:List Value} {Q:Value→Shared→Prop} (ht:IsTup s.heap t vs.toArray) (hb:IsTup s.heap b ws.toArray) (hv:vs≠[])
  (h1:ws=[]→Q (.ref t) s) (h2:ws≠[]→Q (.ref s.heap.objs.size) { s with heap:=s.heap.push { cls:=.type "tuple",data:=.seq (vs++ws).toArray } })
  (hsz:vs.length+ws.length≤sizeLine):wpAny (model prog w) A (binaryOp .Add (.ref t) (.ref b)) Q E s:=by
 obtain ⟨⟨cls,dd,data,sl⟩,ho,hc,n,hd⟩:=id ht
 obtain ⟨⟨a6S,dd2,data2,sl2⟩,ho2,hc2,n2,hd2⟩:=id hb
 simp only at hc hd hc2 hd2
 subst hc hd hc2 hd2
 have e:vs.toArray++ws.toArray=(vs++ws).toArray:=by simp
 by_cases hw:ws=[]
 ·exact concat_meets ⟨_,ho,rfl⟩ ⟨_,ho2,rfl⟩ noFill_tuple_add seq_tuple_add PySem.F.slot_tuple_add PySem.F.entry_tuple_add (PySem.F.args_tuple_add_2 _ _)
   (tuple_addW1 t b vs.toArray ws.toArray n n2 dd dd2 sl sl2 (by simpa using hv) (by simp [hw])) ⟨ho,ho2,h1 hw⟩
 ·refine concat_meets ⟨_,ho,rfl⟩ ⟨_,ho2,rfl⟩ noFill_tuple_add seq_tuple_add PySem.F.slot_tuple_add PySem.F.entry_tuple_add (PySem.F.args_tuple_add_2 _ _)
   (tuple_addW2 t b vs.toArray ws.toArray n n2 dd dd2 sl sl2 (by simpa using hv) (by simpa using hw) (by rw [List.size_toArray,List.size_toArray];exact hsz)) ⟨ho,ho2,?_⟩
  rw [e]
  exact h2 hw
def gw (n d:Nat):Option Int→Nat
 | none=>d
 | some v=>if v<0 then (v+(n:Int)).toNat else min v.toNat n
theorem j8 (n d k:Nat):gw n d (some (k:Int))=min k n:=by
 show (if (k:Int)<0 then ((k:Int)+(n:Int)).toNat else min (k:Int).toNat n)=min k n
 rw [if_neg (by omega),Int.toNat_natCast]
theorem ME (n d:Nat) (hd:d≤n) (o:Option Int):gw n d o≤n:=by
 cases o with
 | none=>exact hd
 | some v =>
  show (if v<0 then (v+(n:Int)).toNat else min v.toNat n)≤n
  by_cases hv:v<0
  ·rw [if_pos hv];omega
  ·rw [if_neg hv];exact Nat.min_le_right _ _
theorem CQ (v:Int) (n d:Nat):(if v<0 then max (v+(n:Int)) 0 else min v (n:Int))=((gw n d (some v):Nat):Int):=by
 show (if v<0 then max (v+(n:Int)) 0 else min v (n:Int))=(((if v<0 then (v+(n:Int)).toNat else min v.toNat n):Nat):Int)
 by_cases hv:v<0
 ·simp only [if_pos hv];omega
 ·simp only [if_neg hv];omega
theorem BD (lo hi:Option Int) (n:Nat):Builtin.Slice.sliceAdjust lo hi 1 (n:Int)=(((gw n 0 lo:Nat):Int),((gw n n hi:Nat):Int)):=by
 have h1:¬((1:Int)<0):=by omega
 unfold Builtin.Slice.sliceAdjust
 simp only [h1,if_false]
 refine Prod.ext ?_ ?_
 ·cases lo with
  | none=>rfl
  | some v=>exact CQ v n 0
 ·cases hi with
  | none=>rfl
  | some v=>exact CQ v n n
theorem Bf (i j:Nat):Builtin.Slice.slicePlaces (i:Int) (j:Int) 1=j-i:=by
 unfold Builtin.Slice.slicePlaces
 have h1:(1:Int) > 0:=by omega
 simp only [h1,if_true,Int.ediv_one]
 split<;>omega
theorem sV {v:Value} {o:Option Int} {Q:Option Int→Shared→Prop} (p:IsPart v o) (h:Q o s):wpAny (model prog w) A (Builtin.Slice.slicePartIndex v) Q E s:=by
 cases p with
 | none=>exact slicePart_none h
 | int i t=>exact slicePart_int h
theorem pR {sl:Addr} {vl vu:Value} {lo hi:Option Int} {n:Nat} {Q:Int×Int×Nat→Shared→Prop} (hs:s.heap.IsSliceOf sl vl vu .none) (pl:IsPart vl lo) (pu:IsPart vu hi)
  (h:Q (((gw n 0 lo:Nat):Int),1,gw n n hi-gw n 0 lo) s):wpAny (model prog w) A (Builtin.Slice.sliceApplied (.ref sl) (pure (n:Int))) Q E s:=by
 obtain ⟨os,hos,hcs,hds⟩:=id hs
 unfold Builtin.Slice.sliceApplied Builtin.Slice.sliceFields
 refine wpAny_bind (wpAny_bind (wpAny_field hos hds (x:=vl) rfl (wpAny_bind (wpAny_field hos hds (x:=vu) rfl (wpAny_bind (wpAny_field hos hds (x:=.none) rfl (wpAny_pure ?_)))))))
 refine wpAny_bind (slicePart_none ?_)
 show wpAny _ _ (if ((1:Int) == 0)=true then _ else _) _ _ s
 rw [if_neg (by decide)]
 refine wpAny_bind (sV pl (wpAny_bind (sV pu (wpAny_bind (wpAny_pure ?_)))))
 show wpAny _ _ (match Builtin.Slice.sliceAdjust lo hi 1 (n:Int) with | (lo,hi)=>pure (lo,(1:Int),Builtin.Slice.slicePlaces lo hi 1)) _ _ s
 rw [BD lo hi n]
 show wpAny _ _ (pure (((gw n 0 lo:Nat):Int),(1:Int),Builtin.Slice.slicePlaces ((gw n 0 lo:Nat):Int) ((gw n n hi:Nat):Int) 1)) _ _ s
 rw [Bf]
 exact wpAny_pure h
theorem FO (xs:Array Value) (i k:Nat):((List.range k).filterMap fun (m:Nat)=>xs[((i:Int)+(m:Int)*1).toNat]?).toArray=((xs.toList.drop i).take k).toArray:=by
 have e:(fun (m:Nat)=>xs[((i:Int)+(m:Int)*1).toNat]?)=fun m=>xs[i+m]?:=by
  funext m
  have:((i:Int)+(m:Int)*1).toNat=i+m:=by omega
  rw [this]
 rw [e]
 have:=pick_run xs i k
 rw [List.filterMap_map] at this
 have e2:((fun x=>xs[x]?) ∘ fun x=>i+x)=fun m=>xs[i+m]?:=rfl
 rw [e2] at this
 rw [this]
theorem oV {t sl:Addr} {items:Array Value} {vl vu:Value} {lo hi:Option Int} {Q:Value→Shared→Prop} (ht:IsTup s.heap t items) (hs:s.heap.IsSliceOf sl vl vu .none) (pl:IsPart vl lo) (pu:IsPart vu hi)
  (hw:¬(gw items.size 0 lo=0∧gw items.size items.size hi=items.size))
  (h:Q (.ref s.heap.objs.size) { s with heap:=s.heap.push { cls:=.type "tuple",data:=.seq ((items.toList.drop (gw items.size 0 lo)).take (gw items.size items.size hi-gw items.size 0 lo)).toArray } })
  (hsz:items.size≤sizeLine):wpAny (model prog w) A (getItem (.ref t) (.ref sl)) Q E s:=by
 have CA:sizeOk (.seq ((items.toList.drop (gw items.size 0 lo)).take (gw items.size items.size hi-gw items.size 0 lo)).toArray):=by
  show ((items.toList.drop (gw items.size 0 lo)).take (gw items.size items.size hi-gw items.size 0 lo)).toArray.size≤sizeLine
  rw [List.size_toArray,List.length_take,List.length_drop,Array.length_toList]
  omega
 have hj:gw items.size items.size hi≤items.size:=ME _ _ (Nat.le_refl _) hi
 obtain ⟨os,hos,hcs,hds⟩:=id hs
 have hTs:s.TypeIs (.ref sl) "slice":=⟨os,hos,hcs⟩
 unfold getItem
 try with_reducible refine wpAny_holding ?_
 first | refine wpAny_bind (wpAny_pure ?_) | skip
 refine wpAny_bind (wpAny_sequenceKey ht.typeIs (by decide) ?_)
 refine wpAny_bind (wpAny_callSpecial?_slot (name:=Str.ofString "__getitem__") ht.typeIs PyProof.Rows.slot_tuple_getitem
  (wpAny_call_entry PyProof.Rows.slot_tuple_getitem ht.typeIs entry_tuple_getitem ?_ (args_tuple_getitem _ _)))
 show wpAny _ _ (Builtin.Tuple.tupleItemsOf (.ref t) >>= _) _ _ s
 refine wpAny_bind (tupleItemsOf_ ht ?_)
 refine wpAny_bind (wpAny_typeOf hTs ?_)
 rw [if_pos (by decide)]
 refine wpAny_bind (pR hs pl pu ?_)
 have hno:¬((((gw items.size 0 lo:Nat):Int) == 0&&(1:Int) == 1&&(gw items.size items.size hi-gw items.size 0 lo) == items.size)=true):=by
  intro q
  rw [Bool.and_eq_true,Bool.and_eq_true] at q
  have q1:((gw items.size 0 lo:Nat):Int)=0:=eq_of_beq q.1.1
  have q2:gw items.size items.size hi-gw items.size 0 lo=items.size:=eq_of_beq q.2
  exact hw ⟨by omega,by omega⟩
 show wpAny _ _ (if (((gw items.size 0 lo:Nat):Int) == 0&&(1:Int) == 1&&(gw items.size items.size hi-gw items.size 0 lo) == items.size)=true then _ else _) _ _ s
 rw [if_neg hno,FO]
 first
  | exact wpAny_bind (m:=Builtin.Tuple.tupleExact _) (wpAny_newObj_type (wpAny_pure ⟨_,rfl,wpAny_pure h⟩) CA)
  | exact wpAny_bind (m:=Builtin.Tuple.tupleExact _) (wpAny_newObj_type (wpAny_bind (wpAny_pure (wpAny_pure ⟨_,rfl,wpAny_pure h⟩))) CA)
  | exact wpAny_bind (wpAny_bind (m:=Builtin.Tuple.tupleExact _) (wpAny_newObj_type (wpAny_pure (wpAny_pure ⟨_,rfl,wpAny_pure h⟩)) CA))
  | exact wpAny_bind (wpAny_bind (m:=Builtin.Tuple.tupleExact _) (wpAny_newObj_type (wpAny_pure ⟨_,rfl,wpAny_pure h⟩) CA))
end
end HT
namespace L2
open PySem PySem.Spec PyProof.Rows
abbrev TO:=St→Hp→(Option Int→Hp→Prop)→Prop
def PO (X:Cx) (e:Option Expr) (t:TO):Prop :=
 ∀(pins:List (Addr×Obj)) (s:Shared) (σ:St) (H:Hp) (Q:Option Int→Hp→Prop),Inv X pins σ H s→t σ H Q →
  wpAny (model X.prog X.w) X.A (evalPart e X.env) (fun u s'=>∃o H',Inv X pins σ H' s'∧IsPart u o∧Q o H') X.xe s
def JT:TO:=fun _ H Q=>Q none H
def O8 (t:TE):TO:=fun σ H Q=>t σ H fun x H1=>∃i,x=.int i∧Q (some i) H1
section
variable {X:Cx} {e:Expr} {te:TE} {lo hi:Option Expr} {tl th:TO} {pos p2:Pos}
theorem iy:PO X none JT:=by
 intro pins s σ H Q I h
 rw [evalPart_none]
 exact wpAny_pure ⟨none,H,I,.none,h⟩
theorem dO (h:PE X e te):PO X (some e) (O8 te):=by
 intro pins s σ H Q I hw
 rw [evalPart_some]
 refine fz (h pins s σ H _ I hw) fun u s1 ⟨x,H1,I1,r1,q1⟩=>?_
 obtain ⟨i,rfl,q⟩:=q1
 obtain ⟨t,rfl⟩:=r1
 exact ⟨some i,H1,I1,.int i t,q⟩
def SlR (X:Cx) (r:V→Option Int→Option Int→Hp→VK→Prop):Prop :=
 ∀(pins:List (Addr×Obj)) (s:Shared) (σ:St) (H:Hp) (x:V) (v vl vu:Value) (lo hi:Option Int) (sl:Addr) (Q:VK),Inv X pins σ H s→RelV x v→s.heap.IsSliceOf sl vl vu .none→IsPart vl lo→IsPart vu hi→r x lo hi H Q →
  ∃T id,typeLookup (.type T) "__getitem__"=pure (some (.builtin id))∧s.TypeIs v T∧wpAny (model X.prog X.w) X.A (getItem v (.ref sl)) (EP X pins σ Q) X.xe s
def tSl (r:V→Option Int→Option Int→Hp→VK→Prop) (te:TE) (tl th:TO):TE:=fun σ H Q=>te σ H fun x H1=>tl σ H1 fun l H2=>th σ H2 fun u H3=>r x l u H3 Q
theorem eu {r:V→Option Int→Option Int→Hp→VK→Prop} (hr:SlR X r) (he:PE X e te) (hl:PO X lo tl) (hu:PO X hi th):PE X (.Subscript e (.Slice lo hi none p2) pos) (tSl r te tl th):=by
 intro pins s σ H Q I h
 refine Subscript_ (fz (he pins s σ H _ I h) fun v s1 ⟨x,H1,I1,r1,q1⟩=>?_)
 refine wpAny_Slice (fz (hl pins s1 σ H1 _ I1 q1) fun vl s2 ⟨l,H2,I2,pl,q2⟩=>fz (hu pins s2 σ H2 _ I2 q2) fun vu s3 ⟨u,H3,I3,pu,q3⟩=>?_)
 rw [evalPart_none]
 refine wpAny_pure ?_
 have I4:Inv X pins σ H3 { s3 with heap:=s3.heap.push { cls:=.type "slice",data:=.fields #[vl,vu,.none] } }:=I3.kept (t':=s3.toks) fun b ob q=>Heap.get?_push_of_some _ q
 obtain ⟨T,id,hT,ht,hg⟩:=hr pins { s3 with heap:=s3.heap.push { cls:=.type "slice",data:=.fields #[vl,vu,.none] } } σ H3 x v vl vu l u s3.heap.objs.size Q I4 r1 (Heap.IsSliceOf.new ..) pl pu q3
 show wpAny (model X.prog X.w) X.A (subscriptTail e (.Slice lo hi none p2) v (.ref s3.heap.objs.size)) (EP X pins σ Q) X.xe { s3 with heap:=s3.heap.push { cls:=.type "slice",data:=.fields #[vl,vu,.none] } }
 exact tail_any (ops:=[.ref s3.heap.objs.size,v]) ht hT hg (by with_unfolding_all rfl)
def kD (xs:List V) (lo hi:Option Int):List V:=(xs.drop (HT.gw xs.length 0 lo)).take (HT.gw xs.length xs.length hi-HT.gw xs.length 0 lo)
theorem rB (xs:List V) (lo hi:Option Int):(kD xs lo hi).length≤xs.length:=by
 unfold kD
 rw [List.length_take,List.length_drop]
 omega
def Xb (K:PySem.W.Frag):V→Option Int→Option Int→Hp→VK→Prop:=fun x lo hi H Q=>∃a xs,x=.ref a∧aW K H a xs ∧
 ¬(HT.gw xs.length 0 lo=0∧HT.gw xs.length xs.length hi=xs.length)∧∀p,H p=none→Q (.ref p) (upd H p (.tup (kD xs lo hi)))
theorem kN:SlR X (Xb X.K):=by
 intro pins s σ H x v vl vu lo hi sl Q I rx hs pl pu h
 obtain ⟨a,xs,rfl,hx,hw,q⟩:=h
 cases rx
 obtain ⟨its,r,ht,hz⟩:=I.tuple hx
 have hlen:its.toArray.size=xs.length:=by rw [List.size_toArray];exact r.length.symm
 refine ⟨"tuple",_,PyProof.Rows.slot_tuple_getitem.lookup,ht.typeIs,?_⟩
 refine HT.oV ht hs pl pu (by rw [hlen];exact hw) ?_ (by rw [hlen];exact hz)
 rw [hlen]
 refine ⟨.ref s.heap.objs.size,_,I.laid (t':=s.toks) (o:=.tup (kD xs lo hi)) (fun b ob q=>Heap.get?_push_of_some _ q) (Nat.le_refl _) ?_,rfl,q _ (I.hok.fresh (Nat.le_refl _))⟩
 exact ⟨Nat.le_trans (rB xs lo hi) hz,_,(r.drop (HT.gw xs.length 0 lo)).take (HT.gw xs.length xs.length hi-HT.gw xs.length 0 lo),IsTup.new _ _⟩
def Px (K:PySem.W.Frag):R2:=fun x y H Q=>∃a b xs ys,x=.ref a∧y=.ref b∧aW K H a xs∧aW K H b ys∧xs≠[]∧xs.length+ys.length≤sizeLine ∧
 (ys=[]→Q (.ref a) H)∧(ys≠[]→∀p,H p=none→Q (.ref p) (upd H p (.tup (xs++ys))))
theorem Vals.sf {xs:List V} {us:List Value} (r:Vals xs us):us=[]↔xs=[]:=by
 cases r with
 | nil=>simp
 | cons _ _=>simp
theorem J6:nV X (binaryOp .Add) (Px X.K):=by
 intro pins s σ H x y v u Q I rx ry h
 obtain ⟨a,b,xs,ys,rfl,rfl,ha,hb,hx,hz,q1,q2⟩:=h
 cases rx
 cases ry
 obtain ⟨its,r1,p1,_⟩:=I.tuple ha
 obtain ⟨its2,r2,p2,_⟩:=I.tuple hb
 refine HT.KN p1 p2 (fun z=>hx (r1.sf.mp z)) (fun z=>⟨.ref a,H,I,rfl,q1 (r2.sf.mp z)⟩) (fun z=>?_) (by rw [←r1.length,←r2.length];exact hz)
 refine ⟨.ref s.heap.objs.size,_,I.laid (t':=s.toks) (o:=.tup (xs++ys)) (fun b ob q=>Heap.get?_push_of_some _ q) (Nat.le_refl _) ?_,rfl,q2 (fun w=>z (r2.sf.mpr w)) _ (I.hok.fresh (Nat.le_refl _))⟩
 exact ⟨by rw [List.length_append];exact hz,_,r1.append r2,IsTup.new _ _⟩
end
end L2
namespace L2
open PySem PySem.Spec PyProof.Rows
def Kq (n:Nat) (i:Int):Option Nat:=if 0≤i then (if i<n then some i.toNat else none) else if -(n:Int)≤i then some (i+n).toNat else none
def vJ {α:Type} (xs:List α) (i:Int):Option α:=(Kq xs.length i).bind fun j=>xs[j]?
theorem Cv {n:Nat} {i:Int} {j:Nat} (h:Kq n i=some j):seqIndex? i n=some j∧j<n∧-(n:Int)≤i∧i<n:=by
 unfold Kq at h
 by_cases h0:0≤i
 ·rw [if_pos h0] at h
  by_cases h1:i<n
  ·rw [if_pos h1] at h
   have e:i.toNat=j:=Option.some.inj h
   exact ⟨by rw [seqIndex_of h0 h1,e],by omega,by omega,h1⟩
  ·rw [if_neg h1] at h;cases h
 ·rw [if_neg h0] at h
  by_cases h1:-(n:Int)≤i
  ·rw [if_pos h1] at h
   have e:(i+n).toNat=j:=Option.some.inj h
   exact ⟨by rw [seqIndex_neg (by omega) h1,e],by omega,h1,by omega⟩
  ·rw [if_neg h1] at h;cases h
theorem xh {α:Type} {xs:List α} {i:Int} {v:α} (h:vJ xs i=some v):∃j,seqIndex? i xs.length=some j∧xs[j]?=some v∧j<xs.length∧-(xs.length:Int)≤i∧i<xs.length:=by
 unfold vJ at h
 cases e:Kq xs.length i with
 | none=>rw [e] at h;cases h
 | some j =>
  rw [e] at h
  obtain ⟨h1,h2,h3,h4⟩:=Cv e
  exact ⟨j,h1,h,h2,h3,h4⟩
theorem bI {α:Type} {xs:List α} {j:Nat} {v:α} (h:xs[j]?=some v):vJ xs (j:Int)=some v:=by
 have hj:j<xs.length:=(List.getElem?_eq_some_iff.mp h).1
 have e:Kq xs.length (j:Int)=some j:=by
  unfold Kq
  rw [if_pos (by omega),if_pos (by omega)];simp
 unfold vJ;rw [e];exact h
def KW (b:Expr):Prop:=∀o i,subscripted b false o i=operate [o,i] (getItem o i)
def SO (X:Cx) (r:R2):Prop :=
 ∀(value slice:Expr) (pins:List (Addr×Obj)) (s:Shared) (σ:St) (H:Hp) (x y:V) (v u:Value) (Q:VK),Inv X pins σ H s→RelV x v→RelV y u→r x y H Q →
  subscripted slice false v u=operate [v,u] (getItem v u)→wpAny (model X.prog X.w) X.A (subscriptTail value slice v u) (EP X pins σ Q) X.xe s
def Vx (X:Cx) (id:String) (r:V→List V→Hp→VK→Prop):Prop :=
 ∀(pins:List (Addr×Obj)) (s:Shared) (σ:St) (H:Hp) (x:V) (xs:List V) (v:Value) (us:List Value) (Q:VK),Inv X pins σ H s→RelV x v→Vals xs us→r x xs H Q →
  wpAny (model X.prog X.w) X.A (call (.builtin id) (v::us)) (EP X pins σ Q) X.xe s
section
variable {X:Cx} {a b:Expr} {ta tb:TE} {pos:Pos}
theorem aJ {r:R2} (hr:SO X r) (ha:PE X a ta) (hb:PE X b tb) (hs:KW b):PE X (.Subscript a b pos) (O9 r ta tb):=by
 intro pins s σ H Q I h
 exact Subscript_ (Oq ha hb I h fun v u s2 x y H2 I2 rx ry q=>hr a b pins s2 σ H2 x y v u Q I2 rx ry q (hs _ _))
def Xg (K:PySem.W.Frag):R2:=fun x y H Q=>∃p xs i v,x=.ref p∧y=.int i∧bS K H p xs∧vJ xs i=some v∧Q v H
def Pw (K:PySem.W.Frag):R2:=fun x y H Q=>∃p xs i v,x=.ref p∧y=.int i∧aW K H p xs∧vJ xs i=some v∧Q v H
def Xe:R2:=fun x y H Q=>∃z i c,x=.str z∧y=.int i∧z.length≤sizeLine∧vJ z.cps.toList i=some c∧Q (.str ⟨#[c]⟩) H
theorem cN:SO X (Xg X.K):=by
 intro value slice pins s σ H x y v u Q I rx ry h hs
 obtain ⟨p,xs,i,z,rfl,rfl,hq,he,q⟩:=h
 cases rx
 obtain ⟨t,rfl⟩:=ry
 obtain ⟨its,r,pl,hz⟩:=I.list hq
 obtain ⟨j,h1,h2,h3,h4,h5⟩:=xh he
 obtain ⟨w,ew,rw'⟩:=r.get h2
 have hl:=r.length
 have hn:=qz
 have fin:EP X pins σ Q w s:=⟨z,H,I,rw',q⟩
 by_cases h0:0≤i
 ·have hj:i.toNat=j:=by
   rw [seqIndex_of h0 h5] at h1
   exact Option.some.inj h1
  exact item_listR pl.isList h0 (by omega) (by rw [hj];simpa using ew) fin hs
 ·have hj:(i+(its.toArray.size:Int)).toNat=j:=by
   rw [seqIndex_neg (by omega) h4] at h1
   rw [List.size_toArray,←hl]
   exact Option.some.inj h1
  exact subscriptTail_builtinR (x:=w) pl.isList.typeIs slot_list_getitem.lookup
   (wpAny_getItem_list_neg (Q:=fun r s'=>r=w∧EP X pins σ Q r s') pl.isList (by omega) (by rw [List.size_toArray]<;>omega) (by omega) (by rw [hj];simpa using ew) ⟨rfl,fin⟩) hs
theorem aI:SO X (Pw X.K):=by
 intro value slice pins s σ H x y v u Q I rx ry h hs
 obtain ⟨p,xs,i,z,rfl,rfl,hq,he,q⟩:=h
 cases rx
 obtain ⟨t,rfl⟩:=ry
 obtain ⟨its,r,pl,hz⟩:=I.tuple hq
 obtain ⟨j,h1,h2,h3,h4,h5⟩:=xh he
 obtain ⟨w,ew,rw'⟩:=r.get h2
 have hl:=r.length
 have hn:=qz
 have fin:EP X pins σ Q w s:=⟨z,H,I,rw',q⟩
 exact subscriptTail_builtinR (x:=w) pl.typeIs slot_tuple_getitem.lookup
  (getItem_tuple (j:=j) (Q:=fun r s'=>r=w∧EP X pins σ Q r s') pl (by omega) (by omega) (by rw [List.size_toArray,←hl];exact h1) (by simpa using ew) ⟨rfl,fin⟩) hs
theorem qC:SO X Xe:=by
 intro value slice pins s σ H x y v u Q I rx ry h hs
 obtain ⟨z,i,c,rfl,rfl,hz,he,q⟩:=h
 obtain ⟨t,rfl⟩:=rx
 obtain ⟨t',rfl⟩:=ry
 obtain ⟨j,h1,h2,h3,h4,h5⟩:=xh he
 have hl:z.cps.toList.length=z.length:=by simp [Str.length]
 rw [hl] at h1 h4 h5
 have hn:=qz
 exact tail_any (typeIs_str s z t) slot_str_getitem.lookup (getItem_str (c:=c) (by
  have e1:decide (i < -(2 ^ 63:Int))=false:=decide_eq_false (by omega)
  have e2:decide (i ≥ 2 ^ 63)=false:=decide_eq_false (by omega)
  rw [e1,e2,Bool.or_false]) (by rw [h1];simpa using h2) ⟨.str ⟨#[c]⟩,H,I.tok _,⟨_,rfl⟩,q⟩) hs
theorem Bo (its:List Value) (n j:Nat) (u:Value):Obj.mapSeq (·.setIfInBounds j u) { cls:=.type "list",data:=.seq its.toArray n }={ cls:=.type "list",data:=.seq (its.set j u).toArray n }:=by
 simp [Obj.mapSeq]
theorem Inv.lst {pins:List (Addr×Obj)} {σ:St} {H:Hp} {s:Shared} {p:Addr} {xs:List V} (I:Inv X pins σ H s) (h:H p=some (.lst xs)) :
  ∃(its:List Value) (n:Nat),Vals xs its∧s.heap.get? p=some { cls:=.type "list",data:=.seq its.toArray n }∧xs.length≤sizeLine:=by
 obtain ⟨z,its,n,r,e⟩:=I.hok p _ h
 exact ⟨its,n,r,e,z⟩
theorem Inv.Nt {pins:List (Addr×Obj)} {σ:St} {H:Hp} {s:Shared} {p:Addr} {xs ys:List V} {its its':List Value} {n n':Nat} {f:Obj→Obj} (I:Inv X pins σ H s) (h:H p=some (.lst xs))
  (ho:s.heap.get? p=some { cls:=.type "list",data:=.seq its.toArray n }) (hf:f { cls:=.type "list",data:=.seq its.toArray n }={ cls:=.type "list",data:=.seq its'.toArray n' }) (r:Vals ys its') (hz:ys.length≤sizeLine) (t:Nat) :
  Inv X pins σ (upd H p (.lst ys)) { s with heap:=s.heap.update p f,toks:=t }:=by
 have e:(s.heap.update p f).get? p=some { cls:=.type "list",data:=.seq its'.toArray n' }:=by
  rw [Heap.get?_update_self f ho (by rw [hf]<;>rfl),hf]
 refine I.write (x:=p) (e:=p) (by rw [h];trivial) (.inl rfl) (fun b u hb q=>(Heap.get?_update_other _ _ (Ne.symm hb)).trans q) ⟨_,e⟩ ?_
 exact ⟨hz,its',n',r,e⟩
def Pu:V→V→V→Hp→(Hp→Prop)→Prop:=fun o i v H Q=>∃p xs k j,o=.ref p∧i=.int k∧H p=some (.lst xs)∧Kq xs.length k=some j∧Q (upd H p (.lst (xs.set j v)))
theorem set_list:Ow X Pu:=by
 intro pins s σ H o i v ov iv u Q I ro ri rv h
 obtain ⟨p,xs,k,j,rfl,rfl,hp,hj,q⟩:=h
 cases ro
 obtain ⟨t,rfl⟩:=ri
 obtain ⟨its,n,r,ho,hz⟩:=I.lst hp
 obtain ⟨h1,h2,h3,h4⟩:=Cv hj
 have hl:=r.length
 have hn:=qz
 have I':Inv X pins σ (upd H p (.lst (xs.set j v))) { s with heap:=s.heap.update p (Obj.mapSeq (·.setIfInBounds j u)) } :=
  I.Nt hp ho (Bo its n j u) (r.set rv j) (by rw [List.length_set];exact hz) s.toks
 by_cases h0:0≤k
 ·have hk:k.toNat=j:=by
   rw [seqIndex_of h0 h4] at h1
   exact Option.some.inj h1
  exact PySem.W.ki_setAt ho h0 (by omega) (by rw [List.size_toArray,←hl];exact h4) (by rw [hk];exact ⟨_,I',q⟩)
 ·have hk:(k+(its.toArray.size:Int)).toNat=j:=by
   rw [seqIndex_neg (by omega) h3] at h1
   rw [List.size_toArray,←hl]
   exact Option.some.inj h1
  exact PySem.W.ki_setBack ho (by omega) (by rw [List.size_toArray,←hl];exact h3) (by omega) (by rw [hk];exact ⟨_,I',q⟩)
theorem vV (lo hi:Option Int) (n:Nat):(sliceBounds lo hi none n).1=((HT.gw n 0 lo:Nat):Int)∧(sliceBounds lo hi none n).2.1=((HT.gw n n hi:Nat):Int)∧(sliceBounds lo hi none n).2.2=1:=by
 refine ⟨?_,?_,rfl⟩
 ·cases lo with
  | none=>simp [sliceBounds,HT.gw]
  | some i =>
   simp only [sliceBounds,HT.gw,Option.getD_none,show (1:Int) > 0 by decide,if_true]
   by_cases h:i<0
   ·simp only [h,if_true]<;>omega
   ·simp only [h,if_false]<;>omega
 ·cases hi with
  | none=>simp [sliceBounds,HT.gw]
  | some i =>
   simp only [sliceBounds,HT.gw,Option.getD_none,show (1:Int) > 0 by decide,if_true]
   by_cases h:i<0
   ·simp only [h,if_true]<;>omega
   ·simp only [h,if_false]<;>omega
theorem uG (its:List Value) (lo hi:Option Int):slicePick its.toArray lo hi none=((its.drop (HT.gw its.length 0 lo)).take (HT.gw its.length its.length hi-HT.gw its.length 0 lo)).toArray:=by
 obtain ⟨h1,h2,h3⟩:=vV lo hi its.toArray.size
 unfold slicePick
 rw [h1,h2,h3]
 simp only [sliceRange_one,pick_run,List.size_toArray]<;>rfl
def Xc (K:PySem.W.Frag):V→Option Int→Option Int→Hp→VK→Prop:=fun x lo hi H Q=>∃a xs,x=.ref a∧bS K H a xs∧∀p,H p=none→Q (.ref p) (upd H p (.lst (kD xs lo hi)))
theorem jW:SlR X (Xc X.K):=by
 intro pins s σ H x v vl vu lo hi sl Q I rx hs pl pu h
 obtain ⟨a,xs,rfl,hx,q⟩:=h
 cases rx
 obtain ⟨its,r,ht,hz⟩:=I.list hx
 have hlen:=r.length
 refine ⟨"list",_,slot_list_getitem.lookup,ht.isList.typeIs,?_⟩
 refine wpAny_getItem_list_slice ht.isList hs pl pu .none (by simp) ?_ (by rw [List.size_toArray]<;>omega)
 rw [uG,←hlen]
 refine ⟨.ref s.heap.objs.size,_,I.laid (t':=s.toks) (o:=.lst (kD xs lo hi)) (fun b ob q=>Heap.get?_push_of_some _ q) (Nat.le_refl _) ?_,rfl,q _ (I.hok.fresh (Nat.le_refl _))⟩
 exact ⟨Nat.le_trans (rB xs lo hi) hz,_,0,(r.drop (HT.gw xs.length 0 lo)).take (HT.gw xs.length xs.length hi-HT.gw xs.length 0 lo),Heap.get?_push_size _ rfl⟩
def jg:V→Bool
 | .dM=>true
 | .bl _=>true
 | .int _=>true
 | .str _=>true
 | _=>false
def yj:V→V→Bool
 | .dM,.dM=>true
 | .bl a,.bl b=>a == b
 | .bl a,.int b=>(if a then 1 else 0) == b
 | .int a,.bl b=>a == (if b then 1 else 0)
 | .int a,.int b=>a == b
 | .str a,.str b=>a == b
 | _,_=>false
theorem Je {A:Around} {s:Shared} {y x:V} {u v:Value} (ry:RelV y u) (rx:RelV x v) (fy:jg y=true) (fx:jg x=true):SeqAt.EqAt A s u v (yj y x):=by
 cases y with
 | dM =>
  cases ry
  cases x with
  | dM=>cases rx;exact SeqAt.EqAt.same _
  | bl b=>cases rx;exact SeqAt.EqAt.none_bool b
  | int b=>obtain ⟨t,rfl⟩:=rx;exact SeqAt.EqAt.none_int b t
  | str b=>obtain ⟨t,rfl⟩:=rx;exact SeqAt.EqAt.none_str b t
  | _=>exact absurd (show false=true from fx) Bool.false_ne_true
 | bl a =>
  cases ry
  cases x with
  | dM=>cases rx;exact SeqAt.EqAt.bool_none a
  | bl b=>cases rx;exact SeqAt.EqAt.bool_bool a b
  | int b=>obtain ⟨t,rfl⟩:=rx;exact SeqAt.EqAt.bool_int a b t
  | str b=>obtain ⟨t,rfl⟩:=rx;exact SeqAt.EqAt.bool_str a b t
  | _=>exact absurd (show false=true from fx) Bool.false_ne_true
 | int a =>
  obtain ⟨t',rfl⟩:=ry
  cases x with
  | dM=>cases rx;exact SeqAt.EqAt.int_none a t'
  | bl b=>cases rx;exact SeqAt.EqAt.int_bool a t' b
  | int b=>obtain ⟨t,rfl⟩:=rx;exact SeqAt.EqAt.int_int a t' b t
  | str b=>obtain ⟨t,rfl⟩:=rx;exact SeqAt.EqAt.int_str a t' b t
  | _=>exact absurd (show false=true from fx) Bool.false_ne_true
 | str a =>
  obtain ⟨t',rfl⟩:=ry
  cases x with
  | dM=>cases rx;exact SeqAt.EqAt.str_none a t'
  | bl b=>cases rx;exact SeqAt.EqAt.str_bool a t' b
  | int b=>obtain ⟨t,rfl⟩:=rx;exact SeqAt.EqAt.str_int a t' b t
  | str b=>obtain ⟨t,rfl⟩:=rx;exact SeqAt.EqAt.str_str a t' b t
  | _=>exact absurd (show false=true from fx) Bool.false_ne_true
 | _=>exact absurd (show false=true from fy) Bool.false_ne_true
def By (x:V) (u:Value):Bool:=match u with
 | .none=>yj .dM x
 | .bool b=>yj (.bl b) x
 | .int i _=>yj (.int i) x
 | .str z _=>yj (.str z) x
 | _=>false
theorem Jd {x y:V} {u:Value} (r:RelV y u) (f:jg y=true):By x u=yj y x:=by
 cases y with
 | dM=>cases r;rfl
 | bl b=>cases r;rfl
 | int i=>obtain ⟨t,rfl⟩:=r;rfl
 | str z=>obtain ⟨t,rfl⟩:=r;rfl
 | _=>exact absurd (show false=true from f) Bool.false_ne_true
theorem pG {x:V}:∀{xs:List V} {us:List Value},Vals xs us→xs.all jg=true→us.any (By x)=xs.any fun y=>yj y x
 | _,_,.nil,_=>rfl
 | y::xs,u::us,.cons r t,f=>by
  rw [List.all_cons,Bool.and_eq_true] at f
  rw [List.any_cons,List.any_cons,Jd r f.1,pG t f.2]
theorem lP {A:Around} {s:Shared} {x:V} {v:Value} (rx:RelV x v) (fx:jg x=true):∀{xs:List V} {us:List Value},Vals xs us→xs.all jg=true→∀u∈us,SeqAt.EqAt A s u v (By x u)
 | _,_,.nil,_=>fun u hu=>by cases hu
 | y::xs,u::us,.cons r t,f=>fun u' hu=>by
  rw [List.all_cons,Bool.and_eq_true] at f
  rcases List.mem_cons.mp hu with rfl | hu
  ·rw [Jd r f.1];exact Je r rx f.1 fx
  ·exact lP rx fx t f.2 u' hu
def oS (x:V) (xs:List V):Bool:=xs.any fun y=>yj y x
def Tv (K:PySem.W.Frag) (neg:Bool):R2:=fun x y H Q=>∃p xs,y=.ref p∧(bS K H p xs∨aW K H p xs)∧jg x=true∧xs.all jg=true∧Q (.bl (if neg then !oS x xs else oS x xs)) H
theorem iV:nV X (compareOp .In) (Tv X.K false):=by
 intro pins s σ H x y v u Q I rx ry h
 obtain ⟨p,xs,rfl,hq,fx,fs,q⟩:=h
 cases ry
 rcases hq with hq | hq
 ·obtain ⟨its,r,pl,hz⟩:=I.list hq
  refine SeqAt.in_listAt (By x) pl.isList (fun w hw=>lP rx fx r fs w (by simpa using hw)) ⟨.bl _,H,I,rfl,?_⟩
  rw [show its.toArray.any (By x)=its.any (By x) by simp,pG r fs]
  exact q
 ·obtain ⟨its,r,pl,hz⟩:=I.tuple hq
  refine SeqAt.in_tupleAt (By x) pl (fun w hw=>lP rx fx r fs w (by simpa using hw)) ⟨.bl _,H,I,rfl,?_⟩
  rw [show its.toArray.any (By x)=its.any (By x) by simp,pG r fs]
  exact q
theorem wj:nV X (compareOp .NotIn) (Tv X.K true):=by
 intro pins s σ H x y v u Q I rx ry h
 obtain ⟨p,xs,rfl,hq,fx,fs,q⟩:=h
 cases ry
 rcases hq with hq | hq
 ·obtain ⟨its,r,pl,hz⟩:=I.list hq
  refine SeqAt.notIn_listAt (By x) pl.isList (fun w hw=>lP rx fx r fs w (by simpa using hw)) ⟨.bl _,H,I,rfl,?_⟩
  rw [show its.toArray.any (By x)=its.any (By x) by simp,pG r fs]
  exact q
 ·obtain ⟨its,r,pl,hz⟩:=I.tuple hq
  refine SeqAt.notIn_tupleAt (By x) pl (fun w hw=>lP rx fx r fs w (by simpa using hw)) ⟨.bl _,H,I,rfl,?_⟩
  rw [show its.toArray.any (By x)=its.any (By x) by simp,pG r fs]
  exact q
theorem bR:kF X (.builtin "len") (fun xs H Q=>∃p ys,xs=[.ref p]∧(bS X.K H p ys∨aW X.K H p ys)∧Q (.int ys.length) H):=by
 intro pins s σ H xs us Q I r h
 obtain ⟨p,ys,rfl,hq,q⟩:=h
 obtain ⟨u,rfl,rx⟩:=vals1 r
 cases rx
 have hn:=qz
 rcases hq with hq | hq
 ·obtain ⟨its,r',pl,hz⟩:=I.list hq
  have hlen:=r'.length
  exact Calls.call_len_list pl.isList (by simp only [List.size_toArray]<;>omega) ⟨.int ys.length,H,I.tok _,⟨s.toks+1,by rw [List.size_toArray,hlen]⟩,q⟩
 ·obtain ⟨its,r',pl,hz⟩:=I.tuple hq
  have hlen:=r'.length
  exact len_tuple pl (by simp only [List.size_toArray]<;>omega) ⟨.int ys.length,H,I.tok _,⟨s.toks+1,by rw [List.size_toArray,hlen]⟩,q⟩
theorem gh:kF X (.type "list") (fun xs H Q=>∃p ys,xs=[.ref p]∧(bS X.K H p ys∨aW X.K H p ys)∧∀l,H l=none→Q (.ref l) (upd H l (.lst ys))):=by
 intro pins s σ H xs us Q I r h
 obtain ⟨p,ys,rfl,hq,q⟩:=h
 obtain ⟨u,rfl,rx⟩:=vals1 r
 cases rx
 have fin:∀(its:List Value),Vals ys its→ys.length≤sizeLine→∀(h':Heap) (c':Nat),(∀b o',s.heap.get? b=some o'→h'.get? b=some o') →
   h'.get? s.heap.objs.size=some { cls:=.type "list",dict:=none,data:=.seq its.toArray c',slots:=#[] }→EP X pins σ Q (.ref s.heap.objs.size) { s with heap:=h' }:=fun its r' hz h' c' kp e =>
  ⟨.ref s.heap.objs.size,_,I.laid (t':=s.toks) kp (Nat.le_refl _) (show eO X.prog X.w _ h' _ (.lst ys) from ⟨hz,its,c',r',e⟩),rfl,q _ (I.hok.fresh (Nat.le_refl _))⟩
 rcases hq with hq | hq
 ·obtain ⟨its,r',pl,hz⟩:=I.list hq
  have hlen:=r'.length
  obtain ⟨o,ho,hc,n,hd⟩:=pl.isList
  exact call_list_seq p (.inl rfl) ho hc hd (fun h' c' kp e=>fin its r' hz h' c' kp e) (by simp only [List.size_toArray]<;>omega)
 ·obtain ⟨its,r',pl,hz⟩:=I.tuple hq
  have hlen:=r'.length
  obtain ⟨o,ho,hc,n,hd⟩:=pl
  exact call_list_seq p (.inr rfl) ho hc hd (fun h' c' kp e=>fin its r' hz h' c' kp e) (by simp only [List.size_toArray]<;>omega)
theorem aK:kF X (.type "tuple") (fun xs H Q=>∃p ys,xs=[.ref p]∧((bS X.K H p ys∧∀l,H l=none→Q (.ref l) (upd H l (.tup ys)))∨(aW X.K H p ys∧Q (.ref p) H))):=by
 intro pins s σ H xs us Q I r h
 obtain ⟨p,ys,rfl,h⟩:=h
 obtain ⟨u,rfl,rx⟩:=vals1 r
 cases rx
 rcases h with ⟨hq,q⟩ | ⟨hq,q⟩
 ·obtain ⟨its,r',pl,hz⟩:=I.list hq
  have hlen:=r'.length
  refine call_tuple_list pl.isList (fun h' kp=>?_) (by simp only [List.size_toArray]<;>omega)
  have I1:Inv X pins σ H { s with heap:=h' }:=I.kept (t':=s.toks) kp
  have I2:Inv X pins σ (upd H h'.objs.size (.tup ys)) { s with heap:=h'.push { cls:=.type "tuple",data:=.seq its.toArray } } :=
   I1.laid (t':=s.toks) (fun b o e=>Heap.get?_push_of_some _ e) (Nat.le_refl _) (show eO X.prog X.w _ _ _ (.tup ys) from ⟨hz,its,r',IsTup.new _ _⟩)
  exact ⟨.ref h'.objs.size,_,I2,rfl,q _ (I1.hok.fresh (Nat.le_refl _))⟩
 ·obtain ⟨its,r',pl,hz⟩:=I.tuple hq
  exact call_tuple_same pl ⟨.ref p,H,I,rfl,q⟩
def VG (K:PySem.W.Frag) (T:String) (x:V) (H:Hp):Prop:=match x with
 | .str _=>T="str"
 | .int _=>T="int"
 | .ref p=>(T="list"∧∃xs,bS K H p xs)∨(T="tuple"∧∃o,K.lookup p=some o∧o.cls=.type "tuple"∧o.dict=none) ∨
   (T="dict"∧((∃kvs,H p=some (.dK kvs))∨∃kvs,H p=some (.dT kvs)))∨(T="set"∧∃S n,H p=some (.set S n))
 | _=>False
theorem EF {pins:List (Addr×Obj)} {σ:St} {H:Hp} {s:Shared} {T:String} {x:V} {v:Value} (I:Inv X pins σ H s) (r:RelV x v) (ty:VG X.K T x H) :
  s.TypeIs v T∧∀a,v=.ref a→∃ob,s.heap.get? a=some ob∧ob.dict=none:=by
 cases x with
 | str z =>
  obtain ⟨t,rfl⟩:=r
  cases (show T="str" from ty)
  exact ⟨typeIs_str s z t,fun _ e=>nomatch e⟩
 | int i =>
  obtain ⟨t,rfl⟩:=r
  cases (show T="int" from ty)
  exact ⟨typeIs_int s i t,fun _ e=>nomatch e⟩
 | ref p =>
  cases r
  rcases ty with ⟨rfl,xs,hq⟩ | ⟨rfl,o,hk,hc,hd⟩ | ⟨rfl,hk⟩ | ⟨rfl,S,n,hk⟩
  ·obtain ⟨its,_,pl,_⟩:=I.list hq
   refine ⟨pl.isList.typeIs,fun a e=>?_⟩
   cases e
   obtain ⟨o,n,e,c,hd,_⟩:=pl
   exact ⟨o,e,hd⟩
  ·refine ⟨⟨o,I.mJ p o hk,hc⟩,fun a e=>?_⟩
   cases e
   exact ⟨o,I.mJ _ o hk,hd⟩
  ·have z:∃o,s.heap.get? p=some o∧o.ExactDict:=by
    rcases hk with ⟨kvs,hk⟩ | ⟨kvs,hk⟩
    ·obtain ⟨_,_,_,_,o,_,_,e,ex,_⟩:=I.hok p _ hk
     exact ⟨o,e,ex⟩
    ·obtain ⟨_,_,_,_,o,_,_,e,ex,_⟩:=I.hok p _ hk
     exact ⟨o,e,ex⟩
   obtain ⟨o,e,ex⟩:=z
   refine ⟨⟨o,e,ex.1⟩,fun a e2=>?_⟩
   cases e2
   exact ⟨o,e,ex.2.1⟩
  ·obtain ⟨o,_,_,_,e,ex,_⟩:=I.hok p _ hk
   refine ⟨⟨o,e,ex.1⟩,fun a e2=>?_⟩
   cases e2
   exact ⟨o,e,ex.2.1⟩
 | _=>exact False.elim ty
def VU (K:PySem.W.Frag) (T:String) (r:V→List V→Hp→VK→Prop) (to:TE):TE:=fun σ H Q=>to σ H fun x H1=>VG K T x H1∧r x [] H1 Q
def tBM (K:PySem.W.Frag) (T:String) (r:V→List V→Hp→VK→Prop) (to:TE) (t:TA):TE:=fun σ H Q=>to σ H fun x H1=>VG K T x H1∧t σ H1 fun xs H2=>r x xs H2 Q
variable {o e:Expr} {es:List Expr} {to:TE} {t:TA} {name:Str} {apos cpos:Pos} {T id:String} {r:V→List V→Hp→VK→Prop}
theorem MO (pa:PlainAttrs T) (slot:Slot T name id) (hty:typeOf (.builtin id)=pure (.type "method_descriptor")) (hm:Vx X id r) (ho:PE X o to)
  (hbase:attributeBase o name X.env (eval o X.env)=eval o X.env:=by rfl) (hline:(apos.endLine == cpos.line)=true:=by rfl):PE X (.Call (.Attribute o name apos) [] [] cpos) (VU X.K T r to):=by
 intro pins s σ H Q I h
 refine wpAny_Call_method0_late hbase hline (fz (ho pins s σ H _ I h) fun v s1 ⟨x,H1,I1,r1,ty,q1⟩=>?_)
 obtain ⟨h1,h2⟩:=EF I1 r1 ty
 exact ⟨T,id,pa,slot,hty,h1,h2,Calls.callWith_builtin rfl (PySem.evalArgs_none (hm pins s1 σ H1 x [] v [] Q I1 r1 .nil q1))⟩
theorem PC (pa:PlainAttrs T) (slot:Slot T name id) (hty:typeOf (.builtin id)=pure (.type "method_descriptor")) (hm:Vx X id r) (ho:PE X o to) (ha:PA X (e::es) t)
  (hbase:attributeBase o name X.env (eval o X.env)=eval o X.env:=by rfl)
  (hfew:((backTo cpos (starEach (e::es) X.env)).all (fun x=>!x.1)&&(backToKw cpos (keywordEach [] X.env)).all (fun x=>x.1.isSome)
  &&decide ((e::es).length+([]:List Keyword).length+(if ([]:List Keyword).isEmpty then 0 else 1)<30))=true:=by rfl)
  (hline:(apos.endLine == cpos.line)=true:=by rfl) (hs:starEach (e::es) X.env=(false,eval e X.env)::starEach es X.env:=by rfl) (hplain:(backTo cpos (starEach es X.env)).any (·.1)=false:=by rfl) :
  PE X (.Call (.Attribute o name apos) (e::es) [] cpos) (tBM X.K T r to t):=by
 intro pins s σ H Q I h
 refine wpAny_Call_method_late hbase hfew hline rfl (fz (ho pins s σ H _ I h) fun v s1 ⟨x,H1,I1,r1,ty,q1⟩=>?_)
 obtain ⟨h1,h2⟩:=EF I1 r1 ty
 refine ⟨T,id,pa,slot,hty,h1,h2,?_⟩
 have hA:=ha cpos pins s1 σ H1 _ I1 q1
 rw [hs] at hA ⊢
 refine Calls.callWith_builtin (by show (false||(backTo cpos (starEach es X.env)).any (·.1))=false;rw [hplain]<;>rfl) (Calls.evalArgs_plain ?_)
 exact fz hA fun us s2 ⟨vs,H2,I2,r2,q2⟩=>hm pins s2 σ H2 x vs v us Q I2 r1 r2 q2
end
end L2
namespace L2
open PySem PySem.Spec PyProof.Rows
def MtM (X:Cx) (id:String) (r:V→List V→Hp→VK→Prop):Prop :=
 ∀(pins:List (Addr×Obj)) (s:Shared) (σ:St) (H:Hp) (x:V) (xs:List V) (v:Value) (us:List Value) (Q:VK),Inv X pins σ H s→RelV x v→Vals xs us→r x xs H Q →
  wpAny (model X.prog X.w) X.A (call (.builtin id) (v::us)) (EP X pins σ Q) X.xe s
theorem Vals.one:∀{x:V} {us:List Value},Vals [x] us→∃u,us=[u]∧RelV x u
 | _,_,.cons r .nil=>⟨_,rfl,r⟩
theorem Vals.zero:∀{us:List Value},Vals [] us→us=[]
 | _,.nil=>rfl
theorem Vals.reverse {xs:List V} {us:List Value} (h:Vals xs us):Vals xs.reverse us.reverse:=by
 induction h with
 | nil=>exact .nil
 | cons r t ih=>rw [List.reverse_cons,List.reverse_cons];exact Vals.append ih (.cons r .nil)
section
variable {X:Cx} {pins:List (Addr×Obj)} {σ:St} {H:Hp} {s:Shared} {l b:Addr} {xs ys zs:List V}
theorem Inv.Qc {its its':List Value} {n:Nat} {f:Array Value→Array Value} {t':Nat} (I:Inv X pins σ H s) (hH:H l=some (.lst xs))
  (e:s.heap.get? l=some { cls:=.type "list",data:=.seq its.toArray n }) (hf:f its.toArray=its'.toArray) (hv:Vals ys its') (hz:ys.length≤sizeLine) :
  Inv X pins σ (upd H l (.lst ys)) { s with heap:=s.heap.update l (Obj.mapSeq f),toks:=t' }:=by
 have q:=PySem.IsL.update e f
 rw [hf] at q
 refine I.write (x:=l) (e:=l) (by rw [hH];exact trivial) (.inl rfl) (fun b' u hb hu=>(Heap.get?_update_other s.heap (Obj.mapSeq f) (Ne.symm hb)).trans hu) ⟨_,q⟩ ?_
 exact ⟨hz,its',_,hv,q⟩
theorem Inv.a0L {its:List Value} {t':Nat} (I:Inv X pins σ H s) (hv:Vals ys its) (hz:ys.length≤sizeLine) :
  Inv X pins σ (upd H s.heap.objs.size (.lst ys)) { s with heap:=s.heap.push { cls:=.type "list",data:=.seq its.toArray },toks:=t' } :=
 I.laid (fun _ _ q=>Heap.get?_push_of_some _ q) (Nat.le_refl _) ⟨hz,its,0,hv,Heap.get?_push_size _ rfl⟩
theorem Inv.fresh (I:Inv X pins σ H s):H s.heap.objs.size=none:=I.hok.fresh (Nat.le_refl _)
theorem Inv.Kh (I:Inv X pins σ H s) (hH:H l=some (.lst xs)):xs.length≤sizeLine∧∃(its:List Value) (n:Nat),Vals xs its∧xs.length=its.length∧s.heap.get? l=some { cls:=.type "list",data:=.seq its.toArray n }:=by
 obtain ⟨z,its,n,r,e⟩:=I.hok l _ hH
 exact ⟨z,its,n,r,r.length,e⟩
end
section
variable {X:Cx}
def J1:V→List V→Hp→VK→Prop:=fun x vs H Q=>∃l xs y,x=.ref l∧vs=[y]∧H l=some (.lst xs)∧xs.length<sizeLine∧Q .dM (upd H l (.lst (xs++[y])))
theorem iW:MtM X "list.append" J1:=by
 intro pins s σ H x vs v us Q I rx rv h
 obtain ⟨l,xs,y,rfl,rfl,hH,hz,q⟩:=h
 cases rx
 obtain ⟨u,rfl,ru⟩:=rv.one
 obtain ⟨z,its,n,r,hl,e⟩:=I.Kh hH
 refine call_meets F.slot_list_append ⟨_,e,rfl⟩ F.entry_list_append (F.args_list_append_2 _ _) (PySem.list_append l its.toArray n u (by rw [List.size_toArray];omega)) ⟨e,?_⟩
 refine ⟨.dM,_,I.Qc (its':=its++[u]) hH e (by simp) (r.append (.cons ru .nil)) ?_,rfl,q⟩
 rw [List.length_append,List.length_singleton]
 omega
def Fg:V→List V→Hp→VK→Prop:=fun x vs H Q=>∃l xs,x=.ref l∧vs=[]∧H l=some (.lst xs)∧Q .dM (upd H l (.lst xs.reverse))
theorem Bm:MtM X "list.reverse" Fg:=by
 intro pins s σ H x vs v us Q I rx rv h
 obtain ⟨l,xs,rfl,rfl,hH,q⟩:=h
 cases rx
 have hus:=rv.zero
 subst hus
 obtain ⟨z,its,n,r,hl,e⟩:=I.Kh hH
 refine call_meets F.slot_list_reverse ⟨_,e,rfl⟩ F.entry_list_reverse (F.args_list_reverse_1 _) (AutoSeq1.list_reverse_list_0 l its.toArray n (by rw [List.size_toArray];omega)) ⟨e,?_⟩
 refine ⟨.dM,_,I.Qc (its':=its.reverse) hH e (by simp) r.reverse ?_,rfl,q⟩
 rw [List.length_reverse]
 omega
def Xi:R2:=fun x y H Q=>∃l b xs zs,x=.ref l∧y=.ref b∧H l=some (.lst xs)∧H b=some (.lst zs)∧xs.length+zs.length≤sizeLine∧∀p,H p=none→Q (.ref p) (upd H p (.lst (xs++zs)))
theorem tW:nV X (binaryOp .Add) Xi:=by
 intro pins s σ H x y v u Q I rx ry h
 obtain ⟨l,b,xs,zs,rfl,rfl,hH,hB,hz,q⟩:=h
 cases rx
 cases ry
 obtain ⟨z,its,n,r,hl,e⟩:=I.Kh hH
 obtain ⟨z2,its2,n2,r2,hl2,e2⟩:=I.Kh hB
 refine PySem.P.add_list e e2 ?_ (by rw [List.size_toArray,List.size_toArray];omega)
 have ea:its.toArray++its2.toArray=(its++its2).toArray:=by simp
 rw [ea]
 exact ⟨.ref _,_,I.a0L (t':=s.toks) (r.append r2) (by rw [List.length_append];omega),rfl,q _ I.fresh⟩
end
section
variable {prog:Program} {w:World} {A:Around} {E:Value→Shared→Prop} {s:Shared}
end
section
variable {X:Cx}
end
end L2
namespace Att
open PySem PySem.W PySem.Calls PyProof.Rows
theorem rN {P:Params} {h:Heap}:∀(ns:List Int) (vs:List Value),WellAll P h vs (ns.map WData.int)→IntsAre vs ns:=by
 intro ns
 induction ns with
 | nil =>
  intro vs w
  rw [List.map_nil] at w
  cases w
  exact .nil
 | cons n ns ih =>
  intro vs w
  rw [List.map_cons] at w
  cases w with
  | cons a b =>
   cases a
   exact .cons _ _ (ih _ b)
theorem C0 {l:OpenLaw} {n:Nat} (hn:l.most=some n) {P:Params} {h:Heap} {args:List WData} {vals:List Value}
  (hpre:l.row.toRowW.claim.pre args=true) (hwl:WellAll P h vals args) :
  ∃a vs ns,vals=[Value.ref a]∧args=[WData.list (ns.map WData.int)]∧h.get? a=some { cls:=.type "list",data:=.seq vs.toArray }∧IntsAre vs ns∧ns.length≤n:=by
 have hsh:WShape.hasAll [] args [.list .int]=true:=(pre_splitW hpre).1
 have hc:l.pre.holds [] { args:=args }=true:=(pre_splitW hpre).2
 obtain ⟨d,r,rfl,h1,h2⟩:=hasAllW_cons hsh
 obtain rfl:=hasAllW_nil h2
 obtain ⟨xs,rfl,h3⟩:=hasW_list h1
 obtain ⟨ns,rfl⟩:=items_int h3
 have hlen:ns.length≤n:=by
  unfold OpenLaw.pre at hc
  have h4:(WTm.not (.lt (.lit (.int (n:Int))) (.len (.arg 0)))).holds [] { args:=[.list (ns.map .int)] }=true:=by
   have h4:=(holds_andW hc).1
   rw [hn] at h4
   exact h4
  have h5:=condW_of h4 (w_not (w_lt w_lit (w_len_list (w_arg rfl))))
  rw [List.length_map] at h5
  refine Nat.le_of_not_lt fun q=>?_
  have q':(n:Int)<((ns.length:Nat):Int):=by omega
  first
   | (rw [decide_eq_true q'] at h5;exact absurd h5 (by decide))
   | (simp at h5;omega)
 cases hwl with
 | cons w1 w2 =>
  cases w2
  cases w1 with
  | list ho hall=>exact ⟨_,_,ns,rfl,rfl,ho,rN ns _ hall,hlen⟩
theorem C2 (l:OpenLaw) (args:List WData):l.row.toRowW.claim.post args (.bool true) args=true :=
 postW_of (r:=l.row.toRowW) (X:=(true == true))
  (show WShape.has [] (.bool true) .bool=true by first | rfl | decide | simp [WShape.has,WShape.arms,WShape.armsAll])
  (show (WTm.eq .res (.lit (.bool true))).value [] { args:=args,res:=some (.bool true),after:=args }=some (.bool (true == true)) from w_eq_bool (w_res rfl) w_lit) rfl
theorem yC {l:OpenLaw} {n:Nat} {q:Program} {loose:List Str} {XP:(Str→Option Value)→Heap→Prop} {YP:World→Heap→Prop} {d:DefRec}
  (hn:l.most=some n) (hdf:d.params.defaults=[])
  (call:∀(w:World) (s₀ s₁:Shared) (mg mb:Str→Option Value) (fa:Addr) (o:Obj) (pm cd doc:Value) (a:Addr) (vs:List Value) (ns:List Int),
   Ground q loose [] XP w s₀ mg mb s₁.heap→YP w s₁.heap →
   s₁.heap.get? fa=some o→o.data=.func (docDef d.name d.params d.body d.scope pm cd doc)→s₁.heap.CodeRec cd d.name→mg d.name=some (.ref fa) →
   s₁.heap.get? a=some { cls:=.type "list",data:=.seq vs.toArray }→IntsAre vs ns→ns.length≤n→s₁.gens=#[] →
   codeAny (model l.prog w) callerA (.call (.ref fa) ⟨[.ref a],[]⟩) (fun r s'=>r=.ok (.ret (.bool true))∧OldK s₁.heap s'.heap∧s'.os=s₁.os∧AllBare s'.gens) s₁) :
  WalkO q loose XP YP l.row.toRowW d [] (fun f vs=>PySem.call f vs):=by
 intro w s₀ s₁ mg mb G Y fa o pm cd doc dV kV ho hd hcd hD hmg hg args vals as hpre hlay hrd hwl hlo
 obtain rfl:dV=.none:=Dflts.none hD hdf
 obtain rfl:kV=.none:=Dflts.noKw hD
 obtain ⟨a,vs,ns,rfl,rfl,hobj,hints,hlen⟩:=C0 hn hpre hwl
 refine enter_call (codeAny_mono (call w s₀ s₁ mg mb fa o pm cd doc a vs ns G Y ho (fd_plain hd) hcd hmg hobj hints hlen hg) fun r s' hq=>?_)
 obtain ⟨rfl,h2,h3,h4⟩:=hq
 exact ⟨.inl ⟨.bool true,.bool true,[],rfl,fun _=>rfl,.bool true,C2 l _,fun _=>⟨List.Pairwise.nil,fun _ hm=>(nomatch hm)⟩⟩,h2,h3,h4⟩
section
variable {prog:Program} {w:World} {A:Around} {E:Value→Shared→Prop} {s:Shared} {K:Frag}
end
end Att
namespace L2
open PySem PySem.Spec PyProof.Rows
theorem u5:∀{vs:List Value} {ns:List Int},IntsAre vs ns→Vals (ns.map V.int) vs
 | _,_,.nil=>.nil
 | _,_,.cons n t h=>.cons ⟨t,rfl⟩ (u5 h)
def Ox (H:Hp):Prop:=∀b,H b=none∨∃o xs,H b=some (.Bx o (.lst xs))
theorem HS {P:Program} {w:World} {K:PySem.W.Frag} {mg mb:Str→Option Value} {CX:DV} {k:Nat} {fa a:Addr} {fd:FuncData} {x:Str} {sp:Sp} {s₁:Shared} {vs:List Value} {ns:List Int}
  (KX:K.In s₁.heap) (hns:s₁.heap.Ns mainGlobals mg) (hb:s₁.heap.Ns builtinsNs mb) (hbb:∀x:Str,x≠"__name__"→mb x=bootBuiltins x) (hlim:s₁.heap.NoLimit) (hg:s₁.gens=#[])
  (ha:s₁.heap.get? a=some { cls:=.type "list",data:=.seq vs.toArray }) (hi:IntsAre vs ns) (hl:ns.length≤sizeLine) (hr:dD k callerA)
  (F:∀base:Heap,K.In base→base.Ns mainGlobals mg→bH P w K mg base CX k fa fd [x] sp) (hbind:∀(s:Shared) (u:Value),BindsTo s fd ⟨[u],[]⟩ [(x,u)])
  (LF:∀H:Hp,Ox H→bS K H a (ns.map V.int)→sp [.ref a] H (fun v _=>v=.bl true) fun _ _ _=>False)
  (hCX:∀H e s',CX [] H s₁ (fun _ _ _=>False) e s'→False) :
  codeAny (model P w) callerA (.call (.ref fa) ⟨[.ref a],[]⟩) (fun r s'=>r=.ok (.ret (.bool true))∧OldK s₁.heap s'.heap∧s'.os=s₁.os∧AllBare s'.gens) s₁:=by
 have rv:=u5 hi
 have a0N:=hi.length
 have core:∀H:Hp,Ox H→bS K H a (ns.map V.int)→nW P w H s₁.heap→(∀b,H b≠none→b=a)→(H a≠none→K.lookup a=none) →
   codeAny (model P w) callerA (.call (.ref fa) ⟨[.ref a],[]⟩) (fun r s'=>r=.ok (.ret (.bool true))∧OldK s₁.heap s'.heap∧s'.os=s₁.os∧AllBare s'.gens) s₁:=by
  intro H hO hS hok hA hK
  have CT:∀{b:Addr} {o:Obj},s₁.heap.get? b=some o→H b=none→(wV s₁.heap H).get? b=some o:=fun e n=>IC e n
  have PX:∀{b:Addr} {o:Obj} {es:Array DictEntry} {ep:Nat},s₁.heap.get? b=some o→o.data=.dict es ep→H b=none:=fun {b o es ep} e d=>by
   cases q:H b with
   | none=>rfl
   | some u =>
    have e':b=a:=hA b (by rw [q];simp)
    subst e'
    rw [ha] at e;cases e
    have d':Data.seq vs.toArray _=Data.dict es ep:=d
    cases d'
  have TH:∀{b:Addr} {m:Str→Option Value},s₁.heap.Ns b m→(wV s₁.heap H).Ns b m:=fun {b m} ⟨o,es,ep,e,d,r⟩=>⟨o,es,ep,CT e (PX e d),d,r⟩
  have hKb:K.In (wV s₁.heap H):=fun b o e=>CT (KX b o e) (by
   cases q:H b with
   | none=>rfl
   | some u =>
    have e':b=a:=hA b (by rw [q];simp)
    subst e'
    rw [hK (by rw [q];simp)] at e;cases e)
  have hM:Mod K mg (wV s₁.heap H):=⟨hKb,TH hns,⟨mb,TH hb,hbb⟩,let ⟨mc,h1,h2⟩:=hlim;⟨mc,TH h1,h2⟩⟩
  have e0:BH P w K mg (wV s₁.heap H) callerA [] s₁ H:=⟨rfl,hM,fun b o e=>Ke e,Nat.le_of_eq (Dz _ _),trivial,fun b hb=>absurd (show b∈([]:List Addr) from hb) (by simp),hok,.of_eq hg⟩
  refine codeAny_mono ((F _ hKb (TH hns)).run callerA [] s₁ H ⟨[.ref a],[]⟩ [.ref a] [.ref a] _ _ hr e0 (hbind s₁ (.ref a)) (.cons rfl .nil) (LF H hO hS)) fun r s' h=>?_
  cases r with
  | error e=>exact (hCX H e s' h).elim
  | ok fl =>
   cases fl with
   | next=>exact False.elim h
   | brk=>exact False.elim h
   | cont=>exact False.elim h
   | ret u =>
    obtain ⟨v,H',os,bare,un,a3D,r',q⟩:=h
    have q':v=.bl true:=q
    subst q'
    obtain rfl:u=Value.bool true:=r'
    refine ⟨rfl,OldK.of_keep fun b o e=>?_,os,bare⟩
    cases q:H b with
    | none=>exact un.keep b o e q (by intro z;exact absurd (show b∈([]:List Addr) from z) (by simp)) (by simp)
    | some u =>
     rcases hO b with z | ⟨ob,xs,z⟩
     ·rw [q] at z;cases z
     ·have z2:=un.uQ b ob _ z
      obtain ⟨e1,_⟩:=hok b _ z
      obtain ⟨e2,_⟩:=a3D b _ z2
      rw [e] at e1;cases e1
      exact e2
 cases hk:K.lookup a with
 | some o =>
  have e:=KX a o hk
  rw [ha] at e
  cases e
  refine core (fun _=>none) (fun _=>.inl rfl) (.inr ⟨_,vs.toArray,_,hk,rfl,rfl,rfl,by rw [List.size_toArray,a0N];exact hl,by simpa using rv⟩) (fun b u z=>by have z':(none:Option HO)=some u:=z;cases z') (fun b z=>absurd rfl z) fun z=>absurd rfl z
 | none =>
  refine core (fun b=>if b=a then some (.Bx { cls:=.type "list",data:=.seq vs.toArray } (.lst (ns.map V.int))) else none) (fun b=>?_) (.inl (.inr ⟨{ cls:=.type "list",data:=.seq vs.toArray },if_pos rfl⟩)) (fun b u z=>?_) (fun b z=>?_) fun _=>hk
  ·by_cases hb:b=a
   ·exact .inr ⟨_,_,if_pos hb⟩
   ·exact .inl (if_neg hb)
  ·by_cases hb:b=a
   ·have z':=(if_pos hb).symm.trans z
    cases z'
    subst hb
    exact ⟨ha,by rw [List.length_map];exact hl,vs,_,rv,ha⟩
   ·have z':=(if_neg hb).symm.trans z
    cases z'
  ·by_cases hb:b=a
   ·exact hb
   ·exact absurd (if_neg hb) z
end L2
namespace L2
open PySem PySem.Spec PyProof.Rows
theorem JO {l:PySem.W.OpenLaw} {n k:Nat} {q:Program} {loose:List Str} {XP:(Str→Option Value)→Heap→Prop} {YP:World→Heap→Prop} {d:DefRec} {K:Params→PySem.W.Frag} {CX:World→DV} {sp:World→Sp} {x:Str}
  (hn:l.most=some n) (hn2:n≤sizeLine) (hdf:d.params.defaults=[]) (hr:dD k callerA)
  (hY:∀(w:World) (h:Heap),YP w h→(K w.params).In h)
  (F:∀(w:World) (mg:Str→Option Value) (fa:Addr) (h:Heap),(K w.params).In h→h.Ns mainGlobals mg→mg d.name=some (.ref fa) →
   ∃fd:FuncData,(∀(s:Shared) (u:Value),BindsTo s fd ⟨[u],[]⟩ [(x,u)]) ∧
    ∀base:Heap,(K w.params).In base→base.Ns mainGlobals mg→bH l.prog w (K w.params) mg base (CX w) k fa fd [x] (sp w))
  (LF:∀(w:World) (H:Hp) (a:Addr) (ns:List Int),ns.length≤n→Ox H→bS (K w.params) H a (ns.map V.int)→sp w [.ref a] H (fun v _=>v=.bl true) fun _ _ _=>False)
  (hCX:∀(w:World) (H:Hp) (s:Shared) (e:Value) (s':Shared),CX w [] H s (fun _ _ _=>False) e s'→False) :
  PySem.W.WalkO q loose XP YP l.row.toRowW d [] (fun f vs=>PySem.call f vs):=by
 refine Att.yC hn hdf fun w s₀ s₁ mg mb fa o pm cd doc a vs ns G Y ho hd hcd hmg hobj hints hlen hg=>?_
 have KX:=hY w _ Y
 obtain ⟨fd,hb,hF⟩:=F w mg fa _ KX G.T.g hmg
 exact HS KX G.T.g G.T.b G.T.builtins G.T.nolimit hg hobj hints (Nat.le_trans hlen hn2) hr hF hb (fun H hO hS=>LF w H a ns hlen hO hS) fun H e s'=>hCX w H s₁ e s'
end L2
namespace L2
open PySem PySem.Spec PyProof.Rows
def inClass (s:Stmt) (j:Nat):Stmt:=match s with
 | .ClassDef _ _ _ body _ _ _ _ _ _ _=>body.getD j (.Pass ⟨0,0,0,0⟩)
 | _=>.Pass ⟨0,0,0,0⟩
def aO (s:Stmt):Arguments:=match s with
 | .FunctionDef _ a _ _ _ _ _ _ _ _=>a
 | _=>{ posonlyargs:=[],args:=[],vararg:=none,kwonlyargs:=[],kw_defaults:=[],kwarg:=none,defaults:=[] }
def av (s:Stmt):List Stmt:=match s with
 | .FunctionDef _ _ b _ _ _ _ _ _ _=>b
 | _=>[]
def ak (s:Stmt):Scope:=match s with
 | .FunctionDef _ _ _ _ _ _ sc _ _ _=>sc
 | _=>{ kind:=.function,names:=[],isGenerator:=false,isCoroutine:=false }
abbrev dg:DV:=fun _ _ _ _ _ _=>False
abbrev E0:XK:=fun _ _ _=>False
theorem aB {X:Cx}:Passes dg X E0:=fun _ _ _ _ _ _ _ h=>h.elim
structure dX (K:PySem.W.Frag) (x qual:Str) (st:Stmt) (f:Addr) (fd:FuncData):Prop where
 ex:∃(oc:Value) (od:Option Addr) (kV doc pm:Value) (an:Option Addr) (cdv ct:Value) (osl:Array (Option Value)),
  fd=PySem.W.fnOf x qual (aO st) (av st) (ak st) .none kV doc pm an cdv ct∧K.lookup f=some ⟨oc,od,.func fd,osl⟩∧PySem.W.codeIn K cdv qual=true
 kp:PySem.W.keepIn K (.ref f)=true
section
variable {P:Program} {w:World} {K:PySem.W.Frag} {mg:Str→Option Value} {base:Heap}
theorem dX.ok {x qual:Str} {st:Stmt} {f:Addr} {fd:FuncData} {N ps:List Str} {k:Nat} {sp:Sp} (F:dX K x qual st f fd) (S:aQ N ps (ak st)) (len:∀vs H Q E,sp vs H Q E→vs.length=ps.length)
  (hbody:∀(cdv:Value) (A:Around) (outer:List Env) (s:Shared) (H:Hp) (vs:List V) (Q:VK) (E:XK),dD k (A.deeper (envOfC qual (ak st) s.heap.objs.size f cdv))→sp vs H Q E →
   ∃t,DQ (gP dg P w K mg base N qual (ak st) f cdv A outer s H E).qc (av st) t∧t { nx:=fun _ H'=>Q .dM H',rt:=Q } (start N vs) H):bH P w K mg base dg (k+1) f fd ps sp:=by
 obtain ⟨oc,od,kV,doc,pm,an,cdv,ct,osl,rfl,lk,hcd⟩:=F.ex
 refine QE lk hcd S len fun A outer s H vs Q E hr LF=>?_
 obtain ⟨t,h,q⟩:=hbody cdv A outer s H vs Q E hr LF
 exact ⟨t,h.qc,q⟩
theorem dX.binds {x qual:Str} {st:Stmt} {f:Addr} {fd:FuncData} {ps:List Str} (F:dX K x qual st f fd)
  (h:∀(kV doc pm:Value) (an:Option Addr) (cdv ct:Value) (us:List Value),us.length=ps.length→bindArgs (PySem.W.fnOf x qual (aO st) (av st) (ak st) .none kV doc pm an cdv ct) ⟨us,[]⟩=pure (ps.zip us)):Binds K fd ps []:=by
 obtain ⟨oc,od,kV,doc,pm,an,cdv,ct,osl,rfl,lk,hcd⟩:=F.ex
 exact .all (h kV doc pm an cdv ct)
theorem bq {x qual:Str} {st:Stmt} {f:Addr} {oc:Value} {od an:Option Addr} {osl:Array (Option Value)} {kV doc pm cdv ct:Value} (l:K.lookup f=some ⟨oc,od,.func (PySem.W.fnOf x qual (aO st) (av st) (ak st) .none kV doc pm an cdv ct),osl⟩)
  (c:PySem.W.codeIn K cdv qual=true) (k:PySem.W.keepIn K (.ref f)=true):dX K x qual st f (PySem.W.fnOf x qual (aO st) (av st) (ak st) .none kV doc pm an cdv ct):=⟨⟨oc,od,kV,doc,pm,an,cdv,ct,osl,rfl,l,c⟩,k⟩
end
theorem bh {A:Around} {k:Nat} (hr:dD k A):A.units+1<cLine:=Nat.lt_of_le_of_lt (Nat.add_le_add_left (by decide:1≤64) _) hr.units
section
variable {X:Cx}
theorem pv (i:Nat) {x:Str} {pos:Pos} (hN:X.N[i]?=some x:=by rfl) (hv:Vu X.env.scope x:=by first | exact Or.inl rfl | exact Or.inr (Or.inl rfl) | exact Or.inr (Or.inr rfl)) (hd:(x == ("__debug__":Str))=false:=by decide)
  (hcd:(x == ("__classdict__":Str))=false:=by decide):PE X (.Name x pos) (Mu i):=MN hN hv hd hcd
end
theorem fB {A B:Prop} (h:B):if false=true then A else B:=by
 rw [if_neg Bool.false_ne_true]
 exact h
theorem qD {A B:Prop} (h:A):if true=true then A else B:=by
 rw [if_pos rfl]
 exact h
theorem rM {c A B:Prop} [Decidable c] (h1:c→A) (h2:¬c→B):if c then A else B:=by
 by_cases h:c
 ·rw [if_pos h]
  exact h1 h
 ·rw [if_neg h]
  exact h2 h
theorem jz {c A B:Prop} [Decidable c] (hc:c) (h:B):if (!decide c)=true then A else B:=by
 rw [decide_eq_true hc]
 exact fB h
def aH (H H':Hp):Prop:=∀b o,H b=some o→H' b=some o
theorem aH.refl (H:Hp):aH H H:=fun _ _ h=>h
theorem aH.trans {H H1 H2:Hp} (a:aH H H1) (b:aH H1 H2):aH H H2:=fun c o h=>b c o (a c o h)
theorem aH.free {H H':Hp} (e:aH H H') {l:Addr} (h:H' l=Option.none):H l=Option.none:=by
 cases q:H l with
 | none=>rfl
 | some o =>
  rw [e l o q] at h
  cases h
theorem aH.seq {K:PySem.W.Frag} {H H':Hp} {a:Addr} {xs:List V} (e:aH H H') (h:bS K H a xs):bS K H' a xs:=by
 rcases h with (h | ⟨o,h⟩) | h
 ·exact .inl (.inl (e _ _ h))
 ·exact .inl (.inr ⟨o,e _ _ h⟩)
 ·exact .inr h
end L2
namespace L2
open PySem PySem.Spec PyProof.Rows
section
variable {κ:Type} [DecidableEq κ]
def mP (kvs:List (κ×V)) (k:κ):Option V:=(kvs.find? fun kv=>decide (kv.1=k)).map (·.2)
def putK (kvs:List (κ×V)) (k:κ) (v:V):List (κ×V) :=
 if (kvs.any fun kv=>decide (kv.1=k))=true then kvs.map (fun kv=>if kv.1=k then (kv.1,v) else kv) else kvs++[(k,v)]
theorem nX {p:κ×V} {r:List (κ×V)} {k:κ} (e:p.1=k):mP (p::r) k=some p.2:=by simp [mP,List.find?_cons,e]
theorem nY {p:κ×V} {r:List (κ×V)} {k:κ} (e:¬p.1=k):mP (p::r) k=mP r k:=by simp [mP,List.find?_cons,e]
theorem xu (k:κ):∀kvs:List (κ×V),(kvs.any fun kv=>decide (kv.1=k))=(mP kvs k).isSome
 | []=>rfl
 | p::r=>by
  rw [List.any_cons]
  by_cases e:p.1=k
  ·simp only [nX e,decide_eq_true e,Bool.true_or,Option.isSome_some]
  ·rw [nY e,decide_eq_false e,Bool.false_or];exact xu k r
theorem qZ (kvs:List (κ×V)) (k:κ) (v:V):(putK kvs k v).length≤kvs.length+1:=by
 unfold putK
 split
 ·rw [List.length_map];omega
 ·rw [List.length_append,List.length_cons,List.length_nil];omega
theorem kI.Dt {o:Option V} {u:Option Value} (r:kI o u):o.isSome=u.isSome:=by
 cases o with
 | none=>cases u with
  | none=>rfl
  | some _=>exact (show False from r).elim
 | some _=>cases u with
  | none=>exact (show False from r).elim
  | some _=>rfl
theorem kI.getD {o:Option V} {u:Option Value} {d:V} {d':Value} (r:kI o u) (rd:RelV d d'):RelV (o.getD d) (u.getD d'):=by
 cases o with
 | none=>cases u with
  | none=>exact rd
  | some _=>exact (show False from r).elim
 | some _=>cases u with
  | none=>exact (show False from r).elim
  | some _=>exact r
theorem KV.val {kvs:List (κ×V)} {vs:List (κ×Value)} (r:KV kvs vs) (k:κ):kI (mP kvs k) (valueAt vs k):=by
 unfold KV at r
 induction r with
 | nil=>exact True.intro
 | @cons p q ps qs h t ih =>
  obtain ⟨h1,h2⟩:=h
  by_cases e:p.1=k
  ·have e':q.1=k:=h1.symm.trans e
   have b:valueAt (q::qs) k=some q.2:=by simp [valueAt,List.find?_cons,e']
   rw [nX e,b];exact h2
  ·have e':¬q.1=k:=fun z=>e (h1.trans z)
   have b:valueAt (q::qs) k=valueAt qs k:=by simp [valueAt,List.find?_cons,e']
   rw [nY e,b];exact ih
theorem KV.any {kvs:List (κ×V)} {vs:List (κ×Value)} (r:KV kvs vs) (k:κ):(kvs.any fun kv=>decide (kv.1=k))=vs.any fun kv=>decide (kv.1=k):=by
 unfold KV at r
 induction r with
 | nil=>rfl
 | cons h t ih=>rw [List.any_cons,List.any_cons,ih,h.1]
theorem KV.repl {kvs:List (κ×V)} {vs:List (κ×Value)} (r:KV kvs vs) (k:κ) {y:V} {u:Value} (ry:RelV y u) :
  KV (kvs.map fun kv=>if kv.1=k then (kv.1,y) else kv) (vs.map fun kv=>if kv.1=k then (kv.1,u) else kv):=by
 unfold KV at r ⊢
 induction r with
 | nil=>exact .nil
 | @cons p q ps qs h t ih =>
  rw [List.map_cons,List.map_cons]
  refine .cons ?_ ih
  obtain ⟨h1,h2⟩:=h
  by_cases e:p.1=k
  ·rw [if_pos e,if_pos (h1.symm.trans e)];exact ⟨h1,ry⟩
  ·rw [if_neg e,if_neg (fun z=>e (h1.trans z))];exact ⟨h1,h2⟩
theorem KV.put {kvs:List (κ×V)} {vs:List (κ×Value)} (r:KV kvs vs) (k:κ) {y:V} {u:Value} (ry:RelV y u):KV (putK kvs k y) (stored vs k u):=by
 unfold putK stored
 rw [r.any k]
 by_cases e:(vs.any fun kv=>decide (kv.1=k))=true
 ·rw [if_pos e,if_pos e];exact r.repl k ry
 ·rw [if_neg e,if_neg e];exact Paired.snoc r ⟨rfl,ry⟩
theorem KV.keys {kvs:List (κ×V)} {vs:List (κ×Value)} (r:KV kvs vs):kvs.map (·.1)=vs.map (·.1):=by
 unfold KV at r
 induction r with
 | nil=>rfl
 | cons h t ih=>rw [List.map_cons,List.map_cons,ih,h.1]
theorem KV.length {kvs:List (κ×V)} {vs:List (κ×Value)} (r:KV kvs vs):kvs.length=vs.length:=Paired.length r
end
theorem Cr {P:Program} {w:World} {k:Key} {u:Value} (r:RelV (kV k) u):(fj P w).is k u=true:=by
 cases k with
 | inl i=>obtain ⟨t,e⟩:=(show ∃t,u=Value.int i t from r);subst e;exact xW P w i t
 | inr x=>obtain ⟨t,e⟩:=(show ∃t,u=Value.str x t from r);subst e;exact xV P w x t
theorem vv {P:Program} {w:World}:∀{ks:List Key} {us:List Value},Vals (ks.map kV) us→ItemsAre (fj P w) ks us
 | [],_,r=>by rw [List.map_nil] at r;cases r;exact .nil
 | k::ks,_,r=>by
  rw [List.map_cons] at r
  cases r with
  | cons h t=>exact .cons (Cr h) (vv t)
abbrev KT (H:Hp):List (List Key×V)→List (List Key×Addr×Value)→Prop:=Paired fun p q=>p.1=q.1∧H q.2.1=some (.tup (p.1.map kV))∧RelV p.2 q.2.2
theorem KT.val {H:Hp} {kvs:List (List Key×V)} {xs:List (List Key×Addr×Value)} (r:KT H kvs xs) (k:List Key):kI (mP kvs k) ((atKey xs k).map (·.2)):=by
 induction r with
 | nil=>exact True.intro
 | @cons p q ps qs h t ih =>
  obtain ⟨h1,_,h2⟩:=h
  by_cases e:p.1=k
  ·have e':q.1=k:=h1.symm.trans e
   have b:atKey (q::qs) k=some q.2:=by simp [atKey,List.find?_cons,e']
   rw [nX e,b];exact h2
  ·have e':¬q.1=k:=fun z=>e (h1.trans z)
   have b:atKey (q::qs) k=atKey qs k:=by simp [atKey,List.find?_cons,e']
   rw [nY e,b];exact ih
theorem KT.repl {H:Hp} {kvs:List (List Key×V)} {xs:List (List Key×Addr×Value)} (r:KT H kvs xs) (k:List Key) {y:V} {u:Value} (ry:RelV y u) :
  KT H (kvs.map fun kv=>if kv.1=k then (kv.1,y) else kv) (xs.map (putAt k u)):=by
 induction r with
 | nil=>exact .nil
 | @cons p q ps qs h t ih =>
  rw [List.map_cons,List.map_cons]
  refine .cons ?_ ih
  obtain ⟨h1,h2,h3⟩:=h
  unfold putAt
  by_cases e:p.1=k
  ·rw [if_pos e,if_pos (h1.symm.trans e)];exact ⟨h1,h2,ry⟩
  ·rw [if_neg e,if_neg (fun z=>e (h1.trans z))];exact ⟨h1,h2,h3⟩
theorem KT.put {H:Hp} {kvs:List (List Key×V)} {xs:List (List Key×Addr×Value)} (r:KT H kvs xs) (k:List Key) {b:Addr} {y:V} {u:Value} (hb:H b=some (.tup (k.map kV))) (ry:RelV y u) :
  KT H (putK kvs k y) (storedH xs k b u):=by
 have e:(kvs.any fun kv=>decide (kv.1=k))=(atKey xs k).isSome:=by
  rw [xu,(r.val k).Dt,Option.isSome_map]
 unfold putK storedH
 rw [e]
 by_cases q:(atKey xs k).isSome=true
 ·rw [if_pos q,if_pos q];exact r.repl k ry
 ·rw [if_neg q,if_neg q];exact Paired.snoc r ⟨rfl,hb,ry⟩
theorem KT.keeps {H H':Hp} {kvs:List (List Key×V)} {xs:List (List Key×Addr×Value)} (r:KT H kvs xs) (ht:∀b ys,H b=some (.tup ys)→H' b=some (.tup ys)):KT H' kvs xs :=
 Paired.cQ r fun _ _ z=>⟨z.1,ht _ _ z.2.1,z.2.2⟩
section
variable {P:Program} {w:World} {H:Hp} {h:Heap} {a:Addr}
theorem Lw {u:HO} (ok:nW P w H h) (e:Rd H a u):eO P w H h a u:=e.ok ok
theorem vA {kvs:List (Key×V)} (ok:nW P w H h) (e:Rd H a (.dK kvs)):kvs.length≤sizeLine∧(a == sysModules)=false∧∃vs,KV kvs vs∧h.DictOf (fj P w) a vs :=
 show eO P w H h a (.dK kvs) from Lw ok e
theorem Rf {kvs:List (Key×V)} (ok:nW P w H h) (e:H a=some (.dK kvs)):kvs.length≤sizeLine∧(a == sysModules)=false∧∃vs,KV kvs vs∧h.DictOf (fj P w) a vs:=vA ok (.inl e)
theorem wN {ks:List Key} (ok:nW P w H h) (e:H a=some (.tup (ks.map kV))):(tupleKind (fj P w)).is h ks a:=by
 obtain ⟨_,its,r,o,h1,h2,n,h3⟩:=(show eO P w H h a (.tup (ks.map kV)) from ok a _ e)
 exact ⟨o,its.toArray,n,h1,h2,h3,by simpa using vv r⟩
theorem ym {kvs:List (List Key×V)} (ok:nW P w H h) (e:Rd H a (.dT kvs)):kvs.length≤sizeLine∧(a == sysModules)=false ∧
  ∃xs,KT H kvs xs∧h.DictOfH (tupleKind (fj P w)) a xs:=by
 obtain ⟨z,y,xs,r,o,es,ep,h1,h2,h3,h4,h5⟩:=(show eO P w H h a (.dT kvs) from Lw ok e)
 refine ⟨z,y,xs,r,o,es,ep,h1,h2,h3,h4,fun x hx=>?_,h5⟩
 have all:∀{l:List (List Key×V)} {m:List (List Key×Addr×Value)},KT H l m→∀x∈m,(tupleKind (fj P w)).is h x.1 x.2.1:=by
  intro l m q
  induction q with
  | nil=>intro x hx;exact nomatch hx
  | @cons p q ps qs hq t ih =>
   intro x hx
   rcases List.mem_cons.mp hx with e | hx
   ·subst e
    exact wN ok (by rw [←hq.1];exact hq.2.1)
   ·exact ih x hx
 exact all r x hx
theorem Rb {kvs:List (List Key×V)} (ok:nW P w H h) (e:H a=some (.dT kvs)):kvs.length≤sizeLine∧(a == sysModules)=false ∧
  ∃xs,KT H kvs xs∧h.DictOfH (tupleKind (fj P w)) a xs:=ym ok (.inl e)
end
def uX (H:Hp) (a:Addr) (y:V) (r:Option V):Prop :=
 (∃kvs k,Rd H a (.dK kvs)∧y=kV k∧r=mP kvs k)∨∃kvs k b,Rd H a (.dT kvs)∧y=.ref b∧H b=some (.tup (k.map kV))∧r=mP kvs k
def DU (H:Hp) (a:Addr) (y v:V) (H':Hp):Prop :=
 (∃kvs k,H a=some (.dK kvs)∧y=kV k∧kvs.length<sizeLine∧H'=upd H a (.dK (putK kvs k v))) ∨
 ∃kvs k b,H a=some (.dT kvs)∧y=.ref b∧H b=some (.tup (k.map kV))∧kvs.length<sizeLine∧H'=upd H a (.dT (putK kvs k v))
theorem uX.k {H:Hp} {a:Addr} {kvs:List (Key×V)} {k:Key} (e:H a=some (.dK kvs)):uX H a (kV k) (mP kvs k):=.inl ⟨kvs,k,.inl e,rfl,rfl⟩
theorem DU.k {H:Hp} {a:Addr} {kvs:List (Key×V)} {k:Key} {v:V} (e:H a=some (.dK kvs)) (hl:kvs.length<sizeLine):DU H a (kV k) v (upd H a (.dK (putK kvs k v))):=.inl ⟨kvs,k,e,rfl,hl,rfl⟩
section
variable {X:Cx} {pins:List (Addr×Obj)} {σ:St} {H:Hp} {s:Shared} {a:Addr} {y v:V} {u r:Value} {o:Option V} {A:Around} {E:Value→Shared→Prop}
theorem Inv.big (I:Inv X pins σ H s):sysModules<s.heap.objs.size:=by
 have h:mainGlobals<s.heap.objs.size:=(I.mod.glob.keeps I.bk).lt
 exact Nat.lt_trans (by decide) h
theorem DF {Q:Value→Shared→Prop} (hu:A.units+1<cLine) (I:Inv X pins σ H s) (g:uX H a y (some v)) (ry:RelV y u) (h:∀w' s',Inv X pins σ H s'→RelV v w'→Q w' s') :
  wpAny (model X.prog X.w) A (getItem (.ref a) u) Q E s:=by
 rcases g with ⟨kvs,k,e,ey,l⟩ | ⟨kvs,k,b,e,ey,eb,l⟩
 ·subst ey
  obtain ⟨z,hd,vs,rel,dd⟩:=vA I.hok e
  obtain ⟨w',hw,rw'⟩:=kI.some_of (v:=v) (o:=valueAt vs k) (by rw [l];exact rel.val k)
  exact wpAny_getItem_of (Cr ry) dd.mapOf hw (h w' _ (I.tok _) rw')
 ·subst ey
  cases (show u=Value.ref b from ry)
  obtain ⟨z,hd,xs,rel,dd⟩:=ym I.hok e
  obtain ⟨w',hw,rw'⟩:=kI.some_of (v:=v) (o:=(atKey xs k).map (·.2)) (by rw [l];exact rel.val k)
  obtain ⟨p,hp,hp2⟩:=Option.map_eq_some_iff.mp hw
  refine wpAny_getItem_heap (tupleKind_room_in1 hu) (wN I.hok eb) dd hp ?_
  rw [hp2]
  exact h w' _ (I.tok _) rw'
theorem CL {h':Heap} {t':Nat} {ob:HO} (I:Inv X pins σ H s) (mu:SM (H a)) (hs:Heap.SameBut a s.heap h') (he:∃q,h'.get? a=some q) (new:eO X.prog X.w (upd H a ob) h' a ob) :
  Inv X pins σ (upd H a ob) { s with heap:=h',toks:=t' } :=
 I.write (x:=a) (e:=a) mu (.inl rfl) (fun b q hb z=>(hs.2 b hb).trans z) he new
theorem Of {P:Program} {w:World} {H':Hp} {h':Heap} {kvs:List (Key×V)} {vs:List (Key×Value)} (z:kvs.length≤sizeLine) (hd:(a == sysModules)=false) (rel:KV kvs vs) (dd:h'.DictOf (fj P w) a vs) :
  eO P w H' h' a (.dK kvs):=⟨z,hd,vs,rel,dd⟩
theorem DE {H':Hp} {Q:Unit→Shared→Prop} (hu:A.units+1<cLine) (I:Inv X pins σ H s) (g:DU H a y v H') (ry:RelV y u) (rv:RelV v r) (h:∀s',Inv X pins σ H' s'→Q () s') :
  wpAny (model X.prog X.w) A (setItem (.ref a) u r) Q E s:=by
 rcases g with ⟨kvs,k,e,ey,l,eH⟩ | ⟨kvs,k,b,e,ey,eb,l,eH⟩
 ·subst ey eH
  obtain ⟨z,hd,vs,rel,dd⟩:=Rf I.hok e
  have hz:vs.length≤sizeLine:=by rw [←rel.length];exact z
  have hl:(putK kvs k v).length≤sizeLine:=by have:=qZ kvs k v;omega
  refine wpAny_setItem_pairs (hsz:=hz) (Cr ry) dd fun h' Og hs=>h _ ?_
  have he:∃q,h'.get? a=some q:=let ⟨q,_,_,hq,_⟩:=Og;⟨q,hq⟩
  exact CL I (by rw [e];exact True.intro) hs he (Of hl hd (rel.put k rv) Og)
 ·subst ey eH
  cases (show u=Value.ref b from ry)
  obtain ⟨z,hd,xs,rel,dd⟩:=Rb I.hok e
  have hz:xs.length≤sizeLine:=by rw [←Paired.length rel];exact z
  have hl:(putK kvs k v).length≤sizeLine:=by have:=qZ kvs k v;omega
  refine wpAny_setItem_heap (hsz:=hz) (tupleKind_room_in1 hu) (wN I.hok eb) dd fun h' Og hs=>h _ ?_
  obtain ⟨q,es,ep,hq,h2,h3,h4,_,h5⟩:=Og
  refine CL I (by rw [e];exact True.intro) hs ⟨q,hq⟩ ⟨hl,hd,_,(rel.put k eb rv).keeps fun c ys ec=>?_,q,es,ep,hq,h2,h3,h4,h5⟩
  rw [aY (vq ec e (fun z=>nomatch z))]
  exact ec
end
section
variable {X:Cx} {pins:List (Addr×Obj)} {σ:St} {H:Hp} {s:Shared} {a:Addr} {kvs:List (Key×V)} {k:Key} {u:Value} {A:Around} {E:Value→Shared→Prop}
end
def SK (i:Expr):Prop:=∀ov iv,subscripted i false ov iv=operate [ov,iv] (getItem ov iv)
theorem JW {prog:Program} {w:World} {A:Around} {E:Value→Shared→Prop} {s:Shared} {env:Env} {value slice:Expr} {pos:Pos} {T id:String} {Q:Value→Shared→Prop}
  (hl:typeLookup (.type T) "__getitem__"=pure (some (.builtin id))) (hs:SK slice)
  (h:wpAny (model prog w) A (eval value env) (fun o s₁=>wpAny (model prog w) A (eval slice env) (fun i s₂=>s₂.TypeIs o T∧wpAny (model prog w) A (getItem o i) Q E s₂) E s₁) E s) :
  wpAny (model prog w) A (eval (.Subscript value slice pos) env) Q E s:=by
 refine Subscript_ (wpAny_mono h (fun o s₁ h₁=>wpAny_mono h₁ (fun i s₂ h₂=>?_) fun _ _ x=>x) fun _ _ x=>x)
 obtain ⟨hT,h₂⟩:=h₂
 unfold subscriptTail
 refine wpAny_bind ?_
 rw [getitemInPython_of_ne hT.not_modules]
 refine wpAny_bind (wpAny_specialOf hT hl ?_)
 have fin:wpAny (model prog w) A (subscripted slice false o i) (fun r s₃=>wpAny (model prog w) A (letTemporaryGo value o r >>= fun _=>pure r) Q E s₃) E s₂:=by
  rw [hs o i]
  exact wpAny_operating (wpAny_mono h₂ (fun r s₃ h₃=>wpAny_bind (wpAny_letTemporaryGo (wpAny_pure h₃))) fun _ _ x=>x)
 first
  | exact wpAny_pure (wpAny_bind fin)
  | exact wpAny_bind (wpAny_pure (wpAny_bind fin))
  | exact wpAny_bind fin
theorem yo {X:Cx} {pins:List (Addr×Obj)} {σ:St} {H:Hp} {s:Shared} {a:Addr} {y:V} {o:Option V} (I:Inv X pins σ H s) (g:uX H a y o):s.TypeIs (.ref a) "dict":=by
 rcases g with ⟨kvs,k,e,_,_⟩ | ⟨kvs,k,b,e,_,_,_⟩
 ·obtain ⟨_,_,vs,_,dd⟩:=vA I.hok e
  exact dd.typeIs
 ·obtain ⟨_,_,xs,_,dd⟩:=ym I.hok e
  exact dd.typeIs
def Pe (td ty:TE):TE:=fun σ H Q=>td σ H fun x H1=>ty σ H1 fun y H2=>∃a v,x=.ref a∧uX H2 a y (some v)∧Q v H2
def Pq (td ty tv:TE):TS:=fun D σ H=>tv σ H fun v H1=>td σ H1 fun x H2=>ty σ H2 fun y H3=>∃a H4,x=.ref a∧DU H3 a y v H4∧D.nx σ H4
section
variable {X:Cx} {o i e value:Expr} {pos pos' tpos:Pos} {td ty tv:TE}
theorem wg (hu:X.A.units+1<cLine) (ho:PE X o td) (hi:PE X i ty) (hs:SK i):PE X (.Subscript o i pos) (Pe td ty):=by
 intro pins s σ H Q I h
 refine JW PySem.F.slot_dict_getitem.lookup hs (fz (ho pins s σ H _ I h) fun u s1 ⟨x,H1,I1,rx,q1⟩=>fz (hi pins s1 σ H1 _ I1 q1) fun iv s2 ⟨y,H2,I2,ry,a,v,ex,g,q2⟩=>?_)
 subst ex
 obtain rfl:u=Value.ref a:=rx
 exact ⟨yo I2 g,DF hu I2 g ry fun w' s3 I3 rw'=>⟨v,H2,I3,rw',q2⟩⟩
theorem Cg (hu:X.A.units+1<cLine) (ho:PE X o td) (hi:PE X i ty) (hv:PE X value tv) (hs:swapsWith value (some (.Subscript o i pos')) pos.line X.env=pure false) :
  PS X (.Assign [.Subscript o i pos'] value pos) (Pq td ty tv):=by
 intro pins s σ H D I h
 refine wpAny_Assign_Subscript (fz (hv pins s σ H _ I h) fun r s1 ⟨v,H1,I1,rv,q1⟩=>fz (ho pins s1 σ H1 _ I1 q1) fun u s2 ⟨x,H2,I2,rx,q2⟩=>fz (hi pins s2 σ H2 _ I2 q2) fun iv s3 ⟨y,H3,I3,ry,a,H4,ex,g,q3⟩=>?_) hs
 subst ex
 obtain rfl:u=Value.ref a:=rx
 exact DE hu I3 g ry rv fun s4 I4=>⟨σ,H4,I4,q3⟩
end
theorem Jg {P:Program} {w:World} {H:Hp} (h:Heap) (hb:sysModules<h.objs.size):eO P w H (h.push { cls:=.type "dict",data:=.dict #[] }) h.objs.size (.dK []) :=
 ⟨Nat.zero_le _,beq_eq_false_iff_ne.mpr (Ne.symm (Nat.ne_of_lt hb)),[],.nil,Heap.DictOf.new h⟩
def Mv:TE:=fun _ H Q=>∀p,H p=none→Q (.ref p) (upd H p (.dK []))
section
variable {X:Cx} {pos:Pos}
theorem xQ:PE X (.Dict [] [] pos) Mv:=fun pins s σ H Q I h =>
 wpAny_Dict_empty ⟨.ref s.heap.objs.size,_,I.laid (a:=s.heap.objs.size) (o:=.dK []) (t':=s.toks) (fun _ _ q=>Heap.get?_push_of_some _ q) (Nat.le_refl _) (Jg s.heap I.big),rfl,h _ (I.hok.fresh (Nat.le_refl _))⟩
end
structure M2 (X:Cx) (o:Expr) (m:Str) (apos:Pos) (e f:Expr) (cpos:Pos):Prop where
 base:attributeBase o m X.env (eval o X.env)=eval o X.env
 few:((backTo cpos (starEach [e,f] X.env)).all (fun x=>!x.1)&&(backToKw cpos (keywordEach [] X.env)).all (fun x=>x.1.isSome)
 &&decide (([e,f]:List Expr).length+([]:List Keyword).length+(if ([]:List Keyword).isEmpty then 0 else 1)<30))=true
 line:(apos.endLine == cpos.line)=true
 trees:backTo cpos (starEach [e,f] X.env)=[(false,eval e X.env),(false,eval f X.env)]
def IsD (H:Hp) (a:Addr):Prop:=(∃kvs,Rd H a (.dK kvs))∨∃kvs,Rd H a (.dT kvs)
theorem ND {X:Cx} {pins:List (Addr×Obj)} {σ:St} {H:Hp} {s:Shared} {a:Addr} (I:Inv X pins σ H s) (d:IsD H a) :
  s.TypeIs (.ref a) "dict"∧(∀b,Value.ref a=.ref b→∃ob,s.heap.get? b=some ob∧ob.dict=none)∧(a == sysModules)=false:=by
 rcases d with ⟨kvs,e⟩ | ⟨kvs,e⟩
 ·obtain ⟨_,hd,vs,_,dd⟩:=vA I.hok e
  refine ⟨dd.typeIs,fun b q=>?_,hd⟩
  cases q
  obtain ⟨ob,_,_,h1,h2,_⟩:=dd
  exact ⟨ob,h1,h2.2.1⟩
 ·obtain ⟨_,hd,xs,_,dd⟩:=ym I.hok e
  refine ⟨dd.typeIs,fun b q=>?_,hd⟩
  cases q
  obtain ⟨ob,_,_,h1,h2,_⟩:=dd
  exact ⟨ob,h1,h2.2.1⟩
section
variable {X:Cx} {pins:List (Addr×Obj)} {σ:St} {H:Hp} {s:Shared} {a:Addr} {y d:V} {u r:Value} {o:Option V} {A:Around} {E:Value→Shared→Prop}
theorem Oh {Q:Value→Shared→Prop} (hu:A.units+1<cLine) (I:Inv X pins σ H s) (g:uX H a y o) (ry:RelV y u) (rd:RelV d r) (h:∀w' s',Inv X pins σ H s'→RelV (o.getD d) w'→Q w' s') :
  wpAny (model X.prog X.w) A (call (.builtin "dict.get") [.ref a,u,r]) Q E s:=by
 rcases g with ⟨kvs,k,e,ey,l⟩ | ⟨kvs,k,b,e,ey,eb,l⟩
 ·subst ey
  obtain ⟨z,hd,vs,rel,dd⟩:=vA I.hok e
  refine call_meetsIn PySem.F.slot_dict_get dd.typeIs PySem.F.entry_dict_get (PySem.F.args_dict_get_3 _ _ _) (meets_dict_get_default (fj X.prog X.w) a (Cr ry) hd r) ⟨_,dd.mapOf,h _ _ (I.tok _) ?_⟩
  rw [l]
  exact (rel.val k).getD rd
 ·subst ey
  cases (show u=Value.ref b from ry)
  obtain ⟨z,hd,xs,rel,dd⟩:=ym I.hok e
  refine call_meetsIn PySem.F.slot_dict_get dd.typeIs PySem.F.entry_dict_get (PySem.F.args_dict_get_3 _ _ _) (meetsH_dict_get_default (tupleKind (fj X.prog X.w)) a b hd r) ⟨tupleKind_room_in1 hu,k,xs,wN I.hok eb,dd,h _ _ (I.tok _) ?_⟩
  rw [l]
  exact (rel.val k).getD rd
end
def Mw (td ty tx:TE):TE:=fun σ H Q=>td σ H fun x H1=>∃a,x=.ref a∧IsD H1 a∧ty σ H1 fun y H2=>tx σ H2 fun z H3=>∃o,uX H3 a y o∧Q (o.getD z) H3
section
variable {X:Cx} {o e f:Expr} {apos cpos:Pos} {td ty tx:TE}
theorem Gr (hu:X.A.units+1<cLine) (ho:PE X o td) (he:PE X e ty) (hf:PE X f tx) (m:M2 X o "get" apos e f cpos):PE X (.Call (.Attribute o "get" apos) [e,f] [] cpos) (Mw td ty tx):=by
 intro pins s σ H Q I h
 refine wpAny_Call_method m.base m.few m.line PySem.F.plainAttrs_dict PySem.F.slot_dict_get PySem.F.type_dict_get (fz (ho pins s σ H _ I h) fun u s1 ⟨x,H1,I1,rx,a,ex,d,q1⟩=>?_)
 subst ex
 obtain rfl:u=Value.ref a:=rx
 obtain ⟨t1,t2,_⟩:=ND I1 d
 refine ⟨t1,t2,?_⟩
 rw [m.trees]
 refine Calls.callWith_builtin rfl (Calls.evalArgs_plain (Calls.spliced_cons (fz (he pins s1 σ H1 _ I1 q1) fun iv s2 ⟨y,H2,I2,ry,q2⟩ =>
  Calls.spliced_cons (fz (hf pins s2 σ H2 _ I2 q2) fun fv s3 ⟨z,H3,I3,rz,ov,g,q3⟩=>Calls.spliced_nil ?_))))
 exact Oh hu I3 g ry rz fun w' s4 I4 rw'=>⟨_,H3,I4,rw',q3⟩
end
section
variable {X:Cx} {pins:List (Addr×Obj)} {σ:St} {H:Hp} {s:Shared} {a:Addr} {kvs:List (Key×V)} {A:Around} {E:Value→Shared→Prop}
end
section
variable {X:Cx} {pins:List (Addr×Obj)} {σ:St} {H:Hp} {s:Shared} {a:Addr} {y:V} {u:Value} {A:Around} {E:Value→Shared→Prop}
end
end L2
namespace L2
open PySem PySem.Spec PyProof.Rows
section
variable {X:Cx}
end
section
variable {κ:Type} [DecidableEq κ]
end
end L2
namespace Hw
open PySem PySem.Spec
def lt (a b:Str):Bool:=ltCps a.cps.toList b.cps.toList
theorem LO:∀a:List Nat,ltCps a a=false
 | []=>rfl
 | x::r=>by simp [ltCps,LO r]
theorem CS:∀a b c:List Nat,ltCps a b=true→ltCps b c=true→ltCps a c=true
 | [],[],_,h,_=>by simp [ltCps] at h
 | [],_::_,[],_,h=>by simp [ltCps] at h
 | [],_::_,_::_,_,_=>rfl
 | _::_,[],_,h,_=>by simp [ltCps] at h
 | _::_,_::_,[],_,h=>by simp [ltCps] at h
 | x::a,y::b,z::c,h,g=>by
  simp only [ltCps,Bool.or_eq_true,Bool.and_eq_true,decide_eq_true_eq,beq_iff_eq] at h g ⊢
  rcases h with h | ⟨h,h'⟩<;>rcases g with g | ⟨g,g'⟩
  ·left;omega
  ·left;omega
  ·left;omega
  ·right;exact ⟨by omega,CS a b c h' g'⟩
theorem LN:∀a b:List Nat,ltCps a b=true∨a=b∨ltCps b a=true
 | [],[]=>.inr (.inl rfl)
 | [],_::_=>.inl rfl
 | _::_,[]=>.inr (.inr rfl)
 | x::a,y::b=>by
  simp only [ltCps,Bool.or_eq_true,Bool.and_eq_true,decide_eq_true_eq,beq_iff_eq,List.cons.injEq]
  rcases Nat.lt_trichotomy x y with h | h | h
  ·exact .inl (.inl h)
  ·rcases LN a b with g | g | g
   ·exact .inl (.inr ⟨h,g⟩)
   ·exact .inr (.inl ⟨h,g⟩)
   ·exact .inr (.inr (.inr ⟨h.symm,g⟩))
  ·exact .inr (.inr (.inl h))
theorem Br (a:Str):lt a a=false:=LO _
theorem lt_trans {a b c:Str}:lt a b=true→lt b c=true→lt a c=true:=CS _ _ _
theorem ug (a b:Str):lt a b=true∨a=b∨lt b a=true:=by
 rcases LN a.cps.toList b.cps.toList with h | h | h
 ·exact .inl h
 ·refine .inr (.inl ?_)
  obtain ⟨⟨x⟩⟩:=a;obtain ⟨⟨y⟩⟩:=b
  have h:x=y:=h
  rw [h]
 ·exact .inr (.inr h)
theorem HN {a b:Str} (h:lt a b=true):a≠b:=fun e=>by rw [e,Br] at h;cases h
theorem not_lt_trans {a b c:Str} (h:lt b a=false) (g:lt c b=false):lt c a=false:=by
 rcases ug c a with e | e | e
 ·rcases ug b a with k | k | k
  ·rw [h] at k;cases k
  ·rw [k] at g;rw [g] at e;cases e
  ·rw [lt_trans e k] at g;cases g
 ·rw [e];exact Br a
 ·cases q:lt c a with
  | false=>rfl
  | true=>have:=lt_trans e q;rw [Br] at this;cases this
abbrev Ps:=List (Str×Int)
def jI:Ps→(Str→Int)→Int
 | [],_=>0
 | p::r,f=>p.2*f p.1+jI r f
theorem nM:∀(a b:Ps) (f:Str→Int),jI (a++b) f=jI a f+jI b f
 | [],b,f=>by simp [jI]
 | p::a,b,f=>by simp only [List.cons_append,jI,nM a b f];omega
theorem HR {a b:Ps} (h:a.Perm b) (f:Str→Int):jI a f=jI b f:=by
 induction h with
 | nil=>rfl
 | cons x _ ih=>simp only [jI,ih]
 | swap x y l=>simp only [jI];omega
 | trans _ _ i j=>exact i.trans j
theorem nK:∀(a:Ps) (f:Str→Int),jI (a.filter fun p=>decide (p.2≠0)) f=jI a f
 | [],f=>rfl
 | p::a,f=>by
  by_cases h:p.2=0
  ·rw [List.filter_cons_of_neg (by simp [h]),nK a f,jI,h];simp
  ·rw [List.filter_cons_of_pos (by simp [h]),jI,jI,nK a f]
structure Canon (a:Ps):Prop where
 up:a.Pairwise fun p q=>lt p.1 q.1=true
 nz:∀p∈a,p.2≠0
def ind (t:Str):Str→Int:=fun s=>if s=t then 1 else 0
theorem um {t:Str}:∀{a:Ps},(∀p∈a,p.1≠t)→jI a (ind t)=0
 | [],_=>rfl
 | p::a,h=>by
  have h1:p.1≠t:=h p (List.mem_cons_self ..)
  rw [jI,um (a:=a) fun q hq=>h q (List.mem_cons_of_mem _ hq)]
  simp [ind,h1]
theorem Canon.tail {p:Str×Int} {a:Ps} (c:Canon (p::a)):Canon a:=⟨(List.pairwise_cons.mp c.up).2,fun q hq=>c.nz q (List.mem_cons_of_mem _ hq)⟩
theorem Canon.head {p:Str×Int} {a:Ps} (c:Canon (p::a)):jI (p::a) (ind p.1)=p.2:=by
 rw [jI,um fun q hq=>(HN ((List.pairwise_cons.mp c.up).1 q hq)).symm]
 simp [ind]
theorem Canon.low {t:Str} {p:Str×Int} {a:Ps} (c:Canon (p::a)) (h:lt t p.1=true):jI (p::a) (ind t)=0:=by
 refine um fun q hq=>?_
 rcases List.mem_cons.mp hq with rfl | hq
 ·exact (HN h).symm
 ·exact (HN (lt_trans h ((List.pairwise_cons.mp c.up).1 q hq))).symm
theorem Canon.same:∀{a b:Ps},Canon a→Canon b→(∀f,jI a f=jI b f)→a=b
 | [],[],_,_,_=>rfl
 | [],p::b,_,cb,h=>by
  have e:=h (ind p.1)
  rw [cb.head] at e
  exact absurd e.symm (cb.nz p (List.mem_cons_self ..))
 | p::a,[],ca,_,h=>by
  have e:=h (ind p.1)
  rw [ca.head] at e
  exact absurd e (ca.nz p (List.mem_cons_self ..))
 | p::a,q::b,ca,cb,h=>by
  rcases ug p.1 q.1 with g | g | g
  ·have e:=h (ind p.1)
   rw [ca.head,cb.low g] at e
   exact absurd e (ca.nz p (List.mem_cons_self ..))
  ·have e:=h (ind p.1)
   rw [ca.head,g,cb.head] at e
   have pq:p=q:=Prod.ext g e
   subst pq
   rw [Canon.same ca.tail cb.tail fun f=>by have:=h f;simp only [jI] at this;omega]
  ·have e:=h (ind q.1)
   rw [cb.head,ca.low g] at e
   exact absurd e.symm (cb.nz q (List.mem_cons_self ..))
def Gat (a b:Ps):Prop:=Canon b∧∀f,jI b f=jI a f
def get (d:Ps) (t:Str):Int:=((d.find? fun p=>decide (p.1=t)).map (·.2)).getD 0
def put (d:Ps) (t:Str) (n:Int):Ps:=if (d.any fun p=>decide (p.1=t))=true then d.map (fun p=>if p.1=t then (p.1,n) else p) else d++[(t,n)]
def keys (d:Ps):List Str:=d.map (·.1)
theorem jf (p:Str×Int) (r:Ps) (t:Str):get (p::r) t=if p.1=t then p.2 else get r t:=by
 unfold get
 by_cases e:p.1=t
 ·simp [List.find?_cons,e]
 ·simp [List.find?_cons,e]
theorem sy (d:Ps) (t:Str):(d.any fun p=>decide (p.1=t))=true↔t∈keys d:=by
 unfold keys
 rw [List.any_eq_true,List.mem_map]
 constructor
 ·rintro ⟨p,h,e⟩;exact ⟨p,h,of_decide_eq_true e⟩
 ·rintro ⟨p,h,e⟩;exact ⟨p,h,decide_eq_true e⟩
theorem Bw:∀{d:Ps} {t:Str},t ∉ keys d→get d t=0
 | [],_,_=>rfl
 | p::r,t,h=>by
  have h':p.1≠t∧t ∉ keys r:=by
   constructor
   ·intro e;exact h (by unfold keys;rw [List.map_cons,e];exact List.mem_cons_self ..)
   ·intro e;exact h (List.mem_cons_of_mem _ e)
  rw [jf,if_neg h'.1,Bw h'.2]
theorem ya (d:Ps) (t:Str) (n:Int):keys (put d t n)=if t∈keys d then keys d else keys d++[t]:=by
 unfold put
 by_cases h:t∈keys d
 ·rw [if_pos ((sy d t).mpr h),if_pos h]
  unfold keys
  rw [List.map_map]
  refine List.map_congr_left fun p _=>?_
  show (if p.1=t then (p.1,n) else p).1=p.1
  split<;>rfl
 ·rw [if_neg (fun e=>h ((sy d t).mp e)),if_neg h]
  unfold keys
  rw [List.map_append];rfl
theorem vp {d:Ps} {t:Str} {n:Int} (h:(keys d).Nodup):(keys (put d t n)).Nodup:=by
 rw [ya]
 by_cases e:t∈keys d
 ·rw [if_pos e];exact h
 ·rw [if_neg e,List.nodup_append]
  refine ⟨h,by simp,fun x hx y hy=>?_⟩
  rw [List.mem_singleton] at hy
  rw [hy];rintro rfl;exact e hx
theorem Cq (d:Ps) (t:Str) (n:Int):(put d t n).length≤d.length+1:=by
 have h:(keys (put d t n)).length≤(keys d).length+1:=by
  rw [ya];split
  ·omega
  ·simp
 simpa [keys] using h
theorem xY (t:Str) (n:Int) (f:Str→Int):∀{d:Ps},(keys d).Nodup→t∈keys d→jI (d.map fun p=>if p.1=t then (p.1,n) else p) f=jI d f+(n-get d t)*f t
 | [],_,h=>by simp [keys] at h
 | p::r,nd,h=>by
  have JC:p.1 ∉ keys r∧(keys r).Nodup:=List.nodup_cons.mp nd
  rw [List.map_cons,jI,jI,jf]
  by_cases e:p.1=t
  ·have hr:r.map (fun p=>if p.1=t then (p.1,n) else p)=r:=by
    refine (List.map_congr_left fun q hq=>?_).trans (List.map_id r)
    rw [if_neg];rfl
    intro z
    exact JC.1 (by rw [e,←z];exact List.mem_map.mpr ⟨q,hq,rfl⟩)
   rw [hr,if_pos e,if_pos e,Int.sub_mul]
   show n*f p.1+_=_
   rw [e];omega
  ·have ht:t∈keys r:=(List.mem_cons.mp h).resolve_left fun z=>e z.symm
   rw [if_neg e,if_neg e,xY t n f JC.2 ht];omega
theorem Kl {d:Ps} (t:Str) (n:Int) (f:Str→Int) (nd:(keys d).Nodup):jI (put d t n) f=jI d f+(n-get d t)*f t:=by
 unfold put
 by_cases h:t∈keys d
 ·rw [if_pos ((sy d t).mpr h),xY t n f nd h]
 ·rw [if_neg (fun e=>h ((sy d t).mp e)),nM,Bw h];simp [jI]
def step (d:Ps) (p:Str×Int):Ps:=put d p.1 (get d p.1+p.2)
structure Tab (pre d:Ps):Prop where
 nd:(keys d).Nodup
 len:d.length≤pre.length
 jI:∀f,jI d f=jI pre f
theorem Tab.nil:Tab [] []:=⟨.nil,Nat.le_refl _,fun _=>rfl⟩
theorem Tab.step {pre d:Ps} (h:Tab pre d) (p:Str×Int):Tab (pre++[p]) (step d p):=by
 refine ⟨vp h.nd,?_,fun f=>?_⟩
 ·have:=Cq d p.1 (get d p.1+p.2);have:=h.len;simp;unfold Hw.step;omega
 ·unfold Hw.step
  rw [Kl _ _ _ h.nd,nM,h.jI]
  simp only [Hw.jI]
  have:get d p.1+p.2-get d p.1=p.2:=by omega
  rw [this];omega
theorem xZ:∀{d:Ps} (f:Str→Int),(keys d).Nodup→jI ((keys d).map fun t=>(t,get d t)) f=jI d f
 | [],_,_=>rfl
 | p::r,f,nd=>by
  have JC:p.1 ∉ keys r∧(keys r).Nodup:=List.nodup_cons.mp nd
  show jI ((p.1,get (p::r) p.1)::(keys r).map fun t=>(t,get (p::r) t)) f=_
  have e:((keys r).map fun t=>(t,get (p::r) t))=(keys r).map fun t=>(t,get r t):=by
   refine List.map_congr_left fun t ht=>?_
   rw [jf,if_neg (fun z=>JC.1 (by rw [z];exact ht))]
  rw [e,jI,xZ f JC.2,jf,if_pos rfl,jI]
def outs (d:Ps) (ys:List Str):Ps:=(ys.map fun t=>(t,get d t)).filter fun p=>decide (p.2≠0)
theorem Tab.gat {pre d:Ps} {ys:List Str} (h:Tab pre d) (hp:ys.Perm (keys d)) (hs:ys.Pairwise fun a b=>lt b a=false):Gat pre (outs d ys):=by
 have nd:ys.Nodup:=hp.nodup_iff.mpr h.nd
 have up:ys.Pairwise fun a b=>lt a b=true:=by
  have:=hs.and nd
  refine this.imp fun {a b} q=>?_
  rcases ug a b with e | e | e
  ·exact e
  ·exact absurd e q.2
  ·rw [q.1] at e;cases e
 refine ⟨⟨?_,fun p hp=>?_⟩,fun f=>?_⟩
 ·unfold outs
  refine List.Pairwise.filter _ ?_
  rw [List.pairwise_map];exact up
 ·exact of_decide_eq_true (List.mem_filter.mp hp).2
 ·unfold outs
  rw [nK,HR (hp.map _),xZ f h.nd,h.jI]
end Hw
set_option maxHeartbeats 4000000
namespace L2
open PySem PySem.Spec PyProof.Rows
abbrev jH:Value→Shared→Prop:=fun _ _=>False
abbrev vD (X:Cx) (sc:Scope) (N:List Str) (cl:List (Str×Addr)) (C:Addr) (s:Shared) (H:Hp) (fp:List Addr):Cx :=
 { X with N:=N,s₀:=s,H₀:=H,env:=compEnvC sc cl C X.env,outer:=X.stack,ex:=fp,fn:=fun _=>false,pn:=[],xe:=jH }
def Ext (σ σ':St):Prop:=σ'.length=σ.length∧∀(i:Nat) v,σ[i]?=some (some v)→σ'[i]?=some (some v)
theorem Ext.one {x:V} {r:St}:Ext (none::r) (some x::r):=⟨rfl,fun i v h=>by cases i with | zero=>cases h | succ i=>exact h⟩
theorem Ext.two {x y:V} {r:St}:Ext (none::none::r) (some x::some y::r):=⟨rfl,fun i v h=>by
 cases i with
 | zero=>cases h
 | succ i=>cases i with | zero=>cases h | succ i=>exact h⟩
def BL (cs:List Expr) (env:Env):Sem Bool:=forIn cs true fun c r=>if r=true then do let ok ←isTrue c env (eval c env);pure (ForInStep.yield ok) else pure (ForInStep.yield r)
def SH (X:Cx) (cs:List Expr) (t:TT):Prop :=
 ∀(pins:List (Addr×Obj)) (s:Shared) (σ:St) (H:Hp) (Q:Bool→Hp→Prop),Inv X pins σ H s→t σ H Q→wpAny (model X.prog X.w) X.A (BL cs X.env) (TP X pins σ Q) X.xe s
def BO:TT:=fun _ H Q=>Q true H
theorem cy {X:Cx}:SH X [] BO:=fun pins s σ H Q I h=>wpAny_tests_nil ⟨H,I,h⟩
theorem oE {X:Cx} {c:Expr} {t:TT} (hc:PT X c t):SH X [c] t:=fun pins s σ H Q I h=>wpAny_tests_one (hc pins s σ H Q I h)
section
variable {prog:Program} {w:World} {A:Around} {R:Result→Shared→Prop} {s:Shared}
theorem DG {elt target iter:Expr} {cs:List Expr} {scope:Scope} {pos:Pos} {it acc:Value} {env:Env} (J:Nat→Shared→Prop)
  (turn:∀n s,J n s→wpAny (model prog w) A (pyNext it) (fun r s1=>match r with
   | none=>R (.ok .next) s1
   | some v=>wpAny (model prog w) A (letOwnedTupleGo target it v) (fun _ s2=>wpAny (model prog w) A (assign target env v) (fun _ s3 =>
     wpAny (model prog w) A (BL cs env) (fun ok s4=>if ok=true then wpAny (model prog w) A (eval elt env) (fun x s5 =>
       wpAny (model prog w) A (call (.builtin "list.append") [acc,x]) (fun _ s6=>∃m,m<n∧J m s6) jH s5) jH s4
      else ∃m,m<n∧J m s4) jH s3) jH s2) jH s1) jH s) (n:Nat) (h:J n s) :
  codeAny (model prog w) A (.compLoop (.ListComp elt [⟨target,iter,cs,0⟩] scope pos) 0 it acc env) R s:=by
 refine codeAny_loop rfl J (fun k s' hk=>?_) n h
 show wpAny (model prog w) A ((compTurn (.ListComp elt [⟨target,iter,cs,0⟩] scope pos) 0 it acc env).onRaise (fun x=>do noteFrame x env;theTreesLotGoes x)) _ _ s'
 refine wpAny_noted ?_
 have no:∀(e:Value) (s2:Shared),jH e s2→notedBy (model prog w) A env (fun e s'=>R (.error e) s') e s2:=fun _ _ f=>f.elim
 rw [compTurn_list]
 refine wpAny_bind (wpAny_standAt (wpAny_bind (wpAny_mono (turn k s' hk) (fun r s1 g1=>?_) no)))
 cases r with
 | none=>exact wpAny_pure g1
 | some v =>
  refine wpAny_bind (wpAny_mono g1 (fun _ s2 g2=>?_) no)
  refine wpAny_bind (wpAny_mono g2 (fun _ s3 g3=>?_) no)
  refine wpAny_bind (wpAny_mono g3 (fun ok s4 g4=>?_) no)
  cases ok with
  | false=>exact wpAny_pure ⟨rfl,g4⟩
  | true=>exact wpAny_bind (wpAny_bind (wpAny_mono g4 (fun x s5 g5=>wpAny_bind (wpAny_mono g5 (fun _ s6 g6=>wpAny_pure (wpAny_pure ⟨rfl,g6⟩)) no)) no))
end
def rC (J:It) (g:TG) (tt:TT) (te:TE) (σ0:St) (W:Nat→Nat→List V→Hp→Prop) (R:List V→Hp→Prop):Prop :=
 ∀i m ys H,W i m ys H→(J.stop i H∧R ys H)∨(J.go i H∧∃F:List V→Hp→Prop,(∀ys' H',F ys' H'→∃m',m'<m∧W (i+1) m' ys' H')∧∀x H',J.Mi i H x H'→g x σ0 H' fun σ2 H2=>Ext σ0 σ2∧tt σ2 H2 fun b H3 =>
  if b=true then te σ2 H3 fun v H4=>ys.length<sizeLine∧F (ys++[v]) H4 else F ys H3)
structure uy (X:Cx) (sc:Scope) (cl:List (Str×Addr)) (own:Nat) (N:List Str) (fr:List Nat):Prop where
 kind:sc.kind=.function
 names:∀x∈sc.names,x.2=.local→sc.names.lookup x.1=some .local
 wm:∀x∈sc.names,x.2≠.cell
 clos:closureFor sc X.env=pure cl
 cells:∀x c,cl.lookup x=some c→X.env.cells.lookup x=some c
 has:∀x,((relabel sc X.env).names.lookup x=some .cell∨(relabel sc X.env).names.lookup x=some .free)→∃c,cl.lookup x=some c
 len:N.length=own+fr.length
 UL:∀(i:Nat) j,fr[i]?=some j→∃x,N[own+i]?=some x∧X.N[j]?=some x∧(X.env.kindOf x=some .cell∨X.env.kindOf x=some .free)∧((relabel sc X.env).names.lookup x=some .cell∨(relabel sc X.env).names.lookup x=some .free)
def Lj (env:Env):List (Str×Addr)→Prop
 | []=>True
 | p::r=>env.cells.lookup p.1=some p.2∧Lj env r
theorem Lj.mem {env:Env}:∀{cl:List (Str×Addr)},Lj env cl→∀p∈cl,env.cells.lookup p.1=some p.2
 | [],_,_,h=>nomatch h
 | _::_,h,p,hp=>by
  rcases List.mem_cons.mp hp with rfl | hp
  ·exact h.1
  ·exact h.2.mem p hp
def wQ (k:Option NameKind):Bool:=match k with
 | some .cell=>true
 | some .free=>true
 | _=>false
theorem Cw {k:Option NameKind} (h:wQ k=true):k=some .cell∨k=some .free:=by
 cases k with
 | none=>cases h
 | some k=>cases k<;>first | exact .inl rfl | exact .inr rfl | cases h
def CD (X:Cx) (sc:Scope):List Str→List Nat→Bool
 | [],[]=>true
 | x::ns,j::fr=>decide (X.N[j]?=some x)&&wQ (X.env.kindOf x)&&wQ ((relabel sc X.env).names.lookup x)&&CD X sc ns fr
 | _,_=>false
theorem yg {X:Cx} {sc:Scope}:∀{ns:List Str} {fr:List Nat},CD X sc ns fr=true→ns.length=fr.length∧∀(i:Nat) j,fr[i]?=some j→∃x,ns[i]?=some x∧X.N[j]?=some x∧wQ (X.env.kindOf x)=true∧wQ ((relabel sc X.env).names.lookup x)=true
 | [],[],_=>⟨rfl,fun i j h=>by simp at h⟩
 | [],_::_,h=>by cases h
 | _::_,[],h=>by cases h
 | x::ns,j::fr,h=>by
  have h:(decide (X.N[j]?=some x)&&wQ (X.env.kindOf x)&&wQ ((relabel sc X.env).names.lookup x)&&CD X sc ns fr)=true:=h
  rw [Bool.and_eq_true,Bool.and_eq_true,Bool.and_eq_true] at h
  obtain ⟨⟨⟨h1,h2⟩,h3⟩,h4⟩:=h
  obtain ⟨l,g⟩:=yg h4
  refine ⟨by simp [l],fun i k e=>?_⟩
  cases i with
  | zero=>cases e;exact ⟨x,rfl,of_decide_eq_true h1,h2,h3⟩
  | succ i=>exact g i k e
theorem br {X:Cx} {sc:Scope} {cl:List (Str×Addr)} (PD frN:List Str) (fr:List Nat) (kind:sc.kind=.function) (names:(sc.names.all fun x=>x.2 != .local||sc.names.lookup x.1 == some .local)=true)
  (wm:(sc.names.all fun x=>x.2 != .cell)=true) (clos:closureFor sc X.env=pure cl) (cells:Lj X.env cl) (has:((relabel sc X.env).names.all fun y=>!wQ (some y.2)||(cl.lookup y.1).isSome)=true)
  (len:frN.length=fr.length) (UL:CD X sc frN fr=true):uy X sc cl PD.length (PD++frN) fr where
 kind:=kind
 names:=fun x hx hl=>by
  have:=List.all_eq_true.mp names x hx
  rw [hl] at this
  simpa using this
 wm:=fun x hx=>by simpa using List.all_eq_true.mp wm x hx
 clos:=clos
 cells:=fun x c h=>cells.mem (x,c) (PySem.mem_of_lookup h)
 has:=fun x h=>by
  obtain ⟨k,hk,e⟩:∃k,(relabel sc X.env).names.lookup x=some k∧wQ (some k)=true:=by
   rcases h with h | h
   ·exact ⟨_,h,rfl⟩
   ·exact ⟨_,h,rfl⟩
  have:=List.all_eq_true.mp has (x,k) (PySem.mem_of_lookup hk)
  rw [e] at this
  exact Option.isSome_iff_exists.mp (by simpa using this)
 len:=by rw [List.length_append,len]
 UL:=fun i j e=>by
  obtain ⟨_,g⟩:=yg UL
  obtain ⟨x,e1,e2,e3,e4⟩:=g i j e
  refine ⟨x,?_,e2,Cw e3,Cw e4⟩
  rw [List.getElem?_append_right (Nat.le_add_right _ _),Nat.add_sub_cancel_left]
  exact e1
def JB (own:Nat) (fr:List Nat) (σ:St):St:=List.replicate own none++fr.map fun j=>(σ[j]?).join
section
variable {X:Cx} {sc:Scope} {cl:List (Str×Addr)} {own:Nat} {N:List Str} {fr:List Nat}
theorem MA {σ:St} {i:Nat} {v:V} (h:(JB own fr σ)[i]?=some (some v)):∃k j,i=own+k∧fr[k]?=some j∧σ[j]?=some (some v):=by
 unfold JB at h
 by_cases hi:i<own
 ·rw [List.getElem?_append_left (by simpa using hi),List.getElem?_replicate,if_pos hi] at h
  cases h
 ·rw [List.getElem?_append_right (by simpa using hi),List.length_replicate,List.getElem?_map] at h
  cases e:fr[i-own]? with
  | none=>rw [e] at h;cases h
  | some j =>
   rw [e] at h
   have h:(σ[j]?).join=some v:=Option.some.inj h
   refine ⟨i-own,j,by omega,e,?_⟩
   cases q:σ[j]? with
   | none=>rw [q] at h;cases h
   | some o=>rw [q] at h;exact congrArg some h
theorem DH {pins:List (Addr×Obj)} {σ:St} {H:Hp} {s:Shared} {fp:List Addr} {h1:Heap} {m1:Str→Option Value} {t:Nat} {C D:Addr} {od:Obj} (S:uy X sc cl own N fr) (I:Inv X pins σ H s) (hfp:∀b∈fp,rQ X pins H b)
  (hob:∀b∈fp,∃o,s.heap.get? b=some o) (kp:∀b o,s.heap.get? b=some o→h1.get? b=some o) (hC:s.heap.objs.size≤C) (hns:h1.Ns C m1) (hD:s.heap.objs.size≤D) (hDC:D≠C) (ho:h1.get? D=some od) (hod:∀v,od.data≠.cell v) :
  Inv (vD X sc N cl C s H fp) [(D,od)] (JB own fr σ) H { s with heap:=h1,toks:=t }:=by
 have JV:∀b∈fp,b<s.heap.objs.size:=fun b hb=>let ⟨o,e⟩:=hob b hb;Heap.lt_size e
 refine ⟨⟨I.ok.mod,S.kind,I.ok.glob,I.ok.blt,hC,fun x y c a b=>I.ok.inj x y c (S.cells x c a) (S.cells y c b),S.has,(fun x c z=>nomatch z),I.ok.hd,I.ok.frames,.inl rfl,fun b hb=>?_,I.bs,Nat.le_trans I.ok.KO I.sz,fun b o e hb=>?_,fun b hb hf=>?_,I.stack,I.BR⟩,
  rfl,I.bare,Un.kept kp,⟨m1,hns,fun i x v e1 e2 e3=>?_⟩,fun x c e=>?_,I.hok.fresh hC,fun x c e=>I.lR x c (S.cells x c e),fun p hp=>?_,I.hok.kept kp,?_⟩
 ·exact ⟨Nat.ne_of_lt (Nat.lt_of_lt_of_le (JV b hb) hC),fun x c e=>(hfp b hb).2.2.2.2.1 x c (S.cells x c e)⟩
 ·rcases (hfp b hb).2.2.2.1 with z | z
  ·exact I.ok.Ho b o e z
  ·exact absurd (Nat.lt_of_lt_of_le (Heap.lt_size e) (Nat.le_trans I.ok.KO z)) (Nat.lt_irrefl _)
 ·rcases List.mem_cons.mp (I.vO b hf) with z | z
  ·exact (hfp b hb).2.1 z
  ·exact (hfp b hb).2.2.1 z
 ·obtain ⟨k,j,rfl,ej,eσ⟩:=MA e2
  obtain ⟨y,n1,n2,k1,k2⟩:=S.UL k j ej
  have e1:N[own+k]?=some x:=e1
  rw [n1] at e1
  cases e1
  obtain ⟨m,hn,hl⟩:=I.loc
  obtain ⟨u,ru,l⟩:=hl j x v n2 eσ (by rcases k1 with z | z;exact .inr (.inl z);exact .inr (.inr z))
  refine ⟨u,ru,.inr ⟨k2,?_⟩⟩
  obtain ⟨c,hc⟩:=S.has x k2
  refine ⟨c,hc,?_⟩
  rcases l with ⟨q,_⟩ | ⟨_,c',e',z⟩
  ·rcases k1 with k1 | k1<;>(rw [k1] at q;cases q)
  ·have:=S.cells x c hc
   rw [e'] at this;cases this
   obtain ⟨o,yI,h2'⟩:=z
   exact ⟨o,kp _ _ yI,h2'⟩
 ·obtain ⟨v,o,yI,h2'⟩:=I.cell x c (S.cells x c e)
  exact ⟨v,o,kp _ _ yI,h2'⟩
 ·have hp:p=(D,od):=by simpa using hp
  subst hp
  refine ⟨ho,I.hok.fresh hD,hDC,fun hf=>?_,hod⟩
  have:D∈X.env.locals::X.fs:=I.vO D hf
  rcases List.mem_cons.mp this with z | z
  ·exact absurd (Nat.lt_of_lt_of_le I.lt hD) (by rw [z];exact Nat.lt_irrefl _)
  ·exact I.PV hD z
 ·unfold JB
  rw [List.length_append,List.length_replicate,List.length_map]
  exact S.len.symm
theorem DI {pins pl:List (Addr×Obj)} {σ τ:St} {H H':Hp} {s s':Shared} {fp:List Addr} {C D:Addr} {ys:List V} {its:List Value} {n:Nat} (I:Inv X pins σ H s) (hfp:∀b∈fp,rQ X pins H b) (hC:s.heap.objs.size≤C) (hD:s.heap.objs.size≤D)
  (B:Inv (vD X sc N cl C s H fp) pl τ H' s') (hn:H' D=none) (ho:s'.heap.get? D=some { cls:=.type "list",data:=.seq its.toArray n }) (r:Vals ys its) (hz:ys.length≤sizeLine) :
  Inv X pins σ (upd H' D (.lst ys)) s':=by
 have ne:∀b o,s.heap.get? b=some o→b≠D:=fun b o e=>Nat.ne_of_lt (Nat.lt_of_lt_of_le (Heap.lt_size e) hD)
 have nt:∀b u,H' b=some u→b≠D:=fun b u e=>aE e hn
 refine I.Sv (ch:=fp) B.os ⟨B.base.keep,B.base.slot,fun b o e q hx=>?_,B.base.there,fun b xs e=>?_,fun b o u e=>?_,fun b ps e=>?_⟩ (fun b u e=>?_) B.bare fun b hb=>?_
 ·rw [aY (ne b o e)];exact B.base.free b o e q hx
 ·have:=B.base.tups b xs e;rw [aY (nt _ _ this)];exact this
 ·have:=B.base.uQ b o u e;rw [aY (nt _ _ this)];exact this
 ·obtain ⟨mo,this⟩:=B.base.vN b ps e;exact ⟨mo,by rw [aY (nt _ _ this)];exact this⟩
 ·by_cases hb:b=D
  ·subst hb
   rw [af] at e
   cases e
   exact ⟨hz,its,n,r,ho⟩
  ·rw [aY hb] at e
   exact (B.hok b u e).stay (fun _ _ _ q=>q) (fun c q=>by rw [aY (nt _ _ q)];exact q) fun c xs q=>by rw [aY (nt _ _ q)];exact q
 ·obtain ⟨_,f1,_,f3,f4,f5⟩:=hfp b hb
  exact ⟨f3,f1,f4,f5⟩
end
end L2
namespace L2
open PySem PySem.Spec PyProof.Rows
section
variable {X:Cx} {sc:Scope} {cl:List (Str×Addr)} {own:Nat} {N:List Str} {fr:List Nat}
theorem Inv.FL {pins tU:List (Addr×Obj)} {σ:St} {H:Hp} {s:Shared} (I:Inv X pins σ H s) (h:∀p∈tU,p∈pins):Inv X tU σ H s:=I.r8 fun p hp=>I.pin p (List.mem_append_right _ (h p hp))
theorem vE {elt tg iter:Expr} {cs:List Expr} {pos:Pos} {g:TG} {tt:TT} {te:TE} {pins:List (Addr×Obj)} {σ:St} {H:Hp} {s:Shared} {it:Addr} {fp:List Addr} {tn:Nat→Heap→Prop} {J:It} {RR:Value→Addr→Result→Shared→Prop}
  (S:uy X sc cl own N fr) (hc:X.calm=true) (I:Inv X pins σ H s) (T:Turn X.prog X.w X.K tg J fp it tn) (st:tn 0 s.heap) (hfp:∀b∈fp,rQ X pins H b)
  (hg:∀C s H,PG (vD X sc N cl C s H fp) tg g) (ht:∀C s H,SH (vD X sc N cl C s H fp) cs tt) (he:∀C s H,PE (vD X sc N cl C s H fp) elt te)
  {W:Nat→Nat→List V→Hp→Prop} {R:List V→Hp→Prop} (w0:∃m,W 0 m [] H) (walk:rC J g tt te (JB own fr σ) W R)
  (fin:∀D C H' ys s' m,s'.heap.Ns C m→H' D=none→rQ X pins (upd H' D (.lst ys)) C→Inv X pins σ (upd H' D (.lst ys)) s'→R ys H'→RR (.ref D) C (.ok .next) s') :
  wpAny (model X.prog X.w) X.A (newList []) (fun acc s3=>wpAny (model X.prog X.w) X.A (newFunctionEnv sc X.env.globals cl [] X.env.qual none .none (some X.env)) (fun cenv s4 =>
   codeAny (model X.prog X.w) X.A (.compStart (.ListComp elt [⟨tg,iter,cs,0⟩] sc pos) 0 (.ref it) acc { cenv with scope:=relabel sc X.env }) (RR acc cenv.locals) s4) X.xe s3) X.xe s:=by
 refine wpAny_newObj_type (wpAny_newFunctionEnv S.wm (by intro y hy;simp at hy) (fun h1 hns UD=>?_) S.kind)
 dsimp only at hns UD ⊢
 generalize hH:s.heap.push { cls:=.type "list",dict:=none,data:=.seq ([]:List Value).toArray }=hp at hns UD ⊢
 have sC:hp.objs.size=s.heap.objs.size+1:=by rw [←hH,Heap.size_push]
 have hDC:s.heap.objs.size≠hp.objs.size:=by omega
 have kp:∀b o,s.heap.get? b=some o→h1.get? b=some o:=fun b o e=>by
  have l:=Heap.lt_size e
  exact UD.extBut b o (Nat.ne_of_lt (by rw [sC];exact Nat.lt_succ_of_lt l)) (Heap.get?_push_of_some _ (hH▸Heap.get?_push_of_some _ e))
 have hD1:h1.get? s.heap.objs.size=some { cls:=.type "list",data:=.seq ([]:List Value).toArray }:=UD.extBut _ _ hDC (Heap.get?_push_of_some _ (hH▸Heap.get?_push_size _ rfl))
 have JV:∀b∈fp,b<s.heap.objs.size:=fun b hb=>let ⟨o,e,_⟩:=T.obj 0 _ st b hb;Heap.lt_size e
 generalize hCC:hp.objs.size=C at *
 generalize hDD:s.heap.objs.size=D at *
 have I1:∀t,Inv (vD X sc N cl C s H fp) [(D,{ cls:=.type "list",data:=.seq ([]:List Value).toArray })] (JB own fr σ) H { s with heap:=h1,toks:=t }:=fun t =>
  DH S I hfp (fun b hb=>let ⟨o,e,_⟩:=T.obj 0 _ st b hb;⟨o,e⟩) kp (by omega) hns (by omega) hDC hD1 (by intro v z;cases z)
 have st1:tn 0 h1:=T.keep 0 _ _ st fun b hb o e=>kp b o e
 have fpo:∀{H':Hp} {s':Shared} {τ:St} {pl:List (Addr×Obj)} {od:Obj},Inv (vD X sc N cl C s H fp) pl τ H' s'→(∀p∈pl,p.1=D)→(∀b∈fp,H' b=none)→∀b∈fp,rQ (vD X sc N cl C s H fp) pl H' b:=fun {H' s' τ pl od} B hpl hn b hb=>by
  have q:=JV b hb
  refine ⟨hn b hb,(B.ok.Vk b hb).1,B.ok.Jb b hb,.inl hb,(B.ok.Vk b hb).2,fun p hp=>?_⟩
  have hp:p∈pl:=by simpa using hp
  rw [hpl p hp];exact (Nat.ne_of_lt q).symm
 have loop:∀t,codeAny (model X.prog X.w) X.A (.compLoop (.ListComp elt [⟨tg,iter,cs,0⟩] sc pos) 0 (.ref it) (.ref D) (compEnvC sc cl C X.env)) (RR (.ref D) C) { s with heap:=h1,toks:=t }:=by
  intro t
  obtain ⟨m0,w0⟩:=w0
  refine DG (fun n s'=>∃i ys its k H',Inv (vD X sc N cl C s H fp) [(D,{ cls:=.type "list",data:=.seq (List.toArray its) k })] (JB own fr σ) H' s'∧tn i s'.heap∧(∀b∈fp,H' b=none)∧Vals ys its∧ys.length≤sizeLine∧W i n ys H') ?_ m0
   ⟨0,[],[],_,H,I1 t,st1,fun b hb=>(hfp b hb).1,.nil,Nat.zero_le _,w0⟩
  rintro n s2 ⟨i,ys,its,k,H2,B2,st2,fr2,rv,hz,w2⟩
  have pD:=B2.pin (D,{ cls:=.type "list",data:=.seq (List.toArray its) k }) (List.mem_append_right _ (List.mem_singleton.mpr rfl))
  rcases walk i n ys H2 w2 with ⟨stop,rr⟩ | ⟨go,nx,hnx,tk⟩
  ·refine wpAny_mono (T.done (vD X sc N cl C s H fp) rfl rfl rfl hc i _ s2 _ H2 jH B2 (fpo (od:=default) B2 (by simp) fr2) st2 stop) (fun r s3 ⟨hr,B3⟩=>?_) fun _ _ z=>z
   subst hr
   obtain ⟨m3,n3,_⟩:=B3.loc
   have Yr:=B3.pin (D,{ cls:=.type "list",data:=.seq (List.toArray its) k }) (List.mem_append_right _ (List.mem_singleton.mpr rfl))
   refine fin D C H2 ys s3 m3 n3 Yr.2.1 ?_ (DI I hfp (by omega) (by omega) B3 Yr.2.1 Yr.1 rv hz) rr
   exact I.Ja (by omega) (by rw [aY (Ne.symm hDC)];exact B3.free)
  ·refine wpAny_mono (T.item (vD X sc N cl C s H fp) rfl rfl rfl hc i _ s2 _ H2 jH B2 (fpo (od:=default) B2 (by simp) fr2) st2 go) (fun r s3 ⟨u,hr,g3⟩=>?_) fun _ _ z=>z
   subst hr
   refine wpAny_mono g3 (fun _ s4 ⟨x,H4,B4,rx,y4,V1,fr4⟩=>?_) fun _ _ z=>z
   have B5:=B4.pinned (fpo (od:=default) B4 (by simp) fr4) (T.obj _ _ V1)
   refine wpAny_mono (hg C s H _ s4 _ H4 x u _ B5 rx (tk x H4 y4)) (fun _ s5 ⟨σ5,H5,B6,ex,q5⟩=>?_) fun _ _ z=>z
   refine wpAny_mono (ht C s H _ s5 σ5 H5 _ B6 q5) (fun b s6 ⟨H6,B7,q6⟩=>?_) fun _ _ z=>z
   have back:∀{H':Hp} {s':Shared},Inv (vD X sc N cl C s H fp) ([(D,{ cls:=.type "list",data:=.seq (List.toArray its) k })]++tT fp s4.heap) σ5 H' s'→tn (i+1) s'.heap∧∀b∈fp,H' b=none:=fun {H' s'} B=>by
    refine ⟨T.keep _ _ _ V1 fun b hb o e=>(B.pin (b,o) (List.mem_append_right _ (List.mem_append_right _ (kr hb e)))).1,fun b hb=>?_⟩
    obtain ⟨o,e,_⟩:=T.obj _ _ V1 b hb
    exact (B.pin (b,o) (List.mem_append_right _ (List.mem_append_right _ (kr hb e)))).2.1
   cases b with
   | false =>
    obtain ⟨m',hm,w'⟩:=hnx _ _ q6
    obtain ⟨t7,f7⟩:=back B7
    exact ⟨m',hm,i+1,ys,its,k,H6,(B7.nZ).weak ex.1.symm ex.2,t7,f7,rv,hz,w'⟩
   | true =>
    refine wpAny_mono (he C s H _ s6 σ5 H6 _ B7 q6) (fun x7 s7 ⟨v7,H7,B8,r7,hz7,q7⟩=>?_) fun _ _ z=>z
    obtain ⟨m',hm,w'⟩:=hnx _ _ q7
    obtain ⟨t8,f8⟩:=back B8
    have MP:=B8.pin (D,{ cls:=.type "list",data:=.seq (List.toArray its) k }) (List.mem_append_right _ (List.mem_append_left _ (List.mem_singleton.mpr rfl)))
    have lz:its.length=ys.length:=rv.length.symm
    refine call_meets F.slot_list_append ⟨_,MP.1,rfl⟩ F.entry_list_append (F.args_list_append_2 _ _) (PySem.list_append D its.toArray k x7 (by rw [List.size_toArray];omega)) ⟨MP.1,?_⟩
    have q:=PySem.IsL.update MP.1 (·.push x7)
    have eo:its.toArray.push x7=(its++[x7]).toArray:=by simp
    have B9:Inv (vD X sc N cl C s H fp) [] (JB own fr σ) H7 { s7 with heap:=s7.heap.update D (Obj.mapSeq (·.push x7)) } :=
     Inv.turned (t':=s7.toks) (((B8.FL (tU:=[]) (by intro p hp;simp at hp)).weak ex.1.symm ex.2)) (fun b o hb e=>(Heap.get?_update_other _ _ (Ne.symm hb)).trans e) MP.2.1 hDC (.inr (by show s.heap.objs.size≤D;omega)) (fun y c e z=>by
      have:=B8.cell y c e
      obtain ⟨v,o,yI,h2'⟩:=this
      have yI:s7.heap.get? c=some o:=yI
      rw [z,MP.1] at yI
      cases yI
      cases h2') (by intro p hp;simp at hp)
    have B10:∀o',(s7.heap.update D (Obj.mapSeq (·.push x7))).get? D=some o'→(∀v,o'.data≠.cell v)→Inv (vD X sc N cl C s H fp) [(D,o')] (JB own fr σ) H7 { s7 with heap:=s7.heap.update D (Obj.mapSeq (·.push x7)) }:=fun o' e1 e2 =>
     Inv.r8 B9 fun p hp=>by
      have hp:p=(D,o'):=by simpa using hp
      subst hp
      exact ⟨e1,MP.2.1,hDC,MP.2.2.2.1,e2⟩
    rw [eo] at q
    refine ⟨m',hm,i+1,ys++[v7],its++[x7],_,H7,B10 _ q (by intro v z;cases z),T.keep _ _ _ t8 fun b hb o e=>(Heap.get?_update_other _ _ (Nat.ne_of_gt (JV b hb))).trans e,f8,rv.append (.cons r7 .nil),by rw [List.length_append,List.length_singleton];omega,w'⟩
 exact codeAny_compStart_list (loop _) (T.self _ 0 _ _ _ st1 (loop _))
def Lv (own:Nat) (fr:List Nat) (wi:TI) (g:TG) (tt:TT) (te:TE):TE:=fun σ H Q=>wi σ H fun J H1=>∃W:Nat→Nat→List V→Hp→Prop,(∃m,W 0 m [] H1) ∧
 rC J g tt te (JB own fr σ) W fun ys H2=>∀p,H2 p=none→Q (.ref p) (upd H2 p (.lst ys))
theorem cK {elt tg iter:Expr} {cs:List Expr} {pos:Pos} {wi:TI} {g:TG} {tt:TT} {te:TE} (S:uy X sc cl own N fr) (hc:X.calm=true) (hi:PI X tg iter wi) (hg:∀C s H fp,PG (vD X sc N cl C s H fp) tg g)
  (ht:∀C s H fp,SH (vD X sc N cl C s H fp) cs tt) (he:∀C s H fp,PE (vD X sc N cl C s H fp) elt te) (hs:∀x,foldedSetIterable iter X.env x=pure x:=by intro _;rfl) :
  PE X (.ListComp elt [⟨tg,iter,cs,0⟩] sc pos) (Lv own fr wi g tt te):=by
 intro pins s σ H Q I h
 rw [eval_ListComp]
 refine wpAny_comprehension_free (use:=none) rfl hs S.clos S.kind S.names (fz (hi pins s σ H _ I h) fun v s1 h1=>fz h1 fun itv s2 h2=>?_)
 obtain ⟨it,fp,tn,J,H2,e,I2,T,st2,f2,W,w0,walk⟩:=h2
 subst e
 refine vE (RR:=fun acc C=>compPost (model X.prog X.w) X.A X.xe none (EP X pins σ Q) acc C) S hc I2 T st2 f2 (fun C s H=>hg C s H fp) (fun C s H=>ht C s H fp) (fun C s H=>he C s H fp) w0 walk ?_
 intro D C H' ys s' m hn hD fC I' rr
 obtain ⟨f0,f1,f2',f3,f4,f5⟩:=fC
 exact ⟨m,hn,fun h' hs'=>⟨.ref D,_,Inv.turned (t':=s'.toks) I' (fun b o hb e=>hs'.extBut b o hb e) f0 f1 f3 f4 f5,rfl,rr D hD⟩⟩
theorem jx {elt tg iter:Expr} {cs:List Expr} {pos spos py:Pos} {wi:TI} {g:TG} {tt:TT} {te:TE} {i:Nat} {y:Str} (hN:X.N.Nodup) (hiy:X.N[i]?=some y) (hy:Loc X.env.scope y) (S:uy X sc cl own N fr) (hc:X.calm=true) (hi:PI X tg iter wi)
  (hg:∀C s H fp,PG (vD X sc N cl C s H fp) tg g) (ht:∀C s H fp,SH (vD X sc N cl C s H fp) cs tt) (he:∀C s H fp,PE (vD X sc N cl C s H fp) elt te)
  (hsw:swapsWith (.ListComp elt [⟨tg,iter,cs,0⟩] sc pos) (some (.Name y py)) spos.line X.env=pure true:=by rfl) (hs:∀x,foldedSetIterable iter X.env x=pure x:=by intro _;rfl)
  (hf:X.fn y=true∨X.env.scope.names.lookup y=some .local:=by first | exact .inl rfl | exact .inr rfl | assumption) :
  PS X (.Assign [.Name y py] (.ListComp elt [⟨tg,iter,cs,0⟩] sc pos) spos) (Mx (Lv own fr wi g tt te) (vz i)):=by
 intro pins s σ H D0 I h
 rw [exec_Assign_Name_used _ _ _ _ hsw]
 refine wpAny_bind (wpAny_standAt (wpAny_bind ?_))
 show wpAny _ X.A (do let _ ←comprehension (.ListComp elt [⟨tg,iter,cs,0⟩] sc pos) sc X.env _ (newList []) false (eval iter X.env) (some (assign (.Name y py) X.env))) _ _ s
 refine wpAny_bind (fz (wpAny_comprehension_free (use:=some (assign (.Name y py) X.env)) (Q:=fun _ s'=>SP X pins D0 .next s') rfl hs S.clos S.kind S.names
  (fz (hi pins s σ H _ I h) fun v s1 h1=>fz h1 fun itv s2 h2=>?_)) fun _ s' hq=>wpAny_pure (wpAny_pure hq))
 obtain ⟨it,fp,tn,J,H2,e,I2,T,st2,f2,W,w0,walk⟩:=h2
 subst e
 refine vE (RR:=fun acc C=>compPost (model X.prog X.w) X.A X.xe (some (assign (.Name y py) X.env)) (fun _ s'=>SP X pins D0 .next s') acc C) S hc I2 T st2 f2 (fun C s H=>hg C s H fp) (fun C s H=>ht C s H fp) (fun C s H=>he C s H fp) w0 walk ?_
 intro D C H' ys s' m hn hD fC I' rr
 obtain ⟨f0,f1,f2',f3,f4,f5⟩:=fC
 show wpAny _ X.A (assign (.Name y py) X.env (.ref D)) _ _ _
 refine wpAny_assign_Name (u7 I' hN hiy hy (v:=.ref D) rfl (fun s2 I2 ⟨a,sb,ha⟩=>?_) hf)
 have aC:C≠a:=by
  rcases ha with z | z
  ·rw [z];exact f1
  ·exact fun q=>f4 y a z q.symm
 exact ⟨m,hn.sameBut sb aC,fun h' hs'=>⟨_,_,Inv.turned (t':=s2.toks) I2 (fun b o hb e=>hs'.extBut b o hb e) f0 f1 f3 f4 f5,rr D hD⟩⟩
end
theorem eS {K:PySem.W.Frag} {a:Addr} {xs:List V} {g:TG} {tt:TT} {te:TE} {σ0:St} {H:Hp} {R:List V→Hp→Prop} (Pv:Nat→List V→Hp→Prop) (h0:Pv 0 [] H) (hl:∀i ys H,i≤xs.length→Pv i ys H→bS K H a xs)
  (hs:∀i x ys H,xs[i]?=some x→Pv i ys H→g x σ0 H fun σ2 H2=>Ext σ0 σ2∧tt σ2 H2 fun b H3=>if b=true then te σ2 H3 fun v H4=>ys.length<sizeLine∧Pv (i+1) (ys++[v]) H4 else Pv (i+1) ys H3)
  (hd:∀ys H,Pv xs.length ys H→R ys H):∃W:Nat→Nat→List V→Hp→Prop,(∃m,W 0 m [] H)∧rC (KY K a) g tt te σ0 W R:=by
 refine ⟨fun i m ys H=>m=xs.length-i∧i≤xs.length∧Pv i ys H,⟨xs.length,by simp,Nat.zero_le _,h0⟩,?_⟩
 rintro i m ys H ⟨rfl,hi,p⟩
 have q:=hl i ys H hi p
 by_cases hlt:i<xs.length
 ·refine .inr ⟨⟨xs,xs[i],q,by simp [hlt]⟩,Pv (i+1),fun ys' H' p'=>⟨xs.length-(i+1),by omega,rfl,hlt,p'⟩,fun x H' y=>?_⟩
  obtain ⟨e,y⟩:=y
  subst e
  exact hs i x ys _ (y xs q) p
 ·have e:i=xs.length:=by omega
  subst e
  exact .inl ⟨⟨xs,q,Nat.le_refl _⟩,hd ys H p⟩
theorem cT {K:PySem.W.Frag} {a:Addr} {xs:List V} {g:TG} {tt:TT} {te:TE} {σ0:St} {H:Hp} {R:List V→Hp→Prop} (Pv:Nat→List V→Hp→Prop) (h0:Pv 0 [] H) (hl:∀i ys H,i≤xs.length→Pv i ys H→aW K H a xs)
  (hs:∀i x ys H,xs[i]?=some x→Pv i ys H→g x σ0 H fun σ2 H2=>Ext σ0 σ2∧tt σ2 H2 fun b H3=>if b=true then te σ2 H3 fun v H4=>ys.length<sizeLine∧Pv (i+1) (ys++[v]) H4 else Pv (i+1) ys H3)
  (hd:∀ys H,Pv xs.length ys H→R ys H):∃W:Nat→Nat→List V→Hp→Prop,(∃m,W 0 m [] H)∧rC (JM K a) g tt te σ0 W R:=by
 refine ⟨fun i m ys H=>m=xs.length-i∧i≤xs.length∧Pv i ys H,⟨xs.length,by simp,Nat.zero_le _,h0⟩,?_⟩
 rintro i m ys H ⟨rfl,hi,p⟩
 have q:=hl i ys H hi p
 by_cases hlt:i<xs.length
 ·refine .inr ⟨⟨xs,xs[i],q,by simp [hlt]⟩,Pv (i+1),fun ys' H' p'=>⟨xs.length-(i+1),by omega,rfl,hlt,p'⟩,fun x H' y=>?_⟩
  obtain ⟨e,y⟩:=y
  subst e
  exact hs i x ys _ (y xs q) p
 ·have e:i=xs.length:=by omega
  subst e
  exact .inl ⟨⟨xs,q,Nat.le_refl _⟩,hd ys H p⟩
theorem iu {lo:Int} {n:Nat} {g:TG} {tt:TT} {te:TE} {σ0:St} {H:Hp} {R:List V→Hp→Prop} (Pv:Nat→List V→Hp→Prop) (h0:Pv 0 [] H)
  (hs:∀i ys H,i<n→Pv i ys H→g (.int (lo+i)) σ0 H fun σ2 H2=>Ext σ0 σ2∧tt σ2 H2 fun b H3=>if b=true then te σ2 H3 fun v H4=>ys.length<sizeLine∧Pv (i+1) (ys++[v]) H4 else Pv (i+1) ys H3)
  (hd:∀ys H,Pv n ys H→R ys H):∃W:Nat→Nat→List V→Hp→Prop,(∃m,W 0 m [] H)∧rC (Oz lo n) g tt te σ0 W R:=by
 refine ⟨fun i m ys H=>m=n-i∧i≤n∧Pv i ys H,⟨n,by simp,Nat.zero_le _,h0⟩,?_⟩
 rintro i m ys H ⟨rfl,hi,p⟩
 by_cases hlt:i<n
 ·refine .inr ⟨hlt,Pv (i+1),fun ys' H' p'=>⟨n-(i+1),by omega,rfl,hlt,p'⟩,fun x H' y=>?_⟩
  obtain ⟨e,y⟩:=y
  subst e y
  exact hs i ys _ hlt p
 ·have e:i=n:=by omega
  subst e
  exact .inl ⟨Nat.le_refl _,hd ys H p⟩
def a2R (K:PySem.W.Frag) (tl:TE):TI:=fun σ H R=>tl σ H fun x H1=>∃a,x=.ref a∧(((∃xs,bS K H1 a xs)∧R (KY K a) H1)∨((∃xs,aW K H1 a xs)∧R (JM K a) H1))
theorem FP {X:Cx} {tg l:Expr} {tl:TE} (hl:PE X l tl):PI X tg l (a2R X.K tl):=by
 intro pins s σ H R I h
 refine fz (hl pins s σ H _ I h) fun v s1 ⟨x,H1,I1,r1,q1⟩=>?_
 obtain ⟨a,e,q⟩:=q1
 subst e
 cases r1
 have fo:∀b∈[s1.heap.objs.size],rQ X pins H1 b:=fun b hb=>by
  have e:b=s1.heap.objs.size:=by simpa using hb
  subst e
  exact I1.Ja (Nat.le_refl _) (I1.hok.fresh (Nat.le_refl _))
 rcases q with ⟨⟨xs,hq⟩,q⟩ | ⟨⟨xs,hq⟩,q⟩
 ·obtain ⟨its,rv,p,hz⟩:=I1.list hq
  refine wpAny_pyIter_list p.isList ?_
  exact ⟨s1.heap.objs.size,[s1.heap.objs.size],_,_,H1,rfl,I1.kept (t':=s1.toks) fun b o e=>Heap.get?_push_of_some _ e,u6 a _,⟨_,Heap.get?_push_size _ rfl,rfl,rfl⟩,fo,q⟩
 ·obtain ⟨its,rv,p,hz⟩:=I1.tuple hq
  refine wpAny_pyIter_tuple (show s1.heap.IsTuple a its.toArray from p) ?_
  exact ⟨s1.heap.objs.size,[s1.heap.objs.size],_,_,H1,rfl,I1.kept (t':=s1.toks) fun b o e=>Heap.get?_push_of_some _ e,sP a _,⟨_,Heap.get?_push_size _ rfl,rfl,rfl⟩,fo,q⟩
end L2
namespace L2
open PySem PySem.Spec PyProof.Rows
section
variable {X:Cx}
theorem qV:∀(p:Str) (l:List Str),risingS p l=true→(p::l).Pairwise fun a b=>Hw.lt b a=false
 | p,[],_=>by simp
 | p,x::r,h=>by
  have h:(!ltCps x.cps.toList p.cps.toList&&risingS x r)=true:=h
  rw [Bool.and_eq_true,Bool.not_eq_true'] at h
  have ih:=qV x r h.2
  refine List.pairwise_cons.mpr ⟨fun y hy=>?_,ih⟩
  rcases List.mem_cons.mp hy with rfl | hy
  ·exact h.1
  ·exact Hw.not_lt_trans h.1 ((List.pairwise_cons.mp ih).1 y hy)
theorem vS:∀(l:List Str),sortedS l=true→l.Pairwise fun a b=>Hw.lt b a=false
 | [],_=>.nil
 | x::r,h=>qV x r h
theorem sR:∀{ss:List Str} {us:List Value},StrsAre us ss→Vals (ss.map V.str) us
 | _,_,.nil=>.nil
 | _,_,.cons x t h=>.cons ⟨t,rfl⟩ (sR h)
theorem qX:∀{ss:List Str} {us:List Value},Vals (ss.map V.str) us→StrsAre us ss:=by
 intro ss
 induction ss with
 | nil=>intro us r;rw [List.map_nil] at r;cases r;exact .nil
 | cons x ss ih =>
  intro us r
  rw [List.map_cons] at r
  cases r with
  | cons r1 r2 =>
   obtain ⟨t,e⟩:=r1
   subst e
   exact .cons x t (ih r2)
theorem qK:∀{xs:List V} {us:List Value},xs.length=us.length→(∀(i:Nat) x,xs[i]?=some x→∃u,us[i]?=some u∧RelV x u)→Vals xs us
 | [],[],_,_=>.nil
 | [],_::_,h,_=>by simp at h
 | _::_,[],h,_=>by simp at h
 | x::xs,u::us,h,g=>by
  obtain ⟨v,e,r⟩:=g 0 x rfl
  cases e
  exact .cons r (qK (by simpa using h) fun i y hy=>g (i+1) y hy)
theorem eO.here {P:Program} {w:World} {H:Hp} {h:Heap} {a:Addr} {o:HO} (x:eO P w H h a o):∃u,h.get? a=some u:=by
 cases o with
 | lst xs=>obtain ⟨_,_,_,_,e⟩:=x;exact ⟨_,e⟩
 | tup xs=>obtain ⟨_,_,_,o,e,_⟩:=x;exact ⟨_,e⟩
 | dK kvs=>obtain ⟨_,_,_,_,o,_,_,e,_⟩:=x;exact ⟨_,e⟩
 | dT kvs=>obtain ⟨_,_,_,_,o,_,_,e,_⟩:=x;exact ⟨_,e⟩
 | set S n=>obtain ⟨o,_,_,_,e,_⟩:=x;exact ⟨_,e⟩
 | ins C dx fs=>obtain ⟨_,_,_,e,_⟩:=x;exact ⟨_,e⟩
 | own y=>obtain ⟨_,e⟩:=x;exact ⟨_,e⟩
 | xd fs=>obtain ⟨_,⟨_,_,_,e,_⟩,_⟩:=x;exact ⟨_,e⟩
 | Tu lo hi=>obtain ⟨_,_,_,e⟩:=x;exact ⟨_,e⟩
 | Bx ob u=>obtain ⟨e,_⟩:=x;exact ⟨_,e⟩
 | Lm ps=>exact ⟨_,(show h.get? a=some _ from x)⟩
 | met f y=>exact ⟨_,(show h.get? a=some _ from x)⟩
 | ext φ=>obtain ⟨_,⟨_,e⟩,_⟩:=x;exact ⟨_,e⟩
theorem Inv.Qh {pins:List (Addr×Obj)} {σ:St} {H:Hp} {s:Shared} {h':Heap} {a:Addr} {o:HO} {t':Nat} (I:Inv X pins σ H s) (k:∀b u,s.heap.get? b=some u→h'.get? b=some u) (hp:∀b u,s.heap.get? b=some u→b≠a) (new:eO X.prog X.w (upd H a o) h' a o) :
  H a=none∧Inv X pins σ (upd H a o) { s with heap:=h',toks:=t' }:=by
 have hn:H a=none:=by
  cases q:H a with
  | none=>rfl
  | some u=>obtain ⟨v,e⟩:=(I.hok a u q).here;exact absurd rfl (hp a v e)
 refine ⟨hn,I.un ⟨fun b u e _ _ _=>k b u e,fun b u e _ _ _=>⟨u.slots,k b u e⟩,fun b u e n _=>by rw [aY (hp b u e)];exact n,fun b u e _=>⟨u,k b u e⟩,fun b xs e=>by rw [aY (aE e hn)];exact e,fun b u xs e=>by rw [aY (aE e hn)];exact e,fun b ps e=>⟨#[],by rw [aY (aE e hn),e];simp⟩⟩ fun b u e=>?_⟩
 by_cases hb:b=a
 ·subst hb;rw [af] at e;cases e;exact new
 ·rw [aY hb] at e
  exact (I.hok b u e).stay (fun c v _ q=>k c v q) (fun c q=>by rw [aY (aE q hn)];exact q) fun c xs q=>by rw [aY (aE q hn)];exact q
theorem pF (hc:X.calm=true):kF X (.builtin "sorted") (fun xs H Q=>∃p kvs ss,xs=[.ref p]∧H p=some (.dK kvs)∧kvs.map (·.1)=List.map (Sum.inr:Str→Key) ss∧kvs.length<64 ∧
  ∀l ys,H l=none→List.Perm ys ss→ys.Pairwise (fun a b=>Hw.lt b a=false)→Q (.ref l) (upd H l (.lst (ys.map V.str)))):=by
 intro pins s σ H xs us Q I r h
 obtain ⟨p,kvs,ss,rfl,hp,hk,h64,q⟩:=h
 obtain ⟨u,rfl,ru⟩:=vals1 r
 cases ru
 obtain ⟨hz,lo,vs,rel,dd⟩:=vA I.hok (.inl hp)
 obtain ⟨ep,hat⟩:=dd.dictAt
 have hlv:=rel.length
 refine Calls.call_function_entry kind_sorted plain_sorted entry_sorted (args_sorted1 _) ?_
 unfold Builtin.«sorted»
 refine wpAny_bind (m:=checkCount "sorted" 1 1 _) (wpAny_pure (wpAny_bind (PySem.W.kdu_collect (A:=X.A.in1) (PySem.W.kdl_dict (knd:=fj X.prog X.w) (kvs:=vs) (ep:=ep) lo) (I.ok.hd hc) hat (by rw [←hlv];exact hz) fun h' tk acc kp hacc=>?_)))
 have hS:StrsAre acc.toList ss:=by
  refine qX (qK ?_ fun i x hx=>?_)
  ·have:(kvs.map (·.1)).length=(List.map (Sum.inr:Str→Key) ss).length:=by rw [hk]
   rw [List.length_map,List.length_map] at this
   have el:acc.toList.length=kvs.length:=by rw [Array.length_toList,hacc.1,←hlv]
   rw [List.length_map,el,this]
  ·rw [List.getElem?_map] at hx
   cases e:ss[i]? with
   | none=>rw [e] at hx;cases hx
   | some y =>
    rw [e] at hx
    cases hx
    have hi:i<acc.size:=by
     have h1:i<ss.length:=(List.getElem?_eq_some_iff.mp e).1
     have:(kvs.map (·.1)).length=(List.map (Sum.inr:Str→Key) ss).length:=by rw [hk]
     rw [List.length_map,List.length_map] at this
     rw [hacc.1];omega
    obtain ⟨k,x,hv,hkk⟩:=hacc.2 i acc[i] (by simp)
    have ek:(vs.map (·.1))[i]?=some (Sum.inr y):=by rw [←rel.keys,hk,List.getElem?_map,e];rfl
    rw [List.getElem?_map,hv] at ek
    have ek:k=Sum.inr y:=Option.some.inj ek
    subst ek
    rcases dU (show uo (Sum.inr y) acc[i]=true from hkk) with ⟨_,_,z,_⟩ | ⟨z,t,z1,z2⟩
    ·cases z
    ·cases z1
     exact ⟨acc[i],by simp,t,z2⟩
 have hla:acc.toList.length<64:=by rw [Array.length_toList,hacc.1,←hlv];exact h64
 refine wpAny_bind (wpAny_newList ?_ (by
   have:64≤sizeLine:=by rw [sizeLine_eq];decide
   omega))
 have ho:(h'.push (seqObj "list" acc.toList.toArray 0)).get? h'.objs.size=some (seqObj "list" acc.toList.toArray 0):=Heap.get?_push_size _ rfl
 refine wpAny_bind (wpAny_holding (wpAny_call_entry slot_list_sort ⟨_,ho,rfl⟩ entry_list_sort (list_sort_treeK (s:={ s with heap:=h'.push (seqObj "list" acc.toList.toArray 0),toks:=tk }) strKind_oneLt ho hS.keysOf (fun v1 v2 rest e=>keyKind_strs (by rw [←e];exact hS)) hla fun st' a1 a2=>⟨_,rfl,?_⟩) (args_list_sort _)))
 obtain ⟨ss',b1,b2,b3⟩:=sorted_out_str hS a1 a2
 obtain ⟨e,he⟩:=sortedHeap_at (out:=(arrOf st').map (·.2)) ho
 have hss:(ss'.map V.str).length≤sizeLine:=by
  have h1:64≤sizeLine:=by rw [sizeLine_eq];decide
  have h2:(ss'.map V.str).length=acc.toList.length:=by rw [List.length_map,b2.length_eq,←StrsAre.length hS]
  rw [h2]
  exact Nat.le_trans (Nat.le_of_lt hla) h1
 have L:=I.Qh (h':=sortedHeap (h'.push (seqObj "list" acc.toList.toArray 0)) h'.objs.size acc.toList ((arrOf st').map (·.2))) (a:=h'.objs.size) (o:=.lst (ss'.map V.str)) (t':=tk)
  (fun b u q=>by
   have l:=Heap.lt_size (kp b u q)
   rw [sortedHeap_old (Nat.ne_of_lt l) (by rw [Heap.size_push];exact Nat.lt_succ_of_lt l)]
   exact Heap.get?_push_of_some _ (kp b u q))
  (fun b u q=>Nat.ne_of_lt (Heap.lt_size (kp b u q)))
  ⟨hss,((arrOf st').map (·.2)).toList,e,sR b1,by rw [Array.toArray_toList];exact he⟩
 exact wpAny_pure ⟨_,rfl,.ref h'.objs.size,_,L.2,rfl,q _ ss' L.1 b2 (vS _ b3)⟩
def gT (K:PySem.W.Frag) (H:Hp):Nat→V→V→Prop
 | 0,x,y=>jg x=true∧x=y
 | n+1,x,y=>(jg x=true∧x=y)∨∃a b xs ys,x=.ref a∧y=.ref b∧((bS K H a xs∧bS K H b ys)∨(aW K H a xs∧aW K H b ys))∧Paired (gT K H n) xs ys
theorem Jc {x:V} (h:jg x=true):yj x x=true:=by
 cases x with
 | dM=>rfl
 | bl b=>simp [yj]
 | int i=>simp [yj]
 | str z=>simp [yj]
 | _=>cases h
theorem xS {F:V→V→Prop}:∀{xs ys:List V},Paired F xs ys→∀{i:Nat} {x y:V},xs[i]?=some x→ys[i]?=some y→F x y
 | _,_,.nil,_,_,_,e,_=>by simp at e
 | _,_,.cons r t,0,_,_,e,e'=>by simp at e e';rw [←e,←e'];exact r
 | _,_,.cons r t,i+1,_,_,e,e'=>xS t (by simpa using e) (by simpa using e')
theorem ig {K:PySem.W.Frag} {n:Nat} {H:Hp} {A:Around} {s:Shared} {xs ys:List V} {us vs:List Value} (p:Paired (gT K H n) xs ys) (r:Vals xs us) (r':Vals ys vs)
  (ih:∀x y u v,RelV x u→RelV y v→gT K H n x y→SeqAt.EqAt A s u v true):∀(j:Nat) (h1:j<us.toArray.size) (h2:j<vs.toArray.size),SeqAt.EqAt A s us.toArray[j] vs.toArray[j] true:=by
 intro j h1 h2
 have l1:=r.length
 have l2:=r'.length
 simp only [List.size_toArray] at h1 h2
 have e1:xs[j]?=some xs[j]:=List.getElem?_eq_getElem (by omega)
 have e2:ys[j]?=some ys[j]:=List.getElem?_eq_getElem (by omega)
 obtain ⟨u,hu,ru⟩:=r.get e1
 obtain ⟨v,hv,rv⟩:=r'.get e2
 have hu':us.toArray[j]=u:=by
  rw [List.getElem?_eq_getElem h1] at hu;simpa using hu
 have hv':vs.toArray[j]=v:=by
  rw [List.getElem?_eq_getElem h2] at hv;simpa using hv
 rw [hu',hv']
 exact ih _ _ u v ru rv (xS p e1 e2)
theorem qI (n:Nat):((List.range n).all fun _=>true)=true:=by rw [List.all_eq_true];intro _ _;rfl
theorem like_eq {pins:List (Addr×Obj)} {σ:St} {H:Hp} {s:Shared} (I:Inv X pins σ H s):∀(n:Nat) (A:Around),A.units+n<cLine→∀x y u v,RelV x u→RelV y v→gT X.K H n x y→SeqAt.EqAt A s u v true:=by
 intro n
 have flat:∀(A:Around) (x y:V) (u v:Value),RelV x u→RelV y v→jg x=true∧x=y→SeqAt.EqAt A s u v true:=by
  rintro A x y u v ru rv ⟨f,rfl⟩
  have:=Je (A:=A) (s:=s) ru rv f f
  rw [Jc f] at this
  exact this
 induction n with
 | zero=>intro A hu x y u v ru rv h;exact flat A x y u v ru rv h
 | succ n ih =>
  intro A hu x y u v ru rv h
  rcases h with h | ⟨a,b,xs,ys,rfl,rfl,h,p⟩
  ·exact flat A x y u v ru rv h
  ·cases ru
   cases rv
   have ih':=ih A.in1 (by show A.units+1+n<cLine;omega)
   by_cases hab:a=b
   ·subst hab;exact SeqAt.EqAt.same _
   ·refine .of_refs hab ?_
    have lp:xs.length=ys.length:=Paired.length p
    rcases h with ⟨ha,hb⟩ | ⟨ha,hb⟩
    ·obtain ⟨us,r1,p1,_⟩:=I.list ha
     obtain ⟨vs,r2,p2,_⟩:=I.list hb
     have l1:=r1.length
     have l2:=r2.length
     have:=SeqAt.RcAt.lists (A:=A) (e:=fun _=>true) p1.isList p2.isList (by simp only [List.size_toArray];omega) (by omega) (ig p r1 r2 ih')
     rw [qI] at this
     exact this
    ·obtain ⟨us,r1,p1,_⟩:=I.tuple ha
     obtain ⟨vs,r2,p2,_⟩:=I.tuple hb
     have l1:=r1.length
     have l2:=r2.length
     have:=SeqAt.RcAt.tuples (A:=A) (e:=fun _=>true) (show s.heap.IsTuple a us.toArray from p1) (show s.heap.IsTuple b vs.toArray from p2) (by omega) (ig p r1 r2 ih')
     have e:(us.toArray.size == vs.toArray.size)=true:=by simp only [List.size_toArray,beq_iff_eq];omega
     rw [qI,e] at this
     exact this
def xO (K:PySem.W.Frag) (n:Nat) (k:Bool):R2:=fun x y H Q=>∃a b xs ys,x=.ref a∧y=.ref b∧((bS K H a xs∧bS K H b ys)∨(aW K H a xs∧aW K H b ys))∧Paired (gT K H n) xs ys∧Q (.bl k) H
theorem lI (n:Nat) (hu:X.A.units+1+n<cLine):nV X (compareOp .Eq) (xO X.K n true):=by
 intro pins s σ H x y v u Q I rx ry h
 obtain ⟨a,b,xs,ys,rfl,rfl,h,p,q⟩:=h
 cases rx
 cases ry
 have ih':=like_eq I n X.A.in1 (by show X.A.units+1+n<cLine;omega)
 have lp:xs.length=ys.length:=Paired.length p
 have fin:EP X pins σ Q (.bool true) s:=⟨.bl true,H,I,rfl,q⟩
 rcases h with ⟨ha,hb⟩ | ⟨ha,hb⟩
 ·obtain ⟨us,r1,p1,_⟩:=I.list ha
  obtain ⟨vs,r2,p2,_⟩:=I.list hb
  have l1:=r1.length
  have l2:=r2.length
  exact SeqAt.eq_listAt (e:=fun _=>true) p1.isList p2.isList (by simp only [List.size_toArray];omega) (by omega) (ig p r1 r2 ih') (by rw [qI];exact fin)
 ·obtain ⟨us,r1,p1,_⟩:=I.tuple ha
  obtain ⟨vs,r2,p2,_⟩:=I.tuple hb
  have l1:=r1.length
  have l2:=r2.length
  have e:(us.toArray.size == vs.toArray.size)=true:=by simp only [List.size_toArray,beq_iff_eq];omega
  exact SeqAt.eq_tupleAt (e:=fun _=>true) (show s.heap.IsTuple a us.toArray from p1) (show s.heap.IsTuple b vs.toArray from p2) (by omega) (ig p r1 r2 ih') (by rw [qI,e];exact fin)
theorem jG (n:Nat) (hu:X.A.units+1+n<cLine):nV X (compareOp .NotEq) (xO X.K n false):=by
 intro pins s σ H x y v u Q I rx ry h
 obtain ⟨a,b,xs,ys,rfl,rfl,h,p,q⟩:=h
 cases rx
 cases ry
 have ih':=like_eq I n X.A.in1 (by show X.A.units+1+n<cLine;omega)
 have lp:xs.length=ys.length:=Paired.length p
 have fin:EP X pins σ Q (.bool false) s:=⟨.bl false,H,I,rfl,q⟩
 rcases h with ⟨ha,hb⟩ | ⟨ha,hb⟩
 ·obtain ⟨us,r1,p1,_⟩:=I.list ha
  obtain ⟨vs,r2,p2,_⟩:=I.list hb
  have l1:=r1.length
  have l2:=r2.length
  exact SeqAt.RcNeAt.lists (A:=X.A) (e:=fun _=>true) p1.isList p2.isList (by simp only [List.size_toArray];omega) (by omega) (ig p r1 r2 ih') _ _ _ _ (by rw [qI];exact fin)
 ·obtain ⟨us,r1,p1,_⟩:=I.tuple ha
  obtain ⟨vs,r2,p2,_⟩:=I.tuple hb
  have l1:=r1.length
  have l2:=r2.length
  have e:(us.toArray.size == vs.toArray.size)=true:=by simp only [List.size_toArray,beq_iff_eq];omega
  exact SeqAt.RcNeAt.tuples (A:=X.A) (e:=fun _=>true) (show s.heap.IsTuple a us.toArray from p1) (show s.heap.IsTuple b vs.toArray from p2) (by omega) (ig p r1 r2 ih') _ _ _ _ (by rw [qI,e];exact fin)
def rJoin:V→List V→Hp→VK→Prop:=fun x vs H Q=>∃sep p ss,x=.str sep∧vs=[.ref p]∧H p=some (.lst (List.map V.str ss))∧(ss.map (·.length)).sum+ss.length*sep.length≤16777216∧Q (.str (Txt.join sep ss)) H
theorem Kg:Vx X "str.join" rJoin:=by
 intro pins s σ H x vs v us Q I rx rv h
 obtain ⟨sep,p,ss,rfl,rfl,hp,hz,q⟩:=h
 obtain ⟨t,rfl⟩:=rx
 obtain ⟨u,rfl,ru⟩:=rv.one
 cases ru
 obtain ⟨its,r,pl,_⟩:=I.list (bS.of hp)
 exact join_list pl.isList (by simpa using qX r) hz fun t' k=>⟨.str _,H,I.tok _,⟨_,rfl⟩,q⟩
def Xh (K:PySem.W.Frag) (c:V):List V→Hp→VK→Prop:=fun vs H Q=>∃x t u b,vs=[x,c]∧nR K H x t∧RelV c u∧PySem.W.kitOne K t u=some b∧Q (.bl b) H
theorem RelV.a2O {c:V} {u u':Value} (hc:match c with | .ref _=>True | .ty _=>True | _=>False) (r:RelV c u) (r':RelV c u'):u=u':=by
 cases c with
 | ref a=>cases r;cases r';rfl
 | ty n=>cases r;cases r';rfl
 | _=>exact hc.elim
theorem eV {c:V} (hc:match c with | .ref _=>True | .ty _=>True | _=>False):kF X (.builtin "isinstance") (Xh X.K c):=by
 intro pins s σ H xs us Q I r h
 obtain ⟨x,t,u,b,rfl,ty,rc,hb,q⟩:=h
 obtain ⟨w1,w2,rfl,rx,r2⟩:=vals2 r
 rw [RelV.a2O hc r2 rc]
 exact Ds I rx ty hb fun tk=>⟨.bl b,H,I.tok _,rfl,q⟩
def Lx (K:PySem.W.Frag):R2:=fun x y H Q=>∃a b xs ys,x=.ref a∧y=.ref b∧aW K H a xs∧aW K H b ys∧xs.length+ys.length≤sizeLine ∧
 (xs=[]→Q (.ref b) H)∧(xs≠[]→ys=[]→Q (.ref a) H)∧(xs≠[]→ys≠[]→∀p,H p=none→Q (.ref p) (upd H p (.tup (xs++ys))))
theorem ki:nV X (binaryOp .Add) (Lx X.K):=by
 intro pins s σ H x y v u Q I rx ry h
 obtain ⟨a,b,xs,ys,rfl,rfl,ha,hb,hz,q0,q1,q2⟩:=h
 by_cases hx:xs=[]
 ·cases rx
  cases ry
  obtain ⟨its,r1,p1,_⟩:=I.tuple ha
  obtain ⟨its2,r2,p2,_⟩:=I.tuple hb
  obtain ⟨⟨cls,dd,data,sl⟩,ho,hc,n,hd⟩:=id p1
  obtain ⟨⟨a6S,dd2,data2,sl2⟩,ho2,hc2,n2,hd2⟩:=id p2
  simp only at hc hd hc2 hd2
  subst hc hd hc2 hd2
  have hi:its=[]:=r1.sf.mpr hx
  refine concat_meets ⟨_,ho,rfl⟩ ⟨_,ho2,rfl⟩ noFill_tuple_add seq_tuple_add PySem.F.slot_tuple_add PySem.F.entry_tuple_add (PySem.F.args_tuple_add_2 _ _)
   (tuple_addW0 a b its.toArray its2.toArray n n2 dd dd2 sl sl2 (by simp [hi])) ⟨ho,ho2,?_⟩
  exact ⟨.ref b,H,I,rfl,q0 hx⟩
 ·exact J6 pins s σ H _ _ v u Q I rx ry ⟨a,b,xs,ys,rfl,rfl,ha,hb,hx,hz,q1 hx,fun hy=>q2 hx hy⟩
def Xf (K:PySem.W.Frag):R2:=fun x y H Q=>∃p xs k v,x=.ref p∧y=.int (k:Nat)∧bS K H p xs∧xs[k]?=some v∧Q v H
theorem I8:SJ X (Xf X.K):=by
 intro pins s σ H o i ov iv Q I ro ri h
 obtain ⟨p,xs,k,v,rfl,rfl,hq,he,q⟩:=h
 cases ro
 obtain ⟨t,rfl⟩:=ri
 obtain ⟨its,r,pl,hz⟩:=I.list hq
 obtain ⟨w,ew,rw'⟩:=r.get he
 have hk:k<xs.length:=(List.getElem?_eq_some_iff.mp he).1
 have hn:=qz
 exact wpAny_getItem_list pl.isList (by omega) (by omega) (by simpa using ew) ⟨v,H,I,rw',q⟩
end
end L2
namespace Hw
open PySem L2
theorem new {H:Hp} {p:Addr} {o:HO} (h:H p=none):aH H (upd H p o):=fun b u e=>by rw [aY (aE e h)];exact e
def bz (d:Addr) (H H':Hp):Prop:=∀b o,H b=some o→b≠d→H' b=some o
theorem bz.of {d:Addr} {H H':Hp} (h:aH H H'):bz d H H':=fun b o e _=>h b o e
theorem bz.trans {d:Addr} {H H1 H2:Hp} (a:bz d H H1) (b:bz d H1 H2):bz d H H2:=fun c o e n=>b c o (a c o e n) n
theorem bz.upd {d:Addr} {H:Hp} {o:HO}:bz d H (L2.upd H d o):=fun b u e n=>by rw [aY n];exact e
theorem bz.new {d:Addr} {H H1:Hp} {p:Addr} {o:HO} (a:bz d H H1) (h:H1 p=none):bz d H (L2.upd H1 p o):=fun b u e n=>Hw.new h b u (a b u e n)
theorem aH.new {H H1:Hp} {p:Addr} {o:HO} (a:aH H H1) (h:H1 p=none):aH H (L2.upd H1 p o):=a.trans (Hw.new h)
theorem bz.back {d:Addr} {H H0 H1:Hp} (s:aH H0 H) (a:bz d H H1) (h:H0 d=none):aH H0 H1:=fun b u e=>a b u (s b u e) (aE e h)
def Pr (H:Hp) (v:V) (p:Str×Int):Prop:=∃a,v=.ref a∧H a=some (.tup [.str p.1,.int p.2])
abbrev yD (H:Hp):List V→Ps→Prop:=Paired (Pr H)
theorem Pr.keep {H H':Hp} {v:V} {p:Str×Int} (h:∀a xs,H a=some (.tup xs)→H' a=some (.tup xs)) (x:Pr H v p):Pr H' v p:=let ⟨a,e,q⟩:=x;⟨a,e,h _ _ q⟩
theorem yD.keep {H H':Hp} {vs:List V} {ps:Ps} (h:∀a xs,H a=some (.tup xs)→H' a=some (.tup xs)) (x:yD H vs ps):yD H' vs ps:=L2.Paired.cQ x fun _ _ q=>q.keep h
def Lp (H:Hp) (a:Addr) (ps:Ps):Prop:=∃vs,H a=some (.lst vs)∧yD H vs ps
def Tp (H:Hp) (a:Addr) (ps:Ps):Prop:=∃vs,H a=some (.tup vs)∧yD H vs ps
theorem Lp.same {H H':Hp} {a:Addr} {ps:Ps} (h:Lp H a ps) (s:aH H H'):Lp H' a ps:=let ⟨vs,e,q⟩:=h;⟨vs,s _ _ e,q.keep fun _ _ z=>s _ _ z⟩
theorem Tp.same {H H':Hp} {a:Addr} {ps:Ps} (h:Tp H a ps) (s:aH H H'):Tp H' a ps:=let ⟨vs,e,q⟩:=h;⟨vs,s _ _ e,q.keep fun _ _ z=>s _ _ z⟩
theorem Fo {H:Hp}:∀{vs:List V} {ps:Ps},yD H vs ps→∀{i:Nat} {v:V},vs[i]?=some v→∃p,ps[i]?=some p∧Pr H v p
 | _,_,.nil,_,_,e=>by simp at e
 | _,_,.cons r t,0,_,e=>by simp at e;subst e;exact ⟨_,rfl,r⟩
 | _,_,.cons r t,i+1,_,e=>Fo t (i:=i) (by simpa using e)
theorem kg {H:Hp} {vs:List V} {ps:Ps} (h:yD H vs ps):vs.length=ps.length:=Paired.length h
theorem rZ {H:Hp}:∀{vs ws:List V} {ps qs:Ps},yD H vs ps→yD H ws qs→yD H (vs++ws) (ps++qs)
 | _,_,_,_,.nil,s=>s
 | _,_,_,_,.cons r t,s=>.cons r (rZ t s)
theorem oF {H:Hp} {v:V} {p:Str×Int} (h:Pr H v p):yD H [v] [p]:=.cons h .nil
theorem xP {K:PySem.W.Frag} {H:Hp}:∀{vs ws:List V} {ps:Ps},yD H vs ps→yD H ws ps→Paired (gT K H 1) vs ws
 | _,_,_,.nil,.nil=>.nil
 | _,_,_,.cons ⟨a,ea,ha⟩ t,.cons ⟨b,eb,hb⟩ t'=>.cons (.inr ⟨a,b,_,_,ea,eb,.inr ⟨aW.of ha,aW.of hb⟩,.cons ⟨rfl,rfl⟩ (.cons ⟨rfl,rfl⟩ .nil)⟩) (xP t t')
theorem qA {K:PySem.W.Frag} {H:Hp} {n:Nat}:∀{vs:List V},vs.all jg=true→Paired (gT K H n) vs vs
 | [],_=>.nil
 | x::r,h=>by
  rw [List.all_cons,Bool.and_eq_true] at h
  refine .cons ?_ (qA h.2)
  cases n with
  | zero=>exact ⟨h.1,rfl⟩
  | succ n=>exact .inl ⟨h.1,rfl⟩
def enc (d:Ps):List (Key×V):=d.map fun p=>(Sum.inr p.1,V.int p.2)
theorem yk (d:Ps):(enc d).map (·.1)=List.map (Sum.inr:Str→Key) (keys d):=by
 unfold enc keys
 rw [List.map_map,List.map_map];rfl
theorem sr (d:Ps):(enc d).length=d.length:=List.length_map ..
theorem wZ (t:Str):∀d:Ps,mP (enc d) (Sum.inr t)=if t∈keys d then some (V.int (get d t)) else none
 | []=>by simp [enc,mP,keys]
 | p::r=>by
  have ih:=wZ t r
  show mP ((Sum.inr p.1,V.int p.2)::enc r) (Sum.inr t)=_
  by_cases e:p.1=t
  ·rw [nX (by simp [e]),jf,if_pos e,if_pos (by simp [keys,e])]
  ·have e':¬t=p.1:=fun z=>e z.symm
   have hk:t∈keys (p::r)↔t∈keys r:=by
    unfold keys
    rw [List.map_cons,List.mem_cons]
    exact ⟨fun h=>h.resolve_left e',.inr⟩
   rw [nY (by simpa using e),ih,jf,if_neg e]
   simp only [hk]
theorem Jf (d:Ps) (t:Str):(mP (enc d) (Sum.inr t)).getD (V.int 0)=V.int (get d t):=by
 rw [wZ]
 by_cases h:t∈keys d
 ·rw [if_pos h];rfl
 ·rw [if_neg h,Bw h];rfl
theorem KD (d:Ps) (t:Str):((enc d).any fun kv=>decide (kv.1=(Sum.inr t:Key)))=d.any fun p=>decide (p.1=t):=by
 unfold enc
 rw [List.any_map]
 congr 1
 funext p
 simp
theorem CF (d:Ps) (t:Str) (n:Int):putK (enc d) (Sum.inr t) (V.int n)=enc (put d t n):=by
 unfold putK put
 rw [KD]
 split
 ·unfold enc
  rw [List.map_map,List.map_map]
  refine List.map_congr_left fun p _=>?_
  by_cases e:p.1=t
  ·simp [e]
  ·simp [e]
 ·unfold enc
  rw [List.map_append];rfl
def qR (t:Addr) (n:Int):List (Str×V):=bu "number" (.int n) (bu "terms" (.ref t) [])
theorem tn:¬(("terms":Str)="number"):=by decide +kernel
theorem dR (t:Addr) (n:Int):(qR t n).lookup ("terms":Str)=some (.ref t):=by
 unfold qR
 rw [bF,if_neg tn,bF,if_pos rfl]
theorem dI (t:Addr) (n:Int):(qR t n).lookup ("number":Str)=some (.int n):=by
 unfold qR
 rw [bF,if_pos rfl]
theorem fX (t:Addr) (n:Int) {m:Str} (h1:¬m="terms") (h2:¬m="number"):(qR t n).lookup m=none:=by
 unfold qR
 rw [bF,if_neg h2,bF,if_neg h1]
 all_goals rfl
def ji (C:Addr) (H:Hp) (p:Addr) (ts:Ps) (n:Int):Prop:=∃dx t,H p=some (.ins C dx (qR t n))∧Tp H t ts∧ts.length≤1000
theorem ji.same {C:Addr} {H H':Hp} {p:Addr} {ts:Ps} {n:Int} (h:ji C H p ts n) (s:aH H H'):ji C H' p ts n:=let ⟨dx,t,e,q,z⟩:=h;⟨dx,t,s _ _ e,q.same s,z⟩
end Hw
namespace Hw
open PySem L2
def Dn (P:Program) (w:World) (K:PySem.W.Frag) (mg:Str→Option Value) (base:Heap) (k:Nat) (x:Str) (ps:List Str) (sp:Sp):Prop :=
 ∃(f:Addr) (fd:FuncData),bH P w K mg base dg k f fd ps sp∧mg x=some (.ref f)∧PySem.W.keepIn K (.ref f)=true∧Binds K fd ps []
def Mt (P:Program) (w:World) (K:PySem.W.Frag) (mg:Str→Option Value) (base:Heap) (k:Nat) (C:Addr) (m:Str) (ps:List Str) (sp:Sp):Prop :=
 ∃(f:Addr) (fd:FuncData),bH P w K mg base dg k f fd ps sp∧Meth K C m f∧Binds K fd ps []
def Mr (P:Program) (w:World) (K:PySem.W.Frag) (mg:Str→Option Value) (base:Heap) (k:Nat) (C:Addr) (ps:List Str) (sp:Sp):Prop :=
 ∃(f:Addr) (fd:FuncData),bH P w K mg base dg k f fd ps sp∧Mk K C f∧Binds K fd ps []
structure Txt (K:PySem.W.Frag) (mg:Str→Option Value) (C:Addr):Prop where
 cl:uY K C
 nT:eZ K C "terms"
 nN:eZ K C "number"
 Nr:mg "Sum"=some (.ref C)
 len:mg "len"=none
 sum:mg "sum"=none
 sorted:mg "sorted"=none
 list:mg "list"=none
 tuple:mg "tuple"=none
 isinstance:mg "isinstance"=none
 range:mg "range"=none
 abs:mg "abs"=none
 str:mg "str"=none
 int:mg "int"=none
 dict:mg "dict"=none
 ca:PySem.W.findIn K (.ref C) "__class__"=some (some (.builtin "object.__class__"))
 cg:PySem.W.specialIn K (.builtin "object.__class__") "__get__"=some (some (.builtin "getset_descriptor.__get__"))
 ct:PySem.W.takesIn K (.builtin "object.__class__")=some true
 cm:PySem.W.mroIn K C (.type "object")=some true
 kS:PySem.W.kitOne K (.ref C) (.ref C)=some true
 kT:PySem.W.kitOne K (.type "tuple") (.type "tuple")=some true
def Sq (H:Hp) (a:Addr) (ps:Ps):Prop:=Lp H a ps∨Tp H a ps
theorem Sq.same {H H':Hp} {a:Addr} {ps:Ps} (h:Sq H a ps) (s:aH H H'):Sq H' a ps:=h.elim (fun z=>.inl (z.same s)) fun z=>.inr (z.same s)
def AW (C:Addr):Sp:=fun vs H Q _=>∃(p dx l:Addr) (n:Int) (ps:Ps),vs=[.ref p,.ref l,.int n]∧H p=some (.ins C dx [])∧Sq H l ps∧ps.length≤1000 ∧
 ∀H',bz p H H'→ji C H' p ps n→Q .dM H'
def vP (C:Addr):Sp:=fun vs H Q _=>∃(a:Addr) (n:Int) (ps:Ps),vs=[.ref a,.int n]∧Sq H a ps∧ps.length<64 ∧
 ∀(r:Addr) (ts:Ps) (H':Hp),aH H H'→Gat ps ts→ts.length≤ps.length→ji C H' r ts n→Q (.ref r) H'
end Hw
namespace Hw
open PySem L2
structure Kp (H H':Hp):Prop where
 l:∀b xs,H b=some (.lst xs)→H' b=some (.lst xs)
 t:∀b xs,H b=some (.tup xs)→H' b=some (.tup xs)
theorem Kp.refl {H:Hp}:Kp H H:=⟨fun _ _ h=>h,fun _ _ h=>h⟩
theorem Kp.but {d:Addr} {H H':Hp} (s:bz d H H') (hl:∀xs,H d≠some (.lst xs)) (ht:∀xs,H d≠some (.tup xs)):Kp H H' :=
 ⟨fun b xs h=>s b _ h fun z=>hl xs (z▸h),fun b xs h=>s b _ h fun z=>ht xs (z▸h)⟩
theorem take_snoc {α:Type} {l:List α} {i:Nat} {x:α} (h:l[i]?=some x):l.take (i+1)=l.take i++[x]:=by
 rw [List.take_add_one,h];rfl
theorem get_some {H:Hp} {vs:List V} {ps:Ps} (r:yD H vs ps) {i:Nat} {v:V} (h:vs[i]?=some v):∃p,ps[i]?=some p∧Pr H v p:=Fo r h
theorem KJ {K:PySem.W.Frag} {a:Addr} {ps:Ps} {g:TG} {tt:TT} {te:TE} {σ0:St} {H:Hp} {R:List V→Hp→Prop} (h:Tp H a ps) (Pv:Nat→List V→Hp→Prop) (h0:Pv 0 [] H) (hS:∀i ys H',Pv i ys H'→Kp H H')
  (hs:∀i v p ys H',ps[i]?=some p→Pr H' v p→Pv i ys H'→g v σ0 H' fun σ2 H2=>Ext σ0 σ2∧tt σ2 H2 fun b H3=>if b=true then te σ2 H3 fun v H4=>ys.length<sizeLine∧Pv (i+1) (ys++[v]) H4 else Pv (i+1) ys H3)
  (hd:∀ys H',Pv ps.length ys H'→R ys H'):(∃xs,aW K H a xs)∧∃W:Nat→Nat→List V→Hp→Prop,(∃m,W 0 m [] H)∧rC (JM K a) g tt te σ0 W R:=by
 obtain ⟨vs,e,r⟩:=h
 refine ⟨⟨vs,aW.of e⟩,cT (xs:=vs) Pv h0 (fun i ys H' _ p=>aW.of ((hS i ys H' p).t _ _ e)) (fun i v ys H' hi p=>?_) ?_⟩
 ·obtain ⟨q,hq,pr⟩:=get_some r hi
  exact hs i v q ys H' hq (pr.keep (hS i ys H' p).t) p
 ·rw [kg r];exact hd
theorem KL {K:PySem.W.Frag} {a:Addr} {ps:Ps} {g:TG} {tt:TT} {te:TE} {σ0:St} {H:Hp} {R:List V→Hp→Prop} (h:Sq H a ps) (Pv:Nat→List V→Hp→Prop) (h0:Pv 0 [] H) (hS:∀i ys H',Pv i ys H'→Kp H H')
  (hs:∀i v p ys H',ps[i]?=some p→Pr H' v p→Pv i ys H'→g v σ0 H' fun σ2 H2=>Ext σ0 σ2∧tt σ2 H2 fun b H3=>if b=true then te σ2 H3 fun v H4=>ys.length<sizeLine∧Pv (i+1) (ys++[v]) H4 else Pv (i+1) ys H3)
  (hd:∀ys H',Pv ps.length ys H'→R ys H'):((∃xs,bS K H a xs)∧∃W:Nat→Nat→List V→Hp→Prop,(∃m,W 0 m [] H)∧rC (KY K a) g tt te σ0 W R)∨((∃xs,aW K H a xs)∧∃W:Nat→Nat→List V→Hp→Prop,(∃m,W 0 m [] H)∧rC (JM K a) g tt te σ0 W R):=by
 rcases h with h | h
 ·obtain ⟨vs,e,r⟩:=h
  refine .inl ⟨⟨vs,bS.of e⟩,eS (xs:=vs) Pv h0 (fun i ys H' _ p=>bS.of ((hS i ys H' p).l _ _ e)) (fun i v ys H' hi p=>?_) ?_⟩
  ·obtain ⟨q,hq,pr⟩:=get_some r hi
   exact hs i v q ys H' hq (pr.keep (hS i ys H' p).t) p
  ·rw [kg r];exact hd
 ·exact .inr (KJ h Pv h0 hS hs hd)
abbrev SQ (J:It) (g:TG) (tb:TS) (D:Ends) (σ:St) (H:Hp):Prop:=∃W:Nat→Nat→St→Hp→Prop,(∃m,W 0 m σ H)∧∀i m σ H,W i m σ H →
 (J.stop i H∧D.nx σ H)∨(J.go i H∧∃N:St→Hp→Prop,(∀σ' H',N σ' H'→∃m',m'<m∧W (i+1) m' σ' H')∧∀x H',J.Mi i H x H'→g x σ H' fun σ2 H2=>tb { D with nx:=N,ct:=N,bk:=D.nx } σ2 H2)
theorem N3 {K:PySem.W.Frag} {a:Addr} {ps:Ps} {g:TG} {tb:TS} {D:Ends} {σ:St} {H:Hp} (h:Sq H a ps) (Pv:Nat→St→Hp→Prop) (h0:Pv 0 σ H) (hS:∀i σ H',Pv i σ H'→Kp H H')
  (hs:∀i v p σ H',ps[i]?=some p→Pr H' v p→Pv i σ H'→g v σ H' fun σ2 H2=>tb { D with nx:=Pv (i+1),ct:=Pv (i+1),bk:=D.nx } σ2 H2) (hd:∀σ H',Pv ps.length σ H'→D.nx σ H') :
  ((∃xs,bS K H a xs)∧SQ (KY K a) g tb D σ H)∨((∃xs,aW K H a xs)∧SQ (JM K a) g tb D σ H):=by
 rcases h with ⟨vs,e,r⟩ | ⟨vs,e,r⟩
 ·refine .inl ⟨⟨vs,bS.of e⟩,yh (xs:=vs) Pv h0 (fun i σ H' _ p=>bS.of ((hS i σ H' p).l _ _ e)) (fun i v σ H' hi p=>?_) ?_⟩
  ·obtain ⟨q,hq,pr⟩:=get_some r hi
   exact hs i v q σ H' hq (pr.keep (hS i σ H' p).t) p
  ·rw [kg r];exact hd
 ·refine .inr ⟨⟨vs,aW.of e⟩,wW (xs:=vs) Pv h0 (fun i σ H' _ p=>aW.of ((hS i σ H' p).t _ _ e)) (fun i v σ H' hi p=>?_) ?_⟩
  ·obtain ⟨q,hq,pr⟩:=get_some r hi
   exact hs i v q σ H' hq (pr.keep (hS i σ H' p).t) p
  ·rw [kg r];exact hd
theorem line (n:Nat) (h:n≤100000):n<sizeLine:=by rw [sizeLine_eq];omega
theorem szl (n:Nat) (h:n≤100000:=by decide):n≤sizeLine:=Nat.le_of_lt (line n h)
theorem BK {H:Hp} {d:Addr} {x y:HO}:upd (upd H d x) d y=upd H d y:=by
 funext b
 by_cases e:b=d
 ·subst e;rw [af,af]
 ·rw [aY e,aY e,aY e]
theorem Kp.dict {H:Hp} {d:Addr} {x y:List (Key×V)}:Kp (upd H d (.dK x)) (upd H d (.dK y)):=by
 constructor
 ·intro b xs h
  by_cases e:b=d
  ·subst e;rw [af] at h;cases h
  ·rw [aY e] at h ⊢;exact h
 ·intro b xs h
  by_cases e:b=d
  ·subst e;rw [af] at h;cases h
  ·rw [aY e] at h ⊢;exact h
theorem tY {H:Hp} {d:Addr} {e:Ps} {t:Str} (h:H d=some (.dK (enc e))) (m:t∈keys e):uX H d (.str t) (some (.int (get e t))):=by
 have q:=uX.k (k:=(Sum.inr t:Key)) h
 rw [wZ,if_pos m] at q
 exact q
theorem vg (e:Ps) (ys:List Str) (y:Str):outs e (ys++[y])=outs e ys++if get e y=0 then [] else [(y,get e y)]:=by
 unfold outs
 rw [List.map_append,List.filter_append]
 congr 1
 by_cases h:get e y=0
 ·rw [if_pos h];simp [h]
 ·rw [if_neg h];simp [h]
theorem tV (e:Ps) (ys:List Str):(outs e ys).length≤ys.length:=by
 unfold outs
 exact Nat.le_trans (List.length_filter_le _ _) (by rw [List.length_map];exact Nat.le_refl _)
end Hw
namespace L2
open PySem PySem.Spec PyProof.Rows
section
variable {X:Cx} {K:PySem.W.Frag}
theorem Cu (h:X.K=K):SO X (Pw K):=h▸aI
theorem lU (h:X.K=K):kF X (.type "tuple") (fun xs H Q=>∃p ys,xs=[.ref p]∧((bS K H p ys∧∀l,H l=none→Q (.ref l) (upd H l (.tup ys)))∨(aW K H p ys∧Q (.ref p) H))):=h▸aK
theorem uR (h:X.K=K):kF X (.type "list") (fun xs H Q=>∃p ys,xs=[.ref p]∧(bS K H p ys∨aW K H p ys)∧∀l,H l=none→Q (.ref l) (upd H l (.lst ys))):=h▸gh
theorem Cj {e:Expr} {f:Str} {pos:Pos} {ta:TE} (h:X.K=K) (he:PE X e ta) (hb:attributeBase e f X.env (eval e X.env)=eval e X.env):PE X (.Attribute e f pos) (Pc K ta f):=h▸aG he hb
theorem oH {es:List Expr} {k:Nat} {t:LU} {n:Nat} {pos:Pos} (hK:X.K=K) (hc:X.calm=true) (h:SI X es t) (hn:(assignEach es X.env).length=n:=by rfl) (hst:(assignEach es X.env).findIdx? (·.1)=none:=by rfl) :
  PG X (.Tuple es k pos) (QC K n t):=hK▸pZ hc h hn hst
theorem gk {σ:St} {H:Hp} {F G:Hp→Prop} (h:F H):BO σ H (fun b H3=>if b=true then F H3 else G H3):=by
 show if true=true then F H else G H
 exact qD h
def strsOf:List Expr→Option (List Str)
 | []=>some []
 | .Constant (.str x) _ _::r=>(strsOf r).map (x::·)
 | _=>none
def Lo (xs:List Str):TA:=fun _ H Q=>Q (xs.map V.str) H
theorem oJ:∀{es:List Expr} {xs:List Str},strsOf es=some xs→PA X es (Lo xs)
 | [],xs,h=>by
  cases h
  exact ah
 | e::r,xs,h=>by
  unfold strsOf at h
  split at h
  ·rename_i he;cases he
  ·rename_i x j pos r' he
   cases he
   cases q:strsOf r with
   | none=>rw [q] at h;cases h
   | some ys =>
    rw [q] at h
    cases h
    have ih:=oJ q
    exact di bf ih rfl
  ·cases h
def xX:Expr→Option (List Str)
 | .List es _=>strsOf es
 | _=>none
theorem v9 {xs:List Str}:∀{e:Expr},xX e=some xs→PE X e (Pb (Lo xs))
 | .List es pos,h=>cP (oJ h)
theorem BP {xs:List Str} {t:Option Expr} {n:Nat} {env:Env}:∀{e:Expr},xX e=some xs→swapsWith e t n env=pure false
 | .List es pos,h=>rfl
def Ot (s:Stmt):Expr:=match s with | .Assign _ e _=>e | _=>.Constant .none 0 ⟨0,0,0,0⟩
def Xa (s:Stmt):Expr:=match s with | .Return (some e) _=>e | _=>.Constant .none 0 ⟨0,0,0,0⟩
def MF (s:Expr):Expr:=match s with | .BinOp _ _ e _=>e | _=>.Constant .none 0 ⟨0,0,0,0⟩
end
end L2
namespace L2
open PySem PySem.Spec PyProof.Rows
section
variable {X:Cx} {K:PySem.W.Frag}
end
end L2
namespace HT
open PySem PySem.Spec PyProof.Rows
section
variable {prog:Program} {w:World} {A:Around} {E:Value→Shared→Prop} {s:Shared}
end
end HT
namespace L2
open PySem PySem.Spec PyProof.Rows
section
variable {X:Cx} {K:PySem.W.Frag}
end
end L2
namespace L2
open PySem PySem.Spec PyProof.Rows
section
variable {X:Cx} {K:PySem.W.Frag}
variable {o e:Expr} {to:TE} {apos cpos:Pos}
def MH (K:PySem.W.Frag):R2:=fun x y H Q=>∃a b xs,x=.ref a∧y=.ref b∧bS K H a xs∧bS K H b []∧Q (.bl (!decide (xs=[]))) H
theorem jO (hu:X.A.units<cLine):nV X (compareOp .NotEq) (MH X.K):=by
 intro pins s σ H x y v u Q I rx ry h
 obtain ⟨a,b,xs,rfl,rfl,ha,hb,q⟩:=h
 cases rx
 cases ry
 obtain ⟨us,r1,p1,_⟩:=I.list ha
 obtain ⟨vs,r2,p2,_⟩:=I.list hb
 cases r2
 have l1:=r1.length
 by_cases hx:xs=[]
 ·rw [decide_eq_true hx] at q
  subst hx
  cases r1
  exact SeqAt.RcNeAt.lists (A:=X.A) (e:=fun _=>true) p1.isList p2.isList rfl hu (fun j h1 h2=>absurd h2 (by simp)) _ _ _ _ ⟨.bl false,H,I,rfl,q⟩
 ·rw [decide_eq_false hx] at q
  have:us≠[]:=fun z=>hx (by rw [z] at l1;exact List.length_eq_zero_iff.mp l1)
  refine SeqAt.RcNeAt.lists_lengths (A:=X.A) p1.isList p2.isList ?_ hu _ _ _ _ ⟨.bl true,H,I,rfl,q⟩
  cases us with
  | nil=>exact absurd rfl this
  | cons _ _=>simp
end
end L2
namespace L2
open PySem PySem.Spec PyProof.Rows
section
variable {X:Cx} {e:Expr} {te:TE}
end
end L2
namespace Hw
open PySem L2
theorem uL {A:Around} {k n:Nat} (hr:dD k A) (h:n≤60:=by decide):A.units+1+n<cLine:=by have:=hr.units;omega
theorem uN {A:Around} {k:Nat} (hr:dD k A):A.units<cLine:=by have:=hr.units;omega
def Dr (H:Hp) (d:Addr):Prop:=∃a b:Int,H d=some (.lst [.int a,.int b])
theorem Dr.same {H H':Hp} {d:Addr} (h:Dr H d) (s:aH H H'):Dr H' d:=let ⟨a,b,e⟩:=h;⟨a,b,s _ _ e⟩
def rW:Sp:=fun vs H Q _=>∃c k:Int,vs=[.int c,.int k]∧∀r:Int,0≤r→r<2147483399→Q (.int r) H
def kM (K:PySem.W.Frag):Sp:=fun vs H Q _=>∃(a:Addr) (ns:List Int) (k:Nat),vs=[.ref a,.int k]∧bS K H a (ns.map V.int)∧∀r:Int,Q (.int r) H
def dJ:Sp:=fun vs H Q _=>∃(d:Addr) (n:Int),vs=[.ref d,.int n]∧Dr H d∧0<n∧∀(r:Nat) (H':Hp),(r:Int)<n→bz d H H'→Dr H' d→Q (.int r) H'
def HY:List Str:=["helper","answers","needs","gives","end","let","div","mod","put","row","at","if","else"]
def HX:List Str:=["while","holds","falls","call","claim","and","or","not"]
def gj:List Str:=HY++HX
def vQ:Sp:=fun vs H Q _=>vs=[]∧∀(l:Addr) (H':Hp),aH H H'→H l=none→H' l=some (.lst (gj.map V.str))→Q (.ref l) H'
def dN (H:Hp) (r:Addr) (ts:Ps) (n:Int):Prop:=∃t,H r=some (.tup [.ref t,.int n])∧Tp H t ts
theorem dN.same {H H':Hp} {r:Addr} {ts:Ps} {n:Int} (h:dN H r ts n) (s:aH H H'):dN H' r ts n:=let ⟨t,e,q⟩:=h;⟨t,s _ _ e,q.same s⟩
def BV (K:PySem.W.Frag):Sp:=fun vs H Q _=>∃(a:Addr) (ns:List Int),vs=[.ref a]∧bS K H a (ns.map V.int)∧ns.length≤63∧∀H',Q (.bl true) H'
end Hw
namespace Hw
open PySem L2
def uC:Str:="abcdefghijklmnopqrstuvwxyz"
theorem KR:uC.cps.toList=(List.range 26).map (97+·):=by decide +kernel
theorem fR:uC.length≤sizeLine:=Nat.le_of_lt (line _ (by decide +kernel))
theorem Jr {r:Nat} (h:r<26):vJ uC.cps.toList (r:Int)=some (97+r):=bI (by rw [KR,List.getElem?_map,List.getElem?_range h];rfl)
theorem gi (i:Int):vJ uC.cps.toList (i % 26)=some (97+(i % 26).toNat):=by
 have h0:=Int.emod_nonneg i (show (26:Int)≠0 by decide)
 have h1:=Int.emod_lt_of_pos i (show (0:Int)<26 by decide)
 have e:i % 26=((i % 26).toNat:Int):=(Int.toNat_of_nonneg h0).symm
 have:=Jr (r:=(i % 26).toNat) (by omega)
 rw [←e] at this
 exact this
def jP:List Str:=["lets","ifs","order","rows","att","notes","calls","ends","outlet","bend","motor","modes"]
theorem Dp:jP.length=12:=rfl
theorem Dl (i:Int):∃x,x∈jP∧vJ (jP.map V.str) (i % 12)=some (V.str x):=by
 have h0:=Int.emod_nonneg i (show (12:Int)≠0 by decide)
 have h1:=Int.emod_lt_of_pos i (show (0:Int)<12 by decide)
 have e:i % 12=((i % 12).toNat:Int):=(Int.toNat_of_nonneg h0).symm
 have hl:(i % 12).toNat<jP.length:=by rw [Dp];omega
 refine ⟨jP[(i % 12).toNat],List.getElem_mem hl,?_⟩
 have:=bI (xs:=jP.map V.str) (j:=(i % 12).toNat) (v:=V.str jP[(i % 12).toNat]) (by rw [List.getElem?_map,List.getElem?_eq_getElem hl];rfl)
 rw [←e] at this
 exact this
abbrev yw (c:Nat):Str:=⟨#[c]⟩
def zw (a b:Nat):Str:=(("z":Str)++yw a)++yw b
theorem mw (a b:Str):(a++b).cps.toList=a.cps.toList++b.cps.toList:=PySem.W.KT.app_list a b
theorem iT (a b:Str):(a++b).length=a.length+b.length:=by
 have h:∀x:Str,x.length=x.cps.toList.length:=fun x=>by simp [Str.length]
 rw [h,h,h,mw,List.length_append]
theorem vK (a b:Nat):(zw a b).cps.toList=[122,a,b]:=by
 unfold zw
 rw [mw,mw]
 rfl
theorem Ei (a b:Nat):(zw a b).length=3:=by
 unfold zw
 rw [iT,iT]
 rfl
theorem HW:∀x∈gj,x.cps.toList.head?≠some 122:=by decide +kernel
theorem mO (a b:Nat):zw a b ∉ gj:=fun h=>HW _ h (by rw [vK];rfl)
def zt (k:Int) (t:Nat):Str:=zw (97+((t:Int) % 26).toNat) (97+((k+t) % 26).toNat)
theorem Mf {k:Int} {s t:Nat} (hs:s<26) (ht:t<26) (h:zt k s=zt k t):s=t:=by
 have e:(zt k s).cps.toList=(zt k t).cps.toList:=by rw [h]
 unfold zt at e
 rw [vK,vK] at e
 have:=(List.cons.inj (List.cons.inj e).2).1
 omega
theorem FN:∀(n:Nat) (f:Nat→Str) (xs:List Str),(∀s,s<n→f s∈xs)→(∀s t,s<n→t<n→f s=f t→s=t)→n≤xs.length
 | 0,_,_,_,_=>Nat.zero_le _
 | n+1,f,xs,h,inj=>by
  have m:=h n (Nat.lt_succ_self n)
  have ih:=FN n f (xs.erase (f n)) (fun s hs=>by
   have ne:f s≠f n:=fun e=>Nat.ne_of_lt hs (inj s n (Nat.lt_succ_of_lt hs) (Nat.lt_succ_self n) e)
   exact (List.mem_erase_of_ne ne).mpr (h s (Nat.lt_succ_of_lt hs))) fun s t hs ht=>inj s t (Nat.lt_succ_of_lt hs) (Nat.lt_succ_of_lt ht)
  rw [List.length_erase_of_mem m] at ih
  have:0<xs.length:=List.length_pos_of_mem m
  omega
theorem yL {k:Int} {xs:List Str} {n:Nat} (hn:n≤20) (h:∀s,s<n→zt k (s+1)∈xs):n≤xs.length :=
 FN n (fun s=>zt k (s+1)) xs h fun s t hs ht e=>by have:=Mf (by omega) (by omega) e;omega
theorem gI (w:Str) (xs:List Str):oS (.str w) (xs.map V.str)=decide (w∈xs):=by
 unfold oS
 rw [List.any_map]
 by_cases h:w∈xs
 ·rw [decide_eq_true h,List.any_eq_true]
  exact ⟨w,h,by simp [yj]⟩
 ·rw [decide_eq_false h,List.any_eq_false]
  intro y hy
  simp only [Function.comp,yj,beq_iff_eq]
  intro e
  exact h (e▸hy)
theorem fZ (xs:List Str):(xs.map V.str).all jg=true:=by rw [List.all_map,List.all_eq_true];intro _ _;rfl
theorem Iw (ss:List Str) (h:∀a∈ss,a.length=1):(Txt.join (Str.ofString "") ss).length=ss.length:=PySem.W.KT.join_ones ss h
def CU (c:TT):Prop:=∀σ H Q Q',(∀b H1,Q b H1→Q' b H1)→c σ H Q→c σ H Q'
def CV (c:TE):Prop:=∀σ H (Q Q':VK),(∀b H1,Q b H1→Q' b H1)→c σ H Q→c σ H Q'
theorem gH (i:Nat):CV (Mu i):=fun σ H Q Q' f ⟨v,e,q⟩=>⟨v,e,f _ _ q⟩
theorem qy {E:XK}:CV (BN vQ [] E JU):=fun σ H Q Q' f ⟨e,q⟩=>⟨e,fun l H' a b c=>f _ _ (q l H' a b c)⟩
theorem lZ {K:PySem.W.Frag} {ta tb:TE} (a:CV ta) (b:CV tb):CU (Ln (O9 (Tv K false) ta tb)):=fun σ H Q Q' f h =>
 a σ H _ _ (fun x H1 q=>b σ H1 _ _ (fun y H2 q=>let ⟨p,xs,h1,h2,h3,h4,k,h5,h6⟩:=q;⟨p,xs,h1,h2,h3,h4,k,h5,f _ _ h6⟩) q) h
theorem wK {t u:TT} (a:CU t) (b:CU u):CU (tOr t u):=fun σ H Q Q' f h =>
 a σ H _ _ (fun c H1 q=>by
  cases c with
  | true=>exact qD (f _ _ (by simpa using q))
  | false=>exact fB (b σ H1 Q Q' f (by simpa using q))) h
def Tf (a b:Addr) (H H':Hp):Prop:=∀c o,H c=some o→c≠a→c≠b→H' c=some o
theorem Ko {n k:Nat} (h:k<n):Kq n (k:Int)=some k:=by
 unfold Kq
 rw [if_pos (by omega),if_pos (by omega)]
 simp
theorem xx:∀ss:List Str,(∀a∈ss,a.length=1)→(ss.map (·.length)).sum=ss.length
 | [],_=>rfl
 | a::r,h=>by
  rw [List.map_cons,List.sum_cons,xx r fun b hb=>h b (List.mem_cons_of_mem _ hb),List.length_cons,h a (List.mem_cons_self ..)]
  omega
theorem bz.free {d l:Addr} {H H':Hp} (b:bz d H H') (h:H' l=none) (n:l≠d):H l=none:=by
 cases q:H l with
 | none=>rfl
 | some o=>rw [b l o q n] at h;cases h
theorem Dr.ne {H:Hp} {d l:Addr} (h:Dr H d) (n:H l=none):l≠d:=let ⟨_,_,e⟩:=h;(aE e n).symm
def Nq:St→Hp→Nat:=fun σ _=>match (σ[12]?:Option (Option V)) with
 | some (some (V.int t))=>20-t.toNat
 | _=>0
end Hw
namespace Hw
open PySem L2
theorem e9:(10:Int) ^ Int.toNat 9=1000000000:=by decide
theorem gC {xs:List Str} {r:Nat} (h:r<xs.length):(xs.map V.str)[r]?=some (V.str xs[r]):=by rw [List.getElem?_map,List.getElem?_eq_getElem h];rfl
end Hw
namespace Hw
open PySem L2
section
variable {C:Addr} {H H':Hp} {tl pq q0 q1 hq du u0 u1 sl sa sb:Addr} {xs:List Str} {ps0 t0 t1:Ps} {h0 h1:Int}
end
theorem bx {α β:Type} {F:α→β→Prop}:∀{xs:List α} {ys:List β} {a:α} {b:β},Paired F xs ys→F a b→Paired F (xs++[a]) (ys++[b])
 | _,_,_,_,.nil,h=>.cons h .nil
 | _,_,_,_,.cons r t,h=>.cons r (bx t h)
def pk {α:Type} (i:Nat) (a b:α):α:=match i with | 0=>a | _=>b
end Hw
namespace Hw
open PySem L2
abbrev cp (x:Str):List Nat:=x.cps.toList
theorem CP:∀ss:List Str,cp (Str.join (Str.ofString "") ss)=(ss.map cp).flatten
 | []=>rfl
 | [x]=>by simp [Str.join]
 | x::y::r=>by
  show cp (x++Str.ofString ""++Str.join (Str.ofString "") (y::r))=_
  rw [cp,mw,mw]
  have ih:=CP (y::r)
  rw [show (Str.join (Str.ofString "") (y::r)).cps.toList=cp (Str.join (Str.ofString "") (y::r)) from rfl,ih]
  have z:(Str.ofString "").cps.toList=[]:=by decide
  rw [z,List.append_nil]
  rfl
theorem BA (ss:List Str):cp (Txt.join (Str.ofString "") ss)=(ss.map cp).flatten:=by
 show cp (Builtin.Str.glued (Str.ofString "") ss)=_
 rw [StrLaws.glued_eq_join]
 exact CP ss
def Small (i:Int):Prop:=-(2 ^ 60)<i∧i<2 ^ 60
def Short (ts:Ps):Prop:=ts.length≤20∧∀p∈ts,Small p.2∧p.1.length≤100
end Hw
namespace Hw
open PySem L2
theorem bB {α β:Type} {F:α→β→Prop}:∀{vs:List α} {ps:List β},Paired F vs ps→∀{i:Nat} {v:α},vs[i]?=some v→∃p,ps[i]?=some p∧F v p
 | _,_,.nil,_,_,e=>by simp at e
 | _,_,.cons r t,0,_,e=>by simp at e;subst e;exact ⟨_,rfl,r⟩
 | _,_,.cons r t,i+1,_,e=>bB t (i:=i) (by simpa using e)
structure Tb (e:Ps):Prop where
 nd:(keys e).Nodup
 ok:∀p∈e,p.2≠0∧Small p.2∧p.1.length≤100
theorem Tb.nil:Tb []:=⟨.nil,fun _ h=>nomatch h⟩
theorem Cf {e:Ps} {t:Str} {n:Int} {p:Str×Int} (h:p∈put e t n):p∈e∨p=(t,n):=by
 unfold Hw.put at h
 split at h
 ·obtain ⟨q,hq,e⟩:=List.mem_map.mp h
  split at e
  ·rename_i z
   rw [←e,z];exact .inr rfl
  ·rw [←e];exact .inl hq
 ·rcases List.mem_append.mp h with z | z
  ·exact .inl z
  ·exact .inr (List.mem_singleton.mp z)
theorem Tb.put {e:Ps} {t:Str} {n:Int} (h:Tb e) (hn:n≠0) (hs:Small n) (ht:t.length≤100):Tb (put e t n) :=
 ⟨vp h.nd,fun p hp=>(Cf hp).elim (h.ok p) fun z=>z▸⟨hn,hs,ht⟩⟩
theorem get_mem:∀{e:Ps} {t:Str},t∈keys e→(t,get e t)∈e
 | p::r,t,h=>by
  rw [jf]
  by_cases z:p.1=t
  ·rw [if_pos z,←z];exact List.mem_cons_self ..
  ·rw [if_neg z]
   exact List.mem_cons_of_mem _ (get_mem ((List.mem_cons.mp h).resolve_left fun q=>z q.symm))
theorem Tb.canon {e:Ps} {ys:List Str} (h:Tb e) (hp:ys.Perm (keys e)) (hs:ys.Pairwise fun a b=>lt b a=false):Canon (ys.map fun t=>(t,get e t)):=by
 have nd:ys.Nodup:=hp.nodup_iff.mpr h.nd
 refine ⟨?_,fun p hq=>?_⟩
 ·rw [List.pairwise_map]
  refine (hs.and nd).imp fun {a b} q=>?_
  rcases ug a b with e | e | e
  ·exact e
  ·exact absurd e q.2
  ·rw [q.1] at e;cases e
 ·obtain ⟨t,ht,rfl⟩:=List.mem_map.mp hq
  exact (h.ok _ (get_mem (hp.mem_iff.mp ht))).1
theorem Tb.short {e:Ps} {ys:List Str} (h:Tb e) (hp:ys.Perm (keys e)) (hl:e.length≤20):Short (ys.map fun t=>(t,get e t)):=by
 refine ⟨?_,fun p hq=>?_⟩
 ·rw [List.length_map,hp.length_eq]
  unfold keys
  rw [List.length_map]
  exact hl
 ·obtain ⟨t,ht,rfl⟩:=List.mem_map.mp hq
  exact (h.ok _ (get_mem (hp.mem_iff.mp ht))).2
end Hw
namespace Hw
open PySem L2
abbrev Sb:=List (Str×Ps×Int)
theorem Cp {K:PySem.W.Frag} {H:Hp}:∀{n:Nat} {x y:V},gT K H n x y→gT K H (n+1) x y
 | 0,_,_,h=>.inl h
 | n+1,_,_,h=>by
  rcases h with h | ⟨a,b,xs,ys,e1,e2,h,p⟩
  ·exact .inl h
  ·exact .inr ⟨a,b,xs,ys,e1,e2,h,L2.Paired.cQ p fun _ _ z=>Cp z⟩
theorem DC {K:PySem.W.Frag} {H:Hp} {a b:Addr} {ts:Ps} {n:Int} (h:dN H a ts n) (h':dN H b ts n):∃xs ys,aW K H a xs∧aW K H b ys∧Paired (gT K H 2) xs ys:=by
 obtain ⟨t,e,vs,et,r⟩:=h
 obtain ⟨t',e',vs',et',r'⟩:=h'
 exact ⟨_,_,aW.of e,aW.of e',.cons (.inr ⟨t,t',vs,vs',rfl,rfl,.inr ⟨aW.of et,aW.of et'⟩,xP r r'⟩) (.cons (.inl ⟨rfl,rfl⟩) .nil)⟩
theorem fu {K:PySem.W.Frag} {H:Hp} {a b:Addr} {ts:Ps} {n:Int} (h:dN H a ts n) (h':dN H b ts n):gT K H 3 (.ref a) (.ref b):=by
 obtain ⟨xs,ys,h1,h2,p⟩:=DC (K:=K) h h'
 exact .inr ⟨a,b,xs,ys,rfl,rfl,.inr ⟨h1,h2⟩,p⟩
theorem MD {r:Nat} (hr:r<7):∃z:Int,([V.int 0,.int 1,.int 1,.int 1,.int 2,.int 2,.int 3]:List V)[r]?=some (V.int z)∧0≤z∧z≤3 :=
 match r,hr with
 | 0,_=>⟨_,rfl,by decide,by decide⟩ | 1,_=>⟨_,rfl,by decide,by decide⟩ | 2,_=>⟨_,rfl,by decide,by decide⟩ | 3,_=>⟨_,rfl,by decide,by decide⟩ | 4,_=>⟨_,rfl,by decide,by decide⟩ | 5,_=>⟨_,rfl,by decide,by decide⟩ | 6,_=>⟨_,rfl,by decide,by decide⟩
theorem N8 {r:Nat} (hr:r<8):∃z,([V.int 1,.int 1,.int 1,.int (-1),.int (-1),.int 2,.int (-3),.int 17]:List V)[r]?=some (V.int z)∧z≠0∧Small z :=
 match r,hr with
 | 0,_=>⟨_,rfl,by decide,by decide,by decide⟩ | 1,_=>⟨_,rfl,by decide,by decide,by decide⟩ | 2,_=>⟨_,rfl,by decide,by decide,by decide⟩ | 3,_=>⟨_,rfl,by decide,by decide,by decide⟩
 | 4,_=>⟨_,rfl,by decide,by decide,by decide⟩ | 5,_=>⟨_,rfl,by decide,by decide,by decide⟩ | 6,_=>⟨_,rfl,by decide,by decide,by decide⟩ | 7,_=>⟨_,rfl,by decide,by decide,by decide⟩
theorem W4 {a b:Int} (ha:Small a) (hb:Small b) (i:Int):∃z,vJ ([V.int 0,.int 0,.int 1,.int (-1),.int a,.int b]:List V) (i % 6)=some (V.int z)∧Small z:=by
 have h:i % 6=0∨i % 6=1∨i % 6=2∨i % 6=3∨i % 6=4∨i % 6=5:=by omega
 rcases h with h | h | h | h | h | h<;>rw [h]
 ·exact ⟨_,rfl,by decide,by decide⟩
 ·exact ⟨_,rfl,by decide,by decide⟩
 ·exact ⟨_,rfl,by decide,by decide⟩
 ·exact ⟨_,rfl,by decide,by decide⟩
 ·exact ⟨_,rfl,ha⟩
 ·exact ⟨_,rfl,hb⟩
def Lt3 (ts:Ps):Prop:=ts.length≤3∧∀p∈ts,Small p.2
def iI (C:Addr):Sp:=fun vs H Q _=>∃(p:Addr) (ts:Ps) (n:Int),vs=[.ref p]∧ji C H p ts n∧∀(r:Addr) (H':Hp),aH H H'→dN H' r ts n→Q (.ref r) H'
end Hw
namespace Hw
open PySem L2
structure Ou (o:HO):Prop where
 t:∀xs,o≠.tup xs
 i:∀C dx fs,o≠.ins C dx fs
theorem vU {xs:List V}:Ou (.lst xs):=⟨fun _ z=>(by cases z),fun _ _ _ z=>(by cases z)⟩
section
variable {H H':Hp} {z:Addr} {o:HO}
theorem bz.tupS (b:bz z H H') (hz:H z=some o) (so:Ou o):∀a xs,H a=some (.tup xs)→H' a=some (.tup xs):=fun a xs e=>b a _ e fun q=>by rw [q,hz] at e;exact so.t xs (Option.some.inj e)
end
section
variable {H0 H H':Hp} {d tl ro:Addr} {xs:List Str} {t0:Ps} {n0:Int}
end
end Hw
namespace Hw
open PySem L2
inductive Cd where
 | cmp (a:Ps) (n:Int) (s:Str) (b:Ps) (m:Int)
 | neg (c:Cd)
 | con (k:Bool) (cs:List Cd)
mutual
def Cd.dep:Cd→Nat
 | .cmp ..=>1
 | .neg c=>c.dep+1
 | .con _ cs=>oX cs+1
def oX:List Cd→Nat
 | []=>0
 | c::cs=>max c.dep (oX cs)
end
theorem su {c:Cd}:∀{cs:List Cd},c∈cs→c.dep≤oX cs
 | a::r,h=>by
  unfold oX
  rcases List.mem_cons.mp h with e | e
  ·rw [e];exact Nat.le_max_left _ _
  ·exact Nat.le_trans (su e) (Nat.le_max_right _ _)
theorem CH (c:Cd):1≤c.dep:=by cases c<;>simp [Cd.dep]
def DY (k:Bool):Str:=if k then "and" else "or"
mutual
def bg (H:Hp):Cd→V→Prop
 | .cmp a n s b m,v=>∃r u w,v=.ref r∧H r=some (.tup [.str "compare",.ref u,.str s,.ref w])∧dN H u a n∧dN H w b m
 | .neg c,v=>∃r u,v=.ref r∧H r=some (.tup [.str "not",u])∧bg H c u
 | .con k cs,v=>∃r us,v=.ref r∧H r=some (.tup (.str (DY k)::us))∧dB H cs us
def dB (H:Hp):List Cd→List V→Prop
 | [],us=>us=[]
 | c::cs,us=>∃u r,us=u::r∧bg H c u∧dB H cs r
end
structure Cz where
 s:Addr
 c:Addr
 t:Addr
 e:Addr
 o:Addr
def pC (u:Addr) (s:Str) (w:Addr):List (Str×V):=bu "other" (.ref w) (bu "sign" (.str s) (bu "one" (.ref u) []))
def xw (u:V):List (Str×V):=bu "condition" u []
def sO (t:Addr):List (Str×V):=bu "conditions" (.ref t) []
mutual
def cJ (Z:Cz) (H:Hp):Cd→V→Prop
 | .cmp a n s b m,v=>∃p dx u w,v=.ref p∧H p=some (.ins Z.c dx (pC u s w))∧ji Z.s H u a n∧ji Z.s H w b m
 | .neg c,v=>∃p dx u,v=.ref p∧H p=some (.ins Z.t dx (xw u))∧cJ Z H c u
 | .con k cs,v=>∃p dx t us,v=.ref p∧H p=some (.ins (if k then Z.e else Z.o) dx (sO t))∧H t=some (.tup us)∧us.length≤1000∧eK Z H cs us
def eK (Z:Cz) (H:Hp):List Cd→List V→Prop
 | [],us=>us=[]
 | c::cs,us=>∃u r,us=u::r∧cJ Z H c u∧eK Z H cs r
end
structure ay (H H':Hp):Prop where
 t:∀a xs,H a=some (.tup xs)→H' a=some (.tup xs)
 i:∀a C dx fs,H a=some (.ins C dx fs)→H' a=some (.ins C dx fs)
theorem ay.of {H H':Hp} (s:aH H H'):ay H H':=⟨fun _ _ e=>s _ _ e,fun _ _ _ _ e=>s _ _ e⟩
theorem ay.soft {H H':Hp} {z:Addr} {o:HO} (b:bz z H H') (hz:H z=some o) (so:Ou o):ay H H' :=
 ⟨b.tupS hz so,fun a C dx fs e=>b _ _ e fun q=>by rw [q,hz] at e;exact so.i _ _ _ (Option.some.inj e)⟩
theorem dN.ao {H H':Hp} {r:Addr} {ts:Ps} {n:Int} (h:dN H r ts n) (k:ay H H'):dN H' r ts n:=let ⟨t,e,vs,et,r⟩:=h;⟨t,k.t _ _ e,vs,k.t _ _ et,r.keep k.t⟩
theorem ji.ao {H H':Hp} {C p:Addr} {ts:Ps} {n:Int} (h:ji C H p ts n) (k:ay H H'):ji C H' p ts n:=let ⟨dx,t,e,⟨vs,et,r⟩,l⟩:=h;⟨dx,t,k.i _ _ _ _ e,⟨vs,k.t _ _ et,r.keep k.t⟩,l⟩
mutual
theorem bg.ao {H H':Hp} (k:ay H H'):∀{c:Cd} {v:V},bg H c v→bg H' c v
 | .cmp a n s b m,v,h=>by
  unfold bg at h ⊢
  obtain ⟨r,u,w,e,er,d1,d2⟩:=h
  exact ⟨r,u,w,e,k.t _ _ er,d1.ao k,d2.ao k⟩
 | .neg c,v,h=>by
  unfold bg at h ⊢
  obtain ⟨r,u,e,er,d⟩:=h
  exact ⟨r,u,e,k.t _ _ er,bg.ao k d⟩
 | .con b cs,v,h=>by
  unfold bg at h ⊢
  obtain ⟨r,us,e,er,d⟩:=h
  exact ⟨r,us,e,k.t _ _ er,dB.ao k d⟩
theorem dB.ao {H H':Hp} (k:ay H H'):∀{cs:List Cd} {us:List V},dB H cs us→dB H' cs us
 | [],us,h=>by unfold dB at h ⊢;exact h
 | c::cs,us,h=>by
  unfold dB at h ⊢
  obtain ⟨u,r,e,d1,d2⟩:=h
  exact ⟨u,r,e,bg.ao k d1,dB.ao k d2⟩
end
mutual
theorem cJ.ao {Z:Cz} {H H':Hp} (k:ay H H'):∀{c:Cd} {v:V},cJ Z H c v→cJ Z H' c v
 | .cmp a n s b m,v,h=>by
  unfold cJ at h ⊢
  obtain ⟨p,dx,u,w,e,ep,d1,d2⟩:=h
  exact ⟨p,dx,u,w,e,k.i _ _ _ _ ep,d1.ao k,d2.ao k⟩
 | .neg c,v,h=>by
  unfold cJ at h ⊢
  obtain ⟨p,dx,u,e,ep,d⟩:=h
  exact ⟨p,dx,u,e,k.i _ _ _ _ ep,cJ.ao k d⟩
 | .con b cs,v,h=>by
  unfold cJ at h ⊢
  obtain ⟨p,dx,t,us,e,ep,et,l,d⟩:=h
  exact ⟨p,dx,t,us,e,k.i _ _ _ _ ep,k.t _ _ et,l,eK.ao k d⟩
theorem eK.ao {Z:Cz} {H H':Hp} (k:ay H H'):∀{cs:List Cd} {us:List V},eK Z H cs us→eK Z H' cs us
 | [],us,h=>by unfold eK at h ⊢;exact h
 | c::cs,us,h=>by
  unfold eK at h ⊢
  obtain ⟨u,r,e,d1,d2⟩:=h
  exact ⟨u,r,e,cJ.ao k d1,eK.ao k d2⟩
end
theorem cC {H:Hp}:∀{cs:List Cd} {us:List V},dB H cs us↔Paired (fun u c=>bg H c u) us cs
 | [],us=>by
  unfold dB
  exact ⟨fun e=>e▸.nil,fun h=>by cases h;rfl⟩
 | c::cs,us=>by
  unfold dB
  constructor
  ·rintro ⟨u,r,rfl,d1,d2⟩
   exact .cons d1 (cC.mp d2)
  ·intro h
   cases h with
   | cons d1 d2=>exact ⟨_,_,rfl,d1,cC.mpr d2⟩
theorem dj {Z:Cz} {H:Hp}:∀{cs:List Cd} {us:List V},eK Z H cs us↔Paired (fun u c=>cJ Z H c u) us cs
 | [],us=>by
  unfold eK
  exact ⟨fun e=>e▸.nil,fun h=>by cases h;rfl⟩
 | c::cs,us=>by
  unfold eK
  constructor
  ·rintro ⟨u,r,rfl,d1,d2⟩
   exact .cons d1 (dj.mp d2)
  ·intro h
   cases h with
   | cons d1 d2=>exact ⟨_,_,rfl,d1,dj.mpr d2⟩
theorem bT {K:PySem.W.Frag} {H:Hp} {n m:Nat} {x y:V} (h:gT K H n x y) (l:n≤m):gT K H m x y:=by
 induction l with
 | refl=>exact h
 | step _ ih=>exact Cp ih
mutual
theorem gz {K:PySem.W.Frag} {H:Hp}:∀{c:Cd} {x y:V},bg H c x→bg H c y→gT K H (c.dep+3) x y
 | .cmp a n s b m,x,y,h,g=>by
  unfold bg at h g
  obtain ⟨r,u,w,rfl,er,d1,d2⟩:=h
  obtain ⟨r',u',w',rfl,jU,KI,Rk⟩:=g
  exact .inr ⟨r,r',_,_,rfl,rfl,.inr ⟨aW.of er,aW.of jU⟩,.cons (.inl ⟨rfl,rfl⟩) (.cons (fu d1 KI) (.cons (.inl ⟨rfl,rfl⟩) (.cons (fu d2 Rk) .nil)))⟩
 | .neg c,x,y,h,g=>by
  unfold bg at h g
  obtain ⟨r,u,rfl,er,d⟩:=h
  obtain ⟨r',u',rfl,jU,d'⟩:=g
  have e:(Cd.neg c).dep+3=(c.dep+3)+1:=by simp [Cd.dep]
  rw [e]
  exact .inr ⟨r,r',_,_,rfl,rfl,.inr ⟨aW.of er,aW.of jU⟩,.cons (bT (n:=0) ⟨rfl,rfl⟩ (Nat.zero_le _)) (.cons (gz d d') .nil)⟩
 | .con k cs,x,y,h,g=>by
  unfold bg at h g
  obtain ⟨r,us,rfl,er,d⟩:=h
  obtain ⟨r',us',rfl,jU,d'⟩:=g
  have e:(Cd.con k cs).dep+3=(oX cs+3)+1:=by simp [Cd.dep]
  rw [e]
  exact .inr ⟨r,r',_,_,rfl,rfl,.inr ⟨aW.of er,aW.of jU⟩,.cons (bT (n:=0) ⟨rfl,rfl⟩ (Nat.zero_le _)) (sQ (Nat.le_refl _) d d')⟩
theorem sQ {K:PySem.W.Frag} {H:Hp} {n:Nat}:∀{cs:List Cd} {xs ys:List V},oX cs≤n→dB H cs xs→dB H cs ys→Paired (gT K H (n+3)) xs ys
 | [],xs,ys,_,h,g=>by
  unfold dB at h g
  subst h g
  exact .nil
 | c::cs,xs,ys,l,h,g=>by
  unfold dB at h g
  obtain ⟨u,r,rfl,d1,d2⟩:=h
  obtain ⟨u',r',rfl,KI,Rk⟩:=g
  unfold oX at l
  exact .cons (bT (gz d1 KI) (by omega)) (sQ (by omega) d2 Rk)
end
def signs:List Str:=["<","<=","=","!=",">=",">"]
end Hw
namespace Hw
open PySem L2
def Po:Cd→Nat
 | .cmp ..=>0
 | .neg _=>1
 | .con true _=>2
 | .con false _=>3
def mK (Z:Cz):Nat→Addr
 | 0=>Z.c
 | 1=>Z.t
 | 2=>Z.e
 | _=>Z.o
structure dW (K:PySem.W.Frag) (mg:Str→Option Value) (Z:Cz):Prop where
 cl:∀j,j<4→uY K (mK Z j)
 n1:eZ K Z.c "one"
 n2:eZ K Z.c "sign"
 n3:eZ K Z.c "other"
 n4:eZ K Z.t "condition"
 n5:eZ K Z.e "conditions"
 n6:eZ K Z.o "conditions"
 mgC:mg "Compare"=some (.ref Z.c)
 mgT:mg "Turned"=some (.ref Z.t)
 mgE:mg "Every"=some (.ref Z.e)
 mgO:mg "Some"=some (.ref Z.o)
 all:mg "all"=none
 any:mg "any"=none
theorem Qg (u:Addr) (s:Str) (w:Addr):(pC u s w).lookup ("one":Str)=some (.ref u):=by
 unfold pC;rw [bF,if_neg (by decide +kernel),bF,if_neg (by decide +kernel),bF,if_pos rfl]
theorem Qf (u:Addr) (s:Str) (w:Addr):(pC u s w).lookup ("sign":Str)=some (.str s):=by
 unfold pC;rw [bF,if_neg (by decide +kernel),bF,if_pos rfl]
theorem Qe (u:Addr) (s:Str) (w:Addr):(pC u s w).lookup ("other":Str)=some (.ref w):=by
 unfold pC;rw [bF,if_pos rfl]
theorem a0M (u:V):(xw u).lookup ("condition":Str)=some u:=by unfold xw;rw [bF,if_pos rfl]
theorem Qd (t:Addr):(sO t).lookup ("conditions":Str)=some (.ref t):=by unfold sO;rw [bF,if_pos rfl]
structure NoF (m:Str):Prop where
 a:¬m="one"
 b:¬m="sign"
 c:¬m="other"
 d:¬m="condition"
 e:¬m="conditions"
theorem Jm {Z:Cz} {H:Hp} {c:Cd} {p:Addr} (h:cJ Z H c (.ref p)) {m:Str} (nf:NoF m):∃dx fs,H p=some (.ins (mK Z (Po c)) dx fs)∧fs.lookup m=none:=by
 cases c with
 | cmp a n s b m' =>
  unfold cJ at h
  obtain ⟨q,dx,u,w,e,ep,_⟩:=h
  cases e
  refine ⟨dx,_,ep,?_⟩
  unfold pC
  rw [bF,if_neg nf.c,bF,if_neg nf.b,bF,if_neg nf.a]
  rfl
 | neg c =>
  unfold cJ at h
  obtain ⟨q,dx,u,e,ep,_⟩:=h
  cases e
  refine ⟨dx,_,ep,?_⟩
  unfold xw
  rw [bF,if_neg nf.d]
  rfl
 | con k cs =>
  unfold cJ at h
  obtain ⟨q,dx,t,us,e,ep,_⟩:=h
  cases e
  cases k<;>exact ⟨dx,_,ep,by unfold sO;rw [bF,if_neg nf.e];rfl⟩
theorem EO (c:Cd):Po c<4:=by
 cases c with
 | cmp=>show 0<4;decide
 | neg=>show 1<4;decide
 | con k cs=>cases k<;>(first | (show 2<4;decide) | (show 3<4;decide))
def M4 (P:Program) (w:World) (K:PySem.W.Frag) (mg:Str→Option Value) (base:Heap) (k:Nat) (Z:Cz) (m:Str) (ps:List Str) (sp:Nat→Sp):Prop:=∀j,j<4→Mt P w K mg base k (mK Z j) m ps (sp j)
end Hw
namespace L2
open PySem PySem.Spec PyProof.Rows Hw
section
variable {X:Cx} {k:Nat} {m:Str} {pos apos:Pos} {o e:Expr} {es:List Expr} {ta:TE} {t:TA} {Z:Cz} {ps:List Str} {sp:Nat→Sp}
def VT (Z:Cz) (sp:Nat→Sp) (ta:TE):TE:=fun σ H Q=>ta σ H fun x H1=>∃p c,x=.ref p∧cJ Z H1 c (.ref p)∧sp (Po c) [.ref p] H1 Q E0
theorem gG {pl:Sem Bool} (he:PE X o ta) (cl:∀j,j<4→uY X.K (mK Z j)) (nf:NoF m) (M:M4 X.prog X.w X.K X.mg X.base k Z m ps sp) (hr:dD k X.A) (hx:Passes dg X E0)
  (ht:eval (.Call (.Attribute o m apos) [] [] pos) X.env=(do
   let ov ←eval o X.env
   standAt apos.atName
   let (f,first) ←holding [ov] (getMethod ov m pl)
   callWith pos f first (backTo pos (starEach [] X.env)) (backToKw pos (keywordEach [] X.env))):=by rfl) :
  PE X (.Call (.Attribute o m apos) [] [] pos) (VT Z sp ta):=by
 intro pins s σ H Q I h
 refine PySem.W.methodCall_KW (pl:=pl) (fz (he pins s σ H _ I h) fun u s1 ⟨x,H1,I1,rx,a,c,ex,hc,q⟩=>?_) ht
 subst ex
 obtain rfl:u=Value.ref a:=rx
 obtain ⟨dx,fs,ea,l⟩:=Jm hc nf
 obtain ⟨f,fd,F,hm,hb⟩:=M (Po c) (EO c)
 refine ku I1 ea (cl _ (EO c)) hm l ?_
 exact PySem.W.callWith_K0 (first:=[.ref a]) I1.mJ hm.kp (mZ (us:=[.ref a]) (vs:=[.ref a]) F hr hb .nil hx I1 (.cons rfl .nil) q)
end
end L2
namespace Hw
open PySem L2
theorem qG {P:Program} {w:World} {K:PySem.W.Frag} {mg:Str→Option Value} {base:Heap} {k:Nat} {f:Addr} {fd:FuncData} {ps:List Str} {sp:Sp} (h:∀vs H Q E,¬sp vs H Q E):bH P w K mg base dg k f fd ps sp :=
 ⟨fun vs H Q E z=>(h vs H Q E z).elim,fun A outer s H args us vs Q E _ _ _ _ z=>(h vs H Q E z).elim⟩
def rY (Z:Cz):Sp:=fun vs H Q _=>∃(p dx u w:Addr) (s:Str),vs=[.ref p,.ref u,.str s,.ref w]∧H p=some (.ins Z.c dx [])∧∀H',bz p H H'→H' p=some (.ins Z.c dx (pC u s w))→Q .dM H'
def rV (Z:Cz):Sp:=fun vs H Q _=>∃(p dx:Addr) (u:V),vs=[.ref p,u]∧H p=some (.ins Z.t dx [])∧∀H',bz p H H'→H' p=some (.ins Z.t dx (xw u))→Q .dM H'
def jk (D:Addr):Sp:=fun vs H Q _=>∃(p dx l:Addr) (us:List V),vs=[.ref p,.ref l]∧H p=some (.ins D dx [])∧H l=some (.lst us)∧∀(t:Addr) (H':Hp),bz p H H'→H' p=some (.ins D dx (sO t))→H' t=some (.tup us)→Q .dM H'
def cZ (Z:Cz) (n:Nat):Nat→Sp:=fun j vs H Q _=>∃(p:Addr) (c:Cd),vs=[.ref p]∧Po c=j∧cJ Z H c (.ref p)∧c.dep≤n∧∀(v:V) (H':Hp),aH H H'→bg H' c v→Q v H'
end Hw
namespace Hw
open PySem L2
theorem fQ:NoF "told":=⟨by decide +kernel,by decide +kernel,by decide +kernel,by decide +kernel,by decide +kernel⟩
theorem eU {Z:Cz} {H:Hp} {c:Cd} {v:V} (h:cJ Z H c v):∃p,v=.ref p:=by
 cases c<;>(unfold cJ at h;obtain ⟨p,h⟩:=h)
 ·obtain ⟨_,_,_,e,_⟩:=h;exact ⟨p,e⟩
 ·obtain ⟨_,_,e,_⟩:=h;exact ⟨p,e⟩
 ·obtain ⟨_,_,_,e,_⟩:=h;exact ⟨p,e⟩
theorem aD {α β:Type} {R:α→β→Prop}:∀{xs:List α} {ys:List β},Paired R xs ys→xs.length=ys.length
 | _,_,.nil=>rfl
 | _,_,.cons _ t=>congrArg (·+1) (aD t)
end Hw
namespace L2
open PySem PySem.Spec PyProof.Rows Hw
section
variable {X:Cx} {K:PySem.W.Frag}
end
end L2
namespace Hw
open PySem L2
theorem cW {p:Prop} [Decidable p] {F G:Prop} (h:p) (f:F):if decide p=true then F else G:=by rw [if_pos (decide_eq_true h)];exact f
theorem bC {p:Prop} [Decidable p] {F G:Prop} (h:¬p) (f:G):if decide p=true then F else G:=by rw [if_neg (by simpa using h)];exact f
theorem bE {s t:Str} (h:¬s=t):¬V.str s=V.str t:=fun e=>h (V.str.inj e)
end Hw
namespace Hw
open PySem L2
theorem cM {H:Hp} {x dx:Addr} {o o':HO} (hx:H x=none) (hdx:H dx=none):aH H (upd (upd H dx o) x o'):=fun b u z=>by
 rw [aY (aE z hx),aY (aE z hdx)]
 exact z
end Hw
namespace Hw
open PySem L2
def Gs (xs:List Str) (a:Ps) (n:Int):Prop:=Canon a∧Lt3 a∧(∀p∈a,p.1∈xs)∧Small n
mutual
def Gd (xs:List Str):Cd→Prop
 | .cmp a n s b m=>Gs xs a n∧s∈signs∧Gs xs b m
 | .neg c=>Gd xs c
 | .con _ cs=>cs.length≤3∧DR xs cs
def DR (xs:List Str):List Cd→Prop
 | []=>True
 | c::cs=>Gd xs c∧DR xs cs
end
theorem ye {xs:List Str} {c:Cd}:∀{cs:List Cd},DR xs cs→Gd xs c→DR xs (cs++[c])
 | [],_,h=>by unfold DR;exact ⟨h,by unfold DR;trivial⟩
 | a::r,g,h=>by
  unfold DR at g
  show DR xs (a::(r++[c]))
  unfold DR
  exact ⟨g.1,ye g.2 h⟩
theorem CC {xs:List Str} {c:Cd}:∀{cs:List Cd},DR xs cs→c∈cs→Gd xs c
 | a::r,h,m=>by
  unfold DR at h
  rcases List.mem_cons.mp m with e | e
  ·rw [e];exact h.1
  ·exact CC h.2 e
theorem vB (c:Cd):∀cs:List Cd,oX (cs++[c])=max (oX cs) c.dep
 | []=>by show max c.dep (oX [])=max (oX []) c.dep;exact Nat.max_comm _ _
 | a::r=>by
  show max a.dep (oX (r++[c]))=_
  rw [vB c r]
  conv=>rhs;unfold oX
  omega
theorem signs_at {r:Nat} (h:r<6):∃s,(signs.map V.str)[r]?=some (V.str s)∧s∈signs:=by
 have e:r<signs.length:=h
 refine ⟨signs[r],?_,List.getElem_mem e⟩
 rw [List.getElem?_map,List.getElem?_eq_getElem e]
 rfl
theorem Dr.soft {H H':Hp} {d:Addr} (h:Dr H d) (b:bz d H H'):ay H H':=let ⟨x,y,e⟩:=h;ay.soft b e vU
end Hw
namespace Hw
open PySem L2
theorem MQ (i:Int):∃b,vJ ([V.str "and",.str "or"]:List V) (i % 2)=some (V.str (DY b)):=by
 have h:i % 2=0∨i % 2=1:=by omega
 rcases h with h | h<;>rw [h]
 ·exact ⟨true,rfl⟩
 ·exact ⟨false,rfl⟩
end Hw
namespace Hw
open PySem L2
theorem ifT {b:Bool} {F G:Prop} (h:b=true) (f:F):if b=true then F else G:=by rw [if_pos h];exact f
theorem ifF {b:Bool} {F G:Prop} (h:b=false) (g:G):if b=true then F else G:=by rw [h];exact fB g
theorem Oi (x:V) (us:List V):kD (x::us) (some 1) none=us:=by
 unfold kD
 have e1:HT.gw (x::us).length 0 (some 1)=1:=by
  have:=HT.j8 (x::us).length 0 1
  rw [show (some (1:Int))=some ((1:Nat):Int) from rfl,this]
  show min 1 (us.length+1)=1
  omega
 have e2:HT.gw (x::us).length (x::us).length none=us.length+1:=rfl
 rw [e1,e2]
 show us.take (us.length+1-1)=us
 rw [show us.length+1-1=us.length by omega,List.take_length]
theorem Jk (x:V) (us:List V):¬(HT.gw (x::us).length 0 (some 1)=0∧HT.gw (x::us).length (x::us).length none=(x::us).length):=by
 have e1:HT.gw (x::us).length 0 (some 1)=1:=by
  have:=HT.j8 (x::us).length 0 1
  rw [show (some (1:Int))=some ((1:Nat):Int) from rfl,this]
  show min 1 (us.length+1)=1
  omega
 rw [e1]
 intro h
 exact absurd h.1 (by decide)
theorem yK (x:V) (us:List V):vJ (x::us) (0:Int)=some x:=bI (j:=0) rfl
end Hw
namespace L2
open PySem PySem.Spec PyProof.Rows Hw
section
variable {X:Cx} {x:Str} {D:Addr} {kvs:List (Key×V)} {i:Expr} {ty:TE} {p pos:Pos}
end
end L2
namespace Hw
open PySem L2
end Hw
namespace Hw
open PySem L2
end Hw
namespace L2
open PySem PySem.Spec PyProof.Rows Hw
section
variable {X:Cx}
end
end L2
namespace Hw
open PySem L2
abbrev Cs:=List (List (Ps×Int))
end Hw
namespace Hw
open PySem L2
end Hw
namespace Hw
open PySem L2
end Hw
namespace Hw
open PySem L2
end Hw
namespace Hw
open PySem L2
end Hw
namespace L2
open PySem PySem.Spec PyProof.Rows Hw
section
variable {X:Cx}
def BZ (K:PySem.W.Frag):R2:=fun x y H Q=>∃a b xs,x=.ref a∧y=.ref b∧bS K H a xs∧bS K H b []∧Q (.bl (decide (xs=[]))) H
theorem vm (hu:X.A.units<cLine):nV X (compareOp .Eq) (BZ X.K):=by
 intro pins s σ H x y v u Q I rx ry h
 obtain ⟨a,b,xs,rfl,rfl,ha,hb,q⟩:=h
 cases rx
 cases ry
 obtain ⟨us,r1,p1,_⟩:=I.list ha
 obtain ⟨vs,r2,p2,_⟩:=I.list hb
 cases r2
 have l1:=r1.length
 by_cases hx:xs=[]
 ·rw [decide_eq_true hx] at q
  subst hx
  cases r1
  exact SeqAt.RcAt.lists (A:=X.A) (e:=fun _=>true) p1.isList p2.isList rfl hu (fun j h1 h2=>absurd h2 (by simp)) _ _ _ _ ⟨.bl true,H,I,rfl,q⟩
 ·rw [decide_eq_false hx] at q
  have:us≠[]:=fun z=>hx (by rw [z] at l1;exact List.length_eq_zero_iff.mp l1)
  refine SeqAt.RcAt.lists_lengths (A:=X.A) p1.isList p2.isList ?_ hu _ _ _ _ ⟨.bl false,H,I,rfl,q⟩
  cases us with
  | nil=>exact absurd rfl this
  | cons _ _=>simp
end
end L2
namespace Hw
open PySem L2
end Hw
namespace Hw
open PySem L2
end Hw
namespace Hw
open PySem L2
theorem HM {P:Program} {w:World} {K:PySem.W.Frag} {mg:Str→Option Value} {base:Heap} {Z:Cz} {m:Str} {ps:List Str} {sp:Nat→Nat→Sp} {lv:Nat→Nat} (f:Nat→Addr) (fd:Nat→FuncData)
  (hm:∀j,j<4→Meth K (mK Z j) m (f j)) (hb:∀j,j<4→Binds K (fd j) ps []) (h0:∀j vs H Q E,¬sp 0 j vs H Q E)
  (hs:∀n,M4 P w K mg base (lv n) Z m ps (sp n)→∀j,j<4→bH P w K mg base dg (lv (n+1)) (f j) (fd j) ps (sp (n+1) j)):∀n,M4 P w K mg base (lv n) Z m ps (sp n)
 | 0=>fun j hj=>⟨f j,fd j,qG (h0 j),hm j hj,hb j hj⟩
 | n+1=>fun j hj=>⟨f j,fd j,hs n (HM f fd hm hb h0 hs n) j hj,hm j hj,hb j hj⟩
theorem nQ {P:Program} {w:World} {K:PySem.W.Frag} {mg:Str→Option Value} {base:Heap} {x:Str} {ps:List Str} {sp:Nat→Sp} {lv:Nat→Nat} {f:Addr} {fd:FuncData}
  (hm:mg x=some (.ref f)) (hk:PySem.W.keepIn K (.ref f)=true) (hb:Binds K fd ps []) (h0:∀vs H Q E,¬sp 0 vs H Q E)
  (hs:∀n,Dn P w K mg base (lv n) x ps (sp n)→bH P w K mg base dg (lv (n+1)) f fd ps (sp (n+1))):∀n,Dn P w K mg base (lv n) x ps (sp n)
 | 0=>⟨f,fd,qG h0,hm,hk,hb⟩
 | n+1=>⟨f,fd,hs n (nQ hm hk hb h0 hs n),hm,hk,hb⟩
theorem a4D {c:Cd} (h:c.dep≤0):False:=by have:=CH c;omega
theorem O6 (Z:Cz):∀j vs H Q E,¬cZ Z 0 j vs H Q E:=fun _ _ _ _ _ ⟨_,_,_,_,_,d,_⟩=>a4D d
end Hw
namespace Hw
open PySem L2
theorem Kn (K:PySem.W.Frag) (C:Addr):PySem.W.kitOne K (.ref C) (.ref C)=some true:=by
 unfold PySem.W.kitOne
 rw [if_pos (by simp)]
theorem Km (K:PySem.W.Frag):PySem.W.kitOne K (.type "tuple") (.type "tuple")=some true:=by
 unfold PySem.W.kitOne
 rw [if_pos (by simp)]
end Hw
namespace L2
open PySem PySem.Spec PyProof.Rows
section
variable {X:Cx} {tg:Expr}
end
end L2
namespace Hw
open PySem L2
end Hw
namespace Hw
open PySem L2
section
variable {Z:Cz} {H0 H H':Hp} {d tl sd hd p pf:Addr} {xs:List Str} {vt:V} {c c':Cd} {kvs kh:List (Key×V)} {S:Sb}
theorem EH {v:V} (h:bg H c v):∃p,v=.ref p:=by
 cases c with
 | cmp a n s b m=>unfold bg at h;obtain ⟨p,_,_,e,_⟩:=h;exact ⟨p,e⟩
 | neg c=>unfold bg at h;obtain ⟨p,_,e,_⟩:=h;exact ⟨p,e⟩
 | con k cs=>unfold bg at h;obtain ⟨p,_,e,_⟩:=h;exact ⟨p,e⟩
theorem mQ {K:PySem.W.Frag} {x y:V} {Q:VK} {k:Bool} {n:Nat} (h:bg H c x) (g:bg H c y) (hd:c.dep+2≤n) (q:Q (.bl k) H):xO K n k x y H Q:=by
 have l:gT K H (n+1) x y:=bT (gz h g) (by omega)
 rcases l with ⟨e,_⟩ | ⟨a,b,us,vs,e1,e2,hs,pr⟩
 ·obtain ⟨p,rfl⟩:=EH h
  cases e
 ·exact ⟨a,b,us,vs,e1,e2,hs,pr,q⟩
end
theorem ay.trans {H H1 H2:Hp} (a:ay H H1) (b:ay H1 H2):ay H H2:=⟨fun c xs e=>b.t _ _ (a.t _ _ e),fun c C dx fs e=>b.i _ _ _ _ (a.i _ _ _ _ e)⟩
end Hw
namespace PySem
open L2
section
variable {prog:Program} {w:World} {A:Around} {E:Value→Shared→Prop} {s:Shared}
end
end PySem
namespace PySem
open L2 PyProof.Rows
section
variable {prog:Program} {w:World} {A:Around} {R:Result→Shared→Prop} {I:Addr} {fp wr:List Addr} {G:Array GenState→Array GenState→Prop} {n:Nat} {P:Nat→Value→Prop} {St:Nat→Shared→Prop}
end
section
variable {prog:Program} {w:World} {A:Around} {E:Value→Shared→Prop} {s:Shared}
end
end PySem
namespace PySem
open L2 PyProof.Rows
namespace F
end F
section
variable {prog:Program} {w:World} {A:Around} {E:Value→Shared→Prop} {s:Shared} {I a tp:Addr} {i n ep:Nat} {es:Array (Int×Value)} {t:SetTable}
end
end PySem
namespace PySem
open L2 PyProof.Rows
section
variable {prog:Program} {w:World} {A:Around} {E:Value→Shared→Prop} {s:Shared} {I a tp:Addr} {i n ep:Nat} {es:Array (Int×Value)} {t:SetTable}
end
end PySem
namespace PySem
open L2 PyProof.Rows
section
variable {M:Model} {A:Around} {E:Value→Shared→Prop} {s:Shared}
end
section
variable {prog:Program} {w:World} {A:Around} {E:Value→Shared→Prop} {s:Shared} {I a tp:Addr} {i n ep:Nat} {es:Array (Int×Value)} {t:SetTable}
end
end PySem
namespace PySem
open L2 PyProof.Rows
section
variable {prog:Program} {w:World} {A:Around} {E:Value→Shared→Prop} {s:Shared} {I a tp:Addr} {i n ep:Nat} {es:Array (Int×Value)} {t:SetTable}
end
end PySem
namespace PySem
open L2 PyProof.Rows
section
variable {prog:Program} {w:World} {A:Around} {E:Value→Shared→Prop} {s:Shared} {a:Addr}
end
end PySem
namespace PySem
open L2 PyProof.Rows
section
variable {prog:Program} {w:World} {A:Around} {E:Value→Shared→Prop} {s:Shared} {a:Addr} {zs:List Str}
end
end PySem
namespace L2
open PySem PySem.Spec PyProof.Rows Hw
section
variable {X:Cx}
end
end L2
namespace L2
open PySem PySem.Spec PyProof.Rows Hw
section
variable {X:Cx}
end
end L2
namespace Hw
open PySem L2
end Hw
namespace Hw
open PySem L2
end Hw
namespace Hw
open PySem L2
end Hw
namespace L2
open PySem PySem.Spec PyProof.Rows Hw
section
variable {X:Cx}
def ifB (s:Stmt) (i:Nat):Stmt:=match s with | .If _ b _ _=>b.getD i (.Pass ⟨0,0,0,0⟩) | _=>.Pass ⟨0,0,0,0⟩
end
end L2
namespace Hw
open PySem L2
end Hw
namespace PySem
section
variable {prog:Program} {w:World} {A:Around} {E:Value→Shared→Prop} {h:Heap} {g:Array GenState} {d:Drawn} {t:Nat} {os:OsState}
variable {nm q:Str} {C N:Addr} {bs bm:List Value} {hdct:Bool} {sn:List Str} {sub:List Value} {ab:Bool} {col:Option Bool} {dd:Option Addr} {k0 k1 k2 k3 k5:Option Value}
end
end PySem
namespace PySem
section
variable {M:Model} {A:Around} {E:Value→Shared→Prop} {s:Shared} {base:Heap} {env:Env} {outer:List Env} {L a C:Addr} {oe:Obj} {vs:Array Value}
end
end PySem
namespace L2
open PySem PySem.Spec PyProof.Rows
section
variable {P:Program} {w:World} {K:PySem.W.Frag} {mg:Str→Option Value} {base:Heap} {N:List Str} {qual:Str} {scope:Scope} {f C:Addr} {cd:Value} {A:Around} {outer:List Env} {s:Shared} {H:Hp} {E:XK}
end
end L2
namespace L2
open PySem PySem.Spec PyProof.Rows
section
variable {X:Cx} {CX:DV} {k:Nat} {f C D fI:Addr} {fd:FuncData} {ps:List Str} {sp:Sp} {E:XK} {x m:Str} {p pos apos:Pos} {e o:Expr} {es:List Expr} {t:TA} {bm:List Value}
def Pf (sp:Sp) (E:XK) (to:TE) (t:TA):TE:=fun σ H Q=>to σ H fun _ H1=>t σ H1 fun vs H2=>sp (vs++[]) H2 Q E
theorem iR {pl:Sem Bool} (hg:Gl X x) (hm:X.mg x=some (.ref D)) (h1:PySem.W.specialIn X.K (.ref D) "__getattribute__"=some (some (.builtin "type.__getattribute__"))) (h2:PySem.W.readsIn X.K D (.type "type")=true)
  (h3:PySem.W.findCls X.K (.ref D) (.type "type") m=some (.val (.ref f))) (h4:PySem.W.handedIn (.ref f)=true) (hk:PySem.W.keepIn X.K (.ref f)=true) (F:bH X.prog X.w X.K X.mg X.base CX k f fd ps sp) (hr:dD k X.A) (hb:Binds X.K fd ps [])
  (hx:Passes CX X E) (ha:PA X (e::es) t) (hst:starEach (e::es) X.env=(false,eval e X.env)::starEach es X.env:=by rfl) (hpl:(backTo pos (starEach es X.env)).any (·.1)=false:=by rfl) (hdb:(x == ("__debug__":Str))=false:=by decide)
  (ht:eval (.Call (.Attribute (.Name x p) m apos) (e::es) [] pos) X.env=(do
   let ov ←eval (.Name x p) X.env
   standAt apos.atName
   let (f,first) ←holding [ov] (getMethod ov m pl)
   callWith pos f first (backTo pos (starEach (e::es) X.env)) (backToKw pos (keywordEach [] X.env))):=by rfl) :
  PE X (.Call (.Attribute (.Name x p) m apos) (e::es) [] pos) (Pf sp E (tC (.ref D)) t):=by
 intro pins s σ H Q I h
 refine PySem.W.methodCall_KW (pl:=pl) (oO I hg hm ?_ hdb) ht
 refine PySem.W.method_cls I.mJ h1 (PySem.W.cls_value I.mJ h2 h3 h4 ?_)
 have I1:=I.tok (s.toks+1)
 refine PySem.W.callWith_K (first:=[]) (h₀:=X.base) I.ok.mod.JF hk (fz (ha pos pins _ σ H _ I1 h) fun us s2 ⟨vs,H2,I2,r,q2⟩=>⟨I2.mJ,?_⟩) hst hpl
 exact mZ F hr hb .nil hx I2 r q2
end
end L2
namespace PySem.W
open PySem PySem.Spec PySem.Calls PyProof.Rows
section
variable {prog:Program} {w:World} {A:Around} {E:Value→Shared→Prop} {K:Frag} {x D:Addr} {ox:Obj}
end
end PySem.W
namespace L2
open PySem PySem.Spec PyProof.Rows
section
variable {X:Cx} {a C:Addr} {oe:Obj}
end
end L2
namespace PySem
section
variable {M:Model} {A:Around} {E:Value→Shared→Prop}
variable {nm q nm' q':Str} {C N W N':Addr} {bs bm bs' bm':List Value} {hdct b0B:Bool} {sn sn':List Str} {sub sub':List Value} {ab ab':Bool} {col col':Option Bool} {dd Og:Option Addr} {k0 k1 k2 k3 k5 j0 j1 j2 j3 j5:Option Value} {newId newId':String}
end
section
variable {M:Model} {A:Around} {E:Value→Shared→Prop} {s:Shared} {base:Heap} {env:Env} {outer:List Env} {L a C:Addr} {oe:Obj} {vs:Array Value}
end
end PySem
namespace L2
open PySem PySem.Spec PyProof.Rows
section
variable {X:Cx} {pn:List (Addr×Obj)} {xe:Value→Shared→Prop} {pins tU:List (Addr×Obj)} {σ:St} {H:Hp} {s:Shared} {a:Addr}
end
section
variable {X:Cx} {C W fI fW:Addr} {bm bmW:List Value} {xc n:Str} {i:Nat} {np hpos pos:Pos} {body:List Stmt} {b₀:Stmt} {suite:List Stmt} {tb:XK→TS} {ts:Addr→TS}
end
end L2
namespace Hw
open PySem L2
end Hw
namespace L2
open PySem PySem.Spec PyProof.Rows Hw
section
variable {X:Cx} {C:Addr} {k:Nat} {m:Str} {pos apos:Pos} {o:Expr} {ta:TE} {Z:Cz} {ps:List Str} {sp:Nat→Sp} {E:XK}
theorem J3 {K:PySem.W.Frag} {tg l:Expr} {tl:TE} (h:X.K=K) (hl:PE X l tl):PI X tg l (Qt K tl):=h▸eX hl
theorem Bg {K:PySem.W.Frag} (h:X.K=K) (hu:X.A.units<cLine):nV X (compareOp .Eq) (BZ K):=h▸vm hu
end
end L2
namespace Hw
open PySem L2
theorem DB {a ts:Ps} (c:Canon a) (g:Gat a ts):ts=a:=g.1.same c fun f=>g.2 f
end Hw
namespace Hw
open PySem L2
section
variable {xs:List Str} {H H' H'':Hp} {d l P:Addr} {us:List V} {cs:List Cd}
end
end Hw
namespace L2
open PySem PySem.Spec PyProof.Rows
end L2
namespace Hw
open PySem L2
inductive Ar where
 | tx (s:Str)
 | sm (a:Ps) (n:Int)
 | JP (l:List Str)
 | JY (l:List (Ps×Int))
 | cd (c:Cd)
inductive cO where
 | flat (k:Nat) (at_:Int) (as:List Ar)
 | jD (at_:Int) (c:Cd) (t e:List cO)
 | rep (at_:Int) (c:Cd) (hs:List (Int×Cd)) (f:Option (Int×Ps×Int)) (b:List cO)
def kw:Nat→Str
 | 0=>"let" | 1=>"divide" | 2=>"fetch" | 3=>"put" | 4=>"make" | 5=>"claim" | _=>"call"
def Vv:Nat→List Ar→Prop
 | 0,as=>∃x a n,as=[.tx x,.sm a n]
 | 1,as=>∃x y a n b m,as=[.tx x,.tx y,.sm a n,.sm b m]
 | 2,as=>∃x y a n,as=[.tx x,.tx y,.sm a n]
 | 3,as=>∃x a n b m,as=[.tx x,.sm a n,.sm b m]
 | 4,as=>∃x a n,as=[.tx x,.sm a n]
 | 5,as=>∃c,as=[.cd c]
 | 6,as=>∃l x q,as=[.JP l,.tx x,.JY q]
 | _,_=>False
mutual
def cO.dep:cO→Nat
 | .flat ..=>1
 | .jD _ _ t e=>max (ir t) (ir e)+1
 | .rep _ _ _ _ b=>ir b+1
def ir:List cO→Nat
 | []=>0
 | s::r=>max s.dep (ir r)
end
theorem lT {s:cO}:∀{l:List cO},s∈l→s.dep≤ir l
 | a::r,h=>by
  unfold ir
  rcases List.mem_cons.mp h with e | e
  ·rw [e];exact Nat.le_max_left _ _
  ·exact Nat.le_trans (lT e) (Nat.le_max_right _ _)
theorem oW (s:cO):1≤s.dep:=by cases s<;>simp [cO.dep]
theorem mh (c:cO):∀cs:List cO,ir (cs++[c])=max (ir cs) c.dep
 | []=>by show max c.dep (ir [])=max (ir []) c.dep;exact Nat.max_comm _ _
 | a::r=>by
  show max a.dep (ir (r++[c]))=_
  rw [mh c r]
  conv=>rhs;unfold ir
  omega
structure Cy where
 z:Cz
 st:Addr
 lt:Addr
 dv:Addr
 ft:Addr
 pt:Addr
 mq:Addr
 cm:Addr
 cl:Addr
 ch:Addr
 rp:Addr
 hp:Addr
 pg:Addr
def eY (Y:Cy):Nat→Addr
 | 0=>Y.lt | 1=>Y.dv | 2=>Y.ft | 3=>Y.pt | 4=>Y.mq | 5=>Y.cm | 6=>Y.cl | 7=>Y.ch | _=>Y.rp
def kd:cO→Nat
 | .flat k _ _=>k
 | .jD ..=>7
 | .rep ..=>8
def pH (H:Hp) (u:V) (q:Ps×Int):Prop:=∃p,u=.ref p∧dN H p q.1 q.2
def Jz (H:Hp):Ar→V→Prop
 | .tx s,v=>v=.str s
 | .sm a n,v=>∃r,v=.ref r∧dN H r a n
 | .JP l,v=>∃r,v=.ref r∧H r=some (.tup (l.map V.str))
 | .JY l,v=>∃r us,v=.ref r∧H r=some (.tup us)∧Paired (pH H) us l
 | .cd c,v=>bg H c v
def DP (H:Hp) (hs:List (Int×Cd)) (v:V):Prop:=∃t us,v=.ref t∧H t=some (.tup us)∧Paired (fun u (q:Int×Cd)=>∃r w,u=V.ref r∧H r=some (.tup [.int q.1,w])∧bg H q.2 w) us hs
def LV (H:Hp):Option (Int×Ps×Int)→V→Prop
 | none,v=>v=.dM
 | some q,v=>∃r d,v=.ref r∧H r=some (.tup [.int q.1,.ref d])∧dN H d q.2.1 q.2.2
mutual
def fE (H:Hp):cO→V→Prop
 | .flat k at_ as,v=>∃r us,v=.ref r∧H r=some (.tup (.str (kw k)::.int at_::us))∧Paired (fun u a=>Jz H a u) us as
 | .jD at_ c t e,v=>∃r uc t1 t2 us ws,v=.ref r∧H r=some (.tup [.str "choose",.int at_,uc,.ref t1,.ref t2])∧bg H c uc∧H t1=some (.tup us)∧gA H t us∧H t2=some (.tup ws)∧gA H e ws
 | .rep at_ c hs f b,v=>∃r uc uh uf t2 ws,v=.ref r∧H r=some (.tup [.str "repeat",.int at_,uc,uh,uf,.ref t2])∧bg H c uc∧DP H hs uh∧LV H f uf∧H t2=some (.tup ws)∧gA H b ws
def gA (H:Hp):List cO→List V→Prop
 | [],us=>us=[]
 | s::l,us=>∃u r,us=u::r∧fE H s u∧gA H l r
end
theorem fY {H:Hp}:∀{l:List cO} {us:List V},gA H l us↔Paired (fun u s=>fE H s u) us l
 | [],us=>by
  unfold gA
  exact ⟨fun e=>e▸.nil,fun h=>by cases h;rfl⟩
 | c::cs,us=>by
  unfold gA
  constructor
  ·rintro ⟨u,r,rfl,d1,d2⟩
   exact .cons d1 (fY.mp d2)
  ·intro h
   cases h with
   | cons d1 d2=>exact ⟨_,_,rfl,d1,fY.mpr d2⟩
theorem pH.ao {H H':Hp} {u:V} {q:Ps×Int} (k:ay H H') (h:pH H u q):pH H' u q:=let ⟨p,e,d⟩:=h;⟨p,e,d.ao k⟩
theorem Jz.ao {H H':Hp} (k:ay H H'):∀{a:Ar} {v:V},Jz H a v→Jz H' a v
 | .tx s,v,h=>h
 | .sm a n,v,⟨r,e,d⟩=>⟨r,e,d.ao k⟩
 | .JP l,v,⟨r,e,d⟩=>⟨r,e,k.t _ _ d⟩
 | .JY l,v,⟨r,us,e,d,p⟩=>⟨r,us,e,k.t _ _ d,L2.Paired.cQ p fun _ _ z=>z.ao k⟩
 | .cd c,v,h=>bg.ao k h
theorem DP.ao {H H':Hp} (k:ay H H') {hs:List (Int×Cd)} {v:V} (h:DP H hs v):DP H' hs v :=
 let ⟨t,us,e,et,p⟩:=h;⟨t,us,e,k.t _ _ et,L2.Paired.cQ p fun _ _ ⟨r,w,e,er,d⟩=>⟨r,w,e,k.t _ _ er,d.ao k⟩⟩
theorem LV.ao {H H':Hp} (k:ay H H'):∀{f:Option (Int×Ps×Int)} {v:V},LV H f v→LV H' f v
 | none,v,h=>h
 | some q,v,⟨r,d,e,er,dd⟩=>⟨r,d,e,k.t _ _ er,dd.ao k⟩
mutual
theorem fE.ao {H H':Hp} (k:ay H H'):∀{s:cO} {v:V},fE H s v→fE H' s v
 | .flat kk at_ as,v,h=>by
  unfold fE at h ⊢
  obtain ⟨r,us,e,er,p⟩:=h
  exact ⟨r,us,e,k.t _ _ er,L2.Paired.cQ p fun _ _ z=>Jz.ao k z⟩
 | .jD at_ c t e,v,h=>by
  unfold fE at h ⊢
  obtain ⟨r,uc,t1,t2,us,ws,e0,er,hc,e1,h1,e2,h2⟩:=h
  exact ⟨r,uc,t1,t2,us,ws,e0,k.t _ _ er,hc.ao k,k.t _ _ e1,gA.ao k h1,k.t _ _ e2,gA.ao k h2⟩
 | .rep at_ c hs f b,v,h=>by
  unfold fE at h ⊢
  obtain ⟨r,uc,uh,uf,t2,ws,e0,er,hc,hh,hf,e2,h2⟩:=h
  exact ⟨r,uc,uh,uf,t2,ws,e0,k.t _ _ er,hc.ao k,hh.ao k,hf.ao k,k.t _ _ e2,gA.ao k h2⟩
theorem gA.ao {H H':Hp} (k:ay H H'):∀{l:List cO} {us:List V},gA H l us→gA H' l us
 | [],us,h=>by unfold gA at h ⊢;exact h
 | c::cs,us,h=>by
  unfold gA at h ⊢
  obtain ⟨u,r,e,d1,d2⟩:=h
  exact ⟨u,r,e,fE.ao k d1,gA.ao k d2⟩
end
def DO (Z:Cz) (H:Hp) (u:V) (q:Ps×Int):Prop:=∃p,u=.ref p∧ji Z.s H p q.1 q.2
def Tg (Z:Cz) (H:Hp):Ar→V→Prop
 | .tx s,v=>v=.str s
 | .sm a n,v=>∃r,v=.ref r∧ji Z.s H r a n
 | .JP l,v=>∃r,v=.ref r∧H r=some (.tup (l.map V.str))
 | .JY l,v=>∃r us,v=.ref r∧H r=some (.tup us)∧us.length≤1000∧Paired (DO Z H) us l
 | .cd c,v=>cJ Z H c v
def Ov (Z:Cz) (H:Hp) (hs:List (Int×Cd)) (v:V):Prop:=∃t us,v=.ref t∧H t=some (.tup us)∧us.length≤1000∧Paired (fun u (q:Int×Cd)=>∃r w,u=V.ref r∧H r=some (.tup [.int q.1,w])∧cJ Z H q.2 w) us hs
def VA (Z:Cz) (H:Hp):Option (Int×Ps×Int)→V→Prop
 | none,v=>v=.dM
 | some q,v=>∃r d,v=.ref r∧H r=some (.tup [.int q.1,.ref d])∧ji Z.s H d q.2.1 q.2.2
def OR:Nat→Int→List V→List (Str×V)
 | 0,at_,[a,b]=>bu "total" b (bu "name" a (bu "at" (.int at_) []))
 | 1,at_,[a,b,c,d]=>bu "by" d (bu "total" c (bu "word" b (bu "name" a (bu "at" (.int at_) []))))
 | 2,at_,[a,b,c]=>bu "place" c (bu "row" b (bu "name" a (bu "at" (.int at_) [])))
 | 3,at_,[a,b,c]=>bu "total" c (bu "place" b (bu "row" a (bu "at" (.int at_) [])))
 | 4,at_,[a,b]=>bu "size" b (bu "row" a (bu "at" (.int at_) []))
 | 5,at_,[a]=>bu "condition" a (bu "at" (.int at_) [])
 | 6,at_,[a,b,c]=>bu "given" c (bu "helper" b (bu "names" a (bu "at" (.int at_) [])))
 | _,_,_=>[]
def flC (at_:Int) (u:V) (t1 t2:Addr):List (Str×V):=bu "other" (.ref t2) (bu "then" (.ref t1) (bu "condition" u (bu "at" (.int at_) [])))
def flR (at_:Int) (u uh uf:V) (t2:Addr):List (Str×V):=bu "body" (.ref t2) (bu "falls" uf (bu "keeps" uh (bu "condition" u (bu "at" (.int at_) []))))
mutual
def cj (Y:Cy) (H:Hp):cO→V→Prop
 | .flat k at_ as,v=>∃p dx us,v=.ref p∧Vv k as∧H p=some (.ins (eY Y k) dx (OR k at_ us))∧Paired (fun u a=>Tg Y.z H a u) us as
 | .jD at_ c t e,v=>∃p dx uc t1 t2 us ws,v=.ref p∧H p=some (.ins Y.ch dx (flC at_ uc t1 t2))∧cJ Y.z H c uc∧H t1=some (.tup us)∧us.length≤1000∧fT Y H t us∧H t2=some (.tup ws)∧ws.length≤1000∧fT Y H e ws
 | .rep at_ c hs f b,v=>∃p dx uc uh uf t2 ws,v=.ref p∧H p=some (.ins Y.rp dx (flR at_ uc uh uf t2))∧cJ Y.z H c uc∧Ov Y.z H hs uh∧VA Y.z H f uf∧H t2=some (.tup ws)∧ws.length≤1000∧fT Y H b ws
def fT (Y:Cy) (H:Hp):List cO→List V→Prop
 | [],us=>us=[]
 | s::l,us=>∃u r,us=u::r∧cj Y H s u∧fT Y H l r
end
theorem dF {Y:Cy} {H:Hp}:∀{l:List cO} {us:List V},fT Y H l us↔Paired (fun u s=>cj Y H s u) us l
 | [],us=>by
  unfold fT
  exact ⟨fun e=>e▸.nil,fun h=>by cases h;rfl⟩
 | c::cs,us=>by
  unfold fT
  constructor
  ·rintro ⟨u,r,rfl,d1,d2⟩
   exact .cons d1 (dF.mp d2)
  ·intro h
   cases h with
   | cons d1 d2=>exact ⟨_,_,rfl,d1,dF.mpr d2⟩
theorem DO.ao {Z:Cz} {H H':Hp} {u:V} {q:Ps×Int} (k:ay H H') (h:DO Z H u q):DO Z H' u q:=let ⟨p,e,d⟩:=h;⟨p,e,d.ao k⟩
theorem Tg.ao {Z:Cz} {H H':Hp} (k:ay H H'):∀{a:Ar} {v:V},Tg Z H a v→Tg Z H' a v
 | .tx s,v,h=>h
 | .sm a n,v,⟨r,e,d⟩=>⟨r,e,d.ao k⟩
 | .JP l,v,⟨r,e,d⟩=>⟨r,e,k.t _ _ d⟩
 | .JY l,v,⟨r,us,e,d,ll,p⟩=>⟨r,us,e,k.t _ _ d,ll,L2.Paired.cQ p fun _ _ z=>z.ao k⟩
 | .cd c,v,h=>cJ.ao k h
theorem Ov.ao {Z:Cz} {H H':Hp} (k:ay H H') {hs:List (Int×Cd)} {v:V} (h:Ov Z H hs v):Ov Z H' hs v :=
 let ⟨t,us,e,et,ll,p⟩:=h;⟨t,us,e,k.t _ _ et,ll,L2.Paired.cQ p fun _ _ ⟨r,w,e,er,d⟩=>⟨r,w,e,k.t _ _ er,d.ao k⟩⟩
theorem VA.ao {Z:Cz} {H H':Hp} (k:ay H H'):∀{f:Option (Int×Ps×Int)} {v:V},VA Z H f v→VA Z H' f v
 | none,v,h=>h
 | some q,v,⟨r,d,e,er,dd⟩=>⟨r,d,e,k.t _ _ er,dd.ao k⟩
mutual
theorem cj.ao {Y:Cy} {H H':Hp} (k:ay H H'):∀{s:cO} {v:V},cj Y H s v→cj Y H' s v
 | .flat kk at_ as,v,h=>by
  unfold cj at h ⊢
  obtain ⟨p,dx,us,e,sh,ep,pp⟩:=h
  exact ⟨p,dx,us,e,sh,k.i _ _ _ _ ep,L2.Paired.cQ pp fun _ _ z=>Tg.ao k z⟩
 | .jD at_ c t e,v,h=>by
  unfold cj at h ⊢
  obtain ⟨p,dx,uc,t1,t2,us,ws,e0,ep,hc,e1,l1,h1,e2,l2,h2⟩:=h
  exact ⟨p,dx,uc,t1,t2,us,ws,e0,k.i _ _ _ _ ep,hc.ao k,k.t _ _ e1,l1,fT.ao k h1,k.t _ _ e2,l2,fT.ao k h2⟩
 | .rep at_ c hs f b,v,h=>by
  unfold cj at h ⊢
  obtain ⟨p,dx,uc,uh,uf,t2,ws,e0,ep,hc,hh,hf,e2,l2,h2⟩:=h
  exact ⟨p,dx,uc,uh,uf,t2,ws,e0,k.i _ _ _ _ ep,hc.ao k,hh.ao k,hf.ao k,k.t _ _ e2,l2,fT.ao k h2⟩
theorem fT.ao {Y:Cy} {H H':Hp} (k:ay H H'):∀{l:List cO} {us:List V},fT Y H l us→fT Y H' l us
 | [],us,h=>by unfold fT at h ⊢;exact h
 | c::cs,us,h=>by
  unfold fT at h ⊢
  obtain ⟨u,r,e,d1,d2⟩:=h
  exact ⟨u,r,e,cj.ao k d1,fT.ao k d2⟩
end
theorem dG {f:Str} {v:V} {fs:List (Str×V)}:(bu f v fs).lookup f=some v:=by rw [bF,if_pos rfl]
theorem cu {f g:Str} {v w:V} {fs:List (Str×V)} (h:¬g=f) (e:fs.lookup g=some w):(bu f v fs).lookup g=some w:=by rw [bF,if_neg h];exact e
theorem iE {f g:Str} {v:V} {fs:List (Str×V)} (h:¬g=f) (e:fs.lookup g=none):(bu f v fs).lookup g=none:=by rw [bF,if_neg h];exact e
def Vw (m:Str):Prop:=∀f∈(["at","name","total","word","by","row","place","size","condition","names","helper","given","then","other","keeps","falls","body"]:List Str),¬m=f
theorem jQ {Y:Cy} {H:Hp} {s:cO} {v:V} (h:cj Y H s v):kd s<9:=by
 cases s with
 | flat k at_ as =>
  unfold cj at h
  obtain ⟨p,dx,us,e,sh,_⟩:=h
  show k<9
  match k,sh with
  | 0,_=>decide
  | 1,_=>decide
  | 2,_=>decide
  | 3,_=>decide
  | 4,_=>decide
  | 5,_=>decide
  | 6,_=>decide
 | jD=>show 7<9;decide
 | rep=>show 8<9;decide
theorem xA {Y:Cy} {H:Hp} {s:cO} {p:Addr} (h:cj Y H s (.ref p)) {m:Str} (nf:Vw m):∃dx fs,H p=some (.ins (eY Y (kd s)) dx fs)∧fs.lookup m=none:=by
 have no:∀f,f∈(["at","name","total","word","by","row","place","size","condition","names","helper","given","then","other","keeps","falls","body"]:List Str)→¬m=f:=nf
 cases s with
 | flat k at_ as =>
  unfold cj at h
  obtain ⟨q,dx,us,e,sh,ep,pp⟩:=h
  cases e
  refine ⟨dx,_,ep,?_⟩
  match k,sh with
  | 0,⟨_,_,_,e⟩=>subst e;cases pp with | cons a r=>cases r with | cons b r=>cases r;exact iE (no _ (by simp)) (iE (no _ (by simp)) (iE (no _ (by simp)) rfl))
  | 1,⟨_,_,_,_,_,_,e⟩=>subst e;cases pp with | cons a r=>cases r with | cons b r=>cases r with | cons c r=>cases r with | cons d r=>cases r;exact iE (no _ (by simp)) (iE (no _ (by simp)) (iE (no _ (by simp)) (iE (no _ (by simp)) (iE (no _ (by simp)) rfl))))
  | 2,⟨_,_,_,_,e⟩=>subst e;cases pp with | cons a r=>cases r with | cons b r=>cases r with | cons c r=>cases r;exact iE (no _ (by simp)) (iE (no _ (by simp)) (iE (no _ (by simp)) (iE (no _ (by simp)) rfl)))
  | 3,⟨_,_,_,_,_,e⟩=>subst e;cases pp with | cons a r=>cases r with | cons b r=>cases r with | cons c r=>cases r;exact iE (no _ (by simp)) (iE (no _ (by simp)) (iE (no _ (by simp)) (iE (no _ (by simp)) rfl)))
  | 4,⟨_,_,_,e⟩=>subst e;cases pp with | cons a r=>cases r with | cons b r=>cases r;exact iE (no _ (by simp)) (iE (no _ (by simp)) (iE (no _ (by simp)) rfl))
  | 5,⟨_,e⟩=>subst e;cases pp with | cons a r=>cases r;exact iE (no _ (by simp)) (iE (no _ (by simp)) rfl)
  | 6,⟨_,_,_,e⟩=>subst e;cases pp with | cons a r=>cases r with | cons b r=>cases r with | cons c r=>cases r;exact iE (no _ (by simp)) (iE (no _ (by simp)) (iE (no _ (by simp)) (iE (no _ (by simp)) rfl)))
 | jD at_ c t e =>
  unfold cj at h
  obtain ⟨q,dx,uc,t1,t2,us,ws,e0,ep,_⟩:=h
  cases e0
  exact ⟨dx,_,ep,iE (no _ (by simp)) (iE (no _ (by simp)) (iE (no _ (by simp)) (iE (no _ (by simp)) rfl)))⟩
 | rep at_ c hs f b =>
  unfold cj at h
  obtain ⟨q,dx,uc,uh,uf,t2,ws,e0,ep,_⟩:=h
  cases e0
  exact ⟨dx,_,ep,iE (no _ (by simp)) (iE (no _ (by simp)) (iE (no _ (by simp)) (iE (no _ (by simp)) (iE (no _ (by simp)) rfl))))⟩
theorem xy {Y:Cy} {H:Hp} {s:cO} {v:V} (h:cj Y H s v):∃p,v=.ref p:=by
 cases s with
 | flat=>unfold cj at h;obtain ⟨p,_,_,e,_⟩:=h;exact ⟨p,e⟩
 | jD=>unfold cj at h;obtain ⟨p,_,_,_,_,_,_,e,_⟩:=h;exact ⟨p,e⟩
 | rep=>unfold cj at h;obtain ⟨p,_,_,_,_,_,_,e,_⟩:=h;exact ⟨p,e⟩
def M9 (P:Program) (w:World) (K:PySem.W.Frag) (mg:Str→Option Value) (base:Heap) (k:Nat) (Y:Cy) (m:Str) (ps:List Str) (sp:Nat→Sp):Prop:=∀j,j<9→Mt P w K mg base k (eY Y j) m ps (sp j)
end Hw
namespace L2
open PySem PySem.Spec PyProof.Rows Hw
section
variable {X:Cx} {k:Nat} {m:Str} {pos apos:Pos} {o:Expr} {ta:TE} {Y:Cy} {ps:List Str} {sp:Nat→Sp}
def VN (Y:Cy) (sp:Nat→Sp) (ta:TE):TE:=fun σ H Q=>ta σ H fun x H1=>∃p s,x=.ref p∧cj Y H1 s (.ref p)∧sp (kd s) [.ref p] H1 Q E0
theorem wc {pl:Sem Bool} (he:PE X o ta) (cl:∀j,j<9→uY X.K (eY Y j)) (nf:Vw m) (M:M9 X.prog X.w X.K X.mg X.base k Y m ps sp) (hr:dD k X.A) (hx:Passes dg X E0)
  (ht:eval (.Call (.Attribute o m apos) [] [] pos) X.env=(do
   let ov ←eval o X.env
   standAt apos.atName
   let (f,first) ←holding [ov] (getMethod ov m pl)
   callWith pos f first (backTo pos (starEach [] X.env)) (backToKw pos (keywordEach [] X.env))):=by rfl) :
  PE X (.Call (.Attribute o m apos) [] [] pos) (VN Y sp ta):=by
 intro pins s σ H Q I h
 refine PySem.W.methodCall_KW (pl:=pl) (fz (he pins s σ H _ I h) fun u s1 ⟨x,H1,I1,rx,a,c,ex,hc,q⟩=>?_) ht
 subst ex
 obtain rfl:u=Value.ref a:=rx
 obtain ⟨dx,fs,ea,l⟩:=xA hc nf
 obtain ⟨f,fd,F,hm,hb⟩:=M (kd c) (jQ hc)
 refine ku I1 ea (cl _ (jQ hc)) hm l ?_
 exact PySem.W.callWith_K0 (first:=[.ref a]) I1.mJ hm.kp (mZ (us:=[.ref a]) (vs:=[.ref a]) F hr hb .nil hx I1 (.cons rfl .nil) q)
end
end L2
namespace Hw
open PySem L2
def uD (a:Ps) (n:Int):Prop:=Canon a∧Lt3 a∧Small n
def BJ (c:Cd):Prop:=(∃xs,Gd xs c)∧c.dep≤3
def Ar.ok:Ar→Prop
 | .tx _=>True
 | .sm a n=>uD a n
 | .JP l=>l.length≤20
 | .JY l=>l.length≤20∧∀q∈l,uD q.1 q.2
 | .cd c=>BJ c
mutual
def cO.ok:cO→Prop
 | .flat k _ as=>Vv k as∧∀a∈as,a.ok
 | .jD _ c t e=>BJ c∧t.length≤10∧e.length≤10∧qW t∧qW e
 | .rep _ c hs f b=>BJ c∧hs.length≤10∧(∀q∈hs,BJ q.2)∧(∀q,f=some q→uD q.2.1 q.2.2)∧b.length≤10∧qW b
def qW:List cO→Prop
 | []=>True
 | s::r=>s.ok∧qW r
end
theorem oN {s:cO}:∀{l:List cO},qW l→s∈l→s.ok
 | a::r,h,m=>by
  unfold qW at h
  rcases List.mem_cons.mp m with e | e
  ·rw [e];exact h.1
  ·exact oN h.2 e
theorem tX {s:cO}:∀{l:List cO},qW l→s.ok→qW (l++[s])
 | [],_,h=>by unfold qW;exact ⟨h,by unfold qW;trivial⟩
 | a::r,g,h=>by
  unfold qW at g
  show qW (a::(r++[s]))
  unfold qW
  exact ⟨g.1,tX g.2 h⟩
structure Hl where
 at_:Int
 nm:Str
 ps:List Str
 an:List Str
 nd:List (Int×Cd)
 gv:List (Int×Cd)
 st:List cO
def wX (h:Hl) (t1 t2:Addr) (v1 v2:V) (t3:Addr):List (Str×V):=bu "steps" (.ref t3) (bu "gives" v2 (bu "needs" v1 (bu "answers" (.ref t2) (bu "params" (.ref t1) (bu "name" (.str h.nm) (bu "at" (.int h.at_) []))))))
def qJ (Y:Cy) (H:Hp) (h:Hl) (v:V):Prop:=∃p dx t1 t2 v1 v2 t3 us,v=.ref p∧H p=some (.ins Y.hp dx (wX h t1 t2 v1 v2 t3))∧H t1=some (.tup (h.ps.map V.str))∧H t2=some (.tup (h.an.map V.str))∧Ov Y.z H h.nd v1∧Ov Y.z H h.gv v2∧H t3=some (.tup us)∧us.length≤1000∧fT Y H h.st us
def nU (H:Hp) (h:Hl) (v:V):Prop:=∃r t1 t2 v1 v2 t3 us,v=.ref r∧H r=some (.tup [.str "helper",.int h.at_,.str h.nm,.ref t1,.ref t2,v1,v2,.ref t3])∧H t1=some (.tup (h.ps.map V.str))∧H t2=some (.tup (h.an.map V.str))∧DP H h.nd v1∧DP H h.gv v2∧H t3=some (.tup us)∧gA H h.st us
theorem qJ.ao {Y:Cy} {H H':Hp} (k:ay H H') {h:Hl} {v:V} (g:qJ Y H h v):qJ Y H' h v:=by
 obtain ⟨p,dx,t1,t2,v1,v2,t3,us,e,ep,e1,e2,h1,h2,e3,l,hs⟩:=g
 exact ⟨p,dx,t1,t2,v1,v2,t3,us,e,k.i _ _ _ _ ep,k.t _ _ e1,k.t _ _ e2,h1.ao k,h2.ao k,k.t _ _ e3,l,hs.ao k⟩
theorem nU.ao {H H':Hp} (k:ay H H') {h:Hl} {v:V} (g:nU H h v):nU H' h v:=by
 obtain ⟨r,t1,t2,v1,v2,t3,us,e,ep,e1,e2,h1,h2,e3,hs⟩:=g
 exact ⟨r,t1,t2,v1,v2,t3,us,e,k.t _ _ ep,k.t _ _ e1,k.t _ _ e2,h1.ao k,h2.ao k,k.t _ _ e3,hs.ao k⟩
structure Hl.ok (h:Hl):Prop where
 ps:h.ps.length≤10
 an:h.an.length≤10
 nl:h.nd.length≤10
 nd:∀q∈h.nd,BJ q.2
 gl:h.gv.length≤10
 gv:∀q∈h.gv,BJ q.2
 sl:h.st.length≤10
 st:qW h.st
 dp:ir h.st≤3
def fN:Nat→List Str
 | 0=>["at","name","total"] | 1=>["at","name","word","total","by"] | 2=>["at","name","row","place"] | 3=>["at","row","place","total"] | 4=>["at","row","size"] | 5=>["at","condition"] | 6=>["at","names","helper","given"]
 | 7=>["at","condition","then","other"] | _=>["at","condition","keeps","falls","body"]
def hN:List Str:=["at","name","params","answers","needs","gives","steps"]
structure eW (K:PySem.W.Frag) (mg:Str→Option Value) (Y:Cy) (fS:Addr):Prop where
 cl:∀j,j<9→uY K (eY Y j)
 na:∀j x,j<9→x∈fN j→eZ K (eY Y j) x
 ch:uY K Y.hp
 nh:∀x∈hN,eZ K Y.hp x
 cp:uY K Y.pg
 np:eZ K Y.pg "helpers"
 JD:mg "Step"=some (.ref Y.st)
 mg0:mg "Let"=some (.ref Y.lt)
 mg1:mg "Divide"=some (.ref Y.dv)
 mg2:mg "Fetch"=some (.ref Y.ft)
 mg3:mg "Put"=some (.ref Y.pt)
 mg4:mg "Make"=some (.ref Y.mq)
 mg5:mg "Claim"=some (.ref Y.cm)
 mg6:mg "Call"=some (.ref Y.cl)
 mg7:mg "Choose"=some (.ref Y.ch)
 mg8:mg "Repeat"=some (.ref Y.rp)
 mgH:mg "Helper"=some (.ref Y.hp)
 mgP:mg "Program"=some (.ref Y.pg)
 g1:PySem.W.specialIn K (.ref Y.st) "__getattribute__"=some (some (.builtin "type.__getattribute__"))
 g2:PySem.W.readsIn K Y.st (.type "type")=true
 g3:PySem.W.findCls K (.ref Y.st) (.type "type") "__init__"=some (.val (.ref fS))
 g4:PySem.W.handedIn (.ref fS)=true
 g5:PySem.W.keepIn K (.ref fS)=true
def kK (Y:Cy):Sp:=fun vs H Q _=>∃(p dx:Addr) (a:Int) (j:Nat),vs=[.ref p,.int a]∧j<9∧("at":Str)∈fN j∧H p=some (.ins (eY Y j) dx [])∧∀H',bz p H H'→H' p=some (.ins (eY Y j) dx (bu "at" (.int a) []))→Q .dM H'
def mE (Y:Cy) (k:Nat):Sp:=fun vs H Q _=>∃(p dx:Addr) (a:Int) (v1:V),vs=[.ref p,.int a,v1]∧H p=some (.ins (eY Y k) dx [])∧∀H',bz p H H'→H' p=some (.ins (eY Y k) dx (OR k a [v1]))→Q .dM H'
def qQ (Y:Cy) (k:Nat):Sp:=fun vs H Q _=>∃(p dx:Addr) (a:Int) (v1 v2:V),vs=[.ref p,.int a,v1,v2]∧H p=some (.ins (eY Y k) dx [])∧∀H',bz p H H'→H' p=some (.ins (eY Y k) dx (OR k a [v1,v2]))→Q .dM H'
def qP (Y:Cy) (k:Nat):Sp:=fun vs H Q _=>∃(p dx:Addr) (a:Int) (v1 v2 v3:V),vs=[.ref p,.int a,v1,v2,v3]∧H p=some (.ins (eY Y k) dx [])∧∀H',bz p H H'→H' p=some (.ins (eY Y k) dx (OR k a [v1,v2,v3]))→Q .dM H'
def BW (Y:Cy) (k:Nat):Sp:=fun vs H Q _=>∃(p dx:Addr) (a:Int) (v1 v2 v3 v4:V),vs=[.ref p,.int a,v1,v2,v3,v4]∧H p=some (.ins (eY Y k) dx [])∧∀H',bz p H H'→H' p=some (.ins (eY Y k) dx (OR k a [v1,v2,v3,v4]))→Q .dM H'
def BX (Y:Cy):Sp:=fun vs H Q _=>∃(p dx l1 l2:Addr) (a:Int) (v:V) (us ws:List V),vs=[.ref p,.int a,.ref l1,v,.ref l2]∧H p=some (.ins Y.cl dx [])∧H l1=some (.lst us)∧H l2=some (.lst ws) ∧
 ∀(t1 t2:Addr) (H':Hp),bz p H H'→H' p=some (.ins Y.cl dx (OR 6 a [.ref t1,v,.ref t2]))→H' t1=some (.tup us)→H' t2=some (.tup ws)→Q .dM H'
def mF (Y:Cy):Sp:=fun vs H Q _=>∃(p dx l1 l2:Addr) (a:Int) (v:V) (us ws:List V),vs=[.ref p,.int a,v,.ref l1,.ref l2]∧H p=some (.ins Y.ch dx [])∧H l1=some (.lst us)∧H l2=some (.lst ws) ∧
 ∀(t1 t2:Addr) (H':Hp),bz p H H'→H' p=some (.ins Y.ch dx (flC a v t1 t2))→H' t1=some (.tup us)→H' t2=some (.tup ws)→Q .dM H'
def BY:Sp:=fun vs H Q _=>∃(l:Addr) (us:List V),vs=[.ref l]∧H l=some (.lst us)∧us.length≤1000∧(∀u∈us,∃r xs,u=V.ref r∧H r=some (.tup xs))∧∀(t:Addr) (H':Hp),aH H H'→H' t=some (.tup us)→Q (.ref t) H'
def mD (Y:Cy):Sp:=fun vs H Q _=>∃(p dx l1 l2:Addr) (a:Int) (v f:V) (us ws:List V),vs=[.ref p,.int a,v,.ref l1,f,.ref l2]∧H p=some (.ins Y.rp dx [])∧H l1=some (.lst us)∧us.length≤1000∧(∀u∈us,∃r xs,u=V.ref r∧H r=some (.tup xs))∧H l2=some (.lst ws) ∧
 ∀(t1 t2:Addr) (H':Hp),bz p H H'→H' p=some (.ins Y.rp dx (flR a v (.ref t1) f t2))→H' t1=some (.tup us)→H' t2=some (.tup ws)→Q .dM H'
def EL (Y:Cy):Sp:=fun vs H Q _=>∃(p dx l1 l2 l3 l4 l5:Addr) (h:Hl) (ns gs ws:List V),vs=[.ref p,.int h.at_,.str h.nm,.ref l1,.ref l2,.ref l3,.ref l4,.ref l5]∧H p=some (.ins Y.hp dx [])∧H l1=some (.lst (h.ps.map V.str))∧H l2=some (.lst (h.an.map V.str)) ∧
 H l3=some (.lst ns)∧ns.length≤1000∧(∀u∈ns,∃r xs,u=V.ref r∧H r=some (.tup xs))∧H l4=some (.lst gs)∧gs.length≤1000∧(∀u∈gs,∃r xs,u=V.ref r∧H r=some (.tup xs))∧H l5=some (.lst ws) ∧
 ∀(t1 t2 t3 t4 t5:Addr) (H':Hp),bz p H H'→H' p=some (.ins Y.hp dx (wX h t1 t2 (.ref t3) (.ref t4) t5))→H' t1=some (.tup (h.ps.map V.str))→H' t2=some (.tup (h.an.map V.str))→H' t3=some (.tup ns)→H' t4=some (.tup gs)→H' t5=some (.tup ws)→Q .dM H'
def qN (Y:Cy):Sp:=fun vs H Q _=>∃(p dx l:Addr) (us:List V),vs=[.ref p,.ref l]∧H p=some (.ins Y.pg dx [])∧H l=some (.lst us)∧∀(t:Addr) (H':Hp),bz p H H'→H' p=some (.ins Y.pg dx (bu "helpers" (.ref t) []))→H' t=some (.tup us)→Q .dM H'
def BS (Z:Cz):Sp:=fun vs H Q _=>∃(t:Addr) (us:List V) (qs:List (Ps×Int)),vs=[.ref t]∧H t=some (.tup us)∧us.length≤1000∧Paired (DO Z H) us qs∧∀(r:Addr) (ws:List V) (H':Hp),aH H H'→H' r=some (.tup ws)→Paired (pH H') ws qs→Q (.ref r) H'
def xD (Y:Cy) (n:Nat):Sp:=fun vs H Q _=>∃(t:Addr) (us:List V) (l:List cO),vs=[.ref t]∧H t=some (.tup us)∧us.length≤1000∧fT Y H l us∧ir l≤n∧qW l∧∀(r:Addr) (ws:List V) (H':Hp),aH H H'→H' r=some (.tup ws)→gA H' l ws→Q (.ref r) H'
def EJ (Y:Cy):Sp:=fun vs H Q _=>∃(t:Addr) (us:List V) (l:List Hl),vs=[.ref t]∧H t=some (.tup us)∧us.length≤1000∧Paired (fun u h=>qJ Y H h u) us l∧(∀h∈l,h.ok)∧∀(r:Addr) (ws:List V) (H':Hp),aH H H'→H' r=some (.tup ws)→Paired (fun u h=>nU H' h u) ws l→Q (.ref r) H'
def xC (Z:Cz):Sp:=fun vs H Q _=>∃(v:V) (hs:List (Int×Cd)),vs=[v]∧Ov Z H hs v∧(∀q∈hs,q.2.dep≤3)∧∀(v':V) (H':Hp),aH H H'→DP H' hs v'→Q v' H'
def dH (Y:Cy) (n:Nat):Nat→Sp:=fun j vs H Q _=>∃(p:Addr) (s:cO),vs=[.ref p]∧kd s=j∧cj Y H s (.ref p)∧s.dep≤n∧s.ok∧∀(v:V) (H':Hp),aH H H'→fE H' s v→Q v H'
theorem My (Y:Cy):∀j vs H Q E,¬dH Y 0 j vs H Q E:=fun _ _ _ _ _ ⟨_,s,_,_,_,d,_⟩=>by have:=oW s;omega
def rX (Y:Cy):Sp:=fun vs H Q _=>∃(p:Addr) (h:Hl),vs=[.ref p]∧qJ Y H h (.ref p)∧h.ok∧∀(v:V) (H':Hp),aH H H'→nU H' h v→Q v H'
def rP (Y:Cy) (H:Hp) (p:Addr) (us:List V) (l:List Hl):Prop:=∃dx t,H p=some (.ins Y.pg dx (bu "helpers" (.ref t) []))∧H t=some (.tup us)∧us.length≤1000∧Paired (fun u h=>qJ Y H h u) us l
def jl (Y:Cy):Sp:=fun vs H Q _=>∃(p:Addr) (us:List V) (l:List Hl),vs=[.ref p]∧rP Y H p us l∧(∀h∈l,h.ok)∧∀(r:Addr) (ws:List V) (H':Hp),aH H H'→H' r=some (.tup ws)→Paired (fun u h=>nU H' h u) ws l→Q (.ref r) H'
def jA (x:Str):List V→List Hl→V
 | u::us,h::l=>if h.nm=x then u else jA x us l
 | _,_=>.dM
def jm (Y:Cy):Sp:=fun vs H Q _=>∃(p:Addr) (x:Str) (us:List V) (l:List Hl),vs=[.ref p,.str x]∧rP Y H p us l∧∀H',aH H H'→Q (jA x us l) H'
theorem HL {P:Program} {w:World} {K:PySem.W.Frag} {mg:Str→Option Value} {base:Heap} {Y:Cy} {m:Str} {ps:List Str} {sp:Nat→Nat→Sp} {lv:Nat→Nat} (f:Nat→Addr) (fd:Nat→FuncData)
  (hm:∀j,j<9→Meth K (eY Y j) m (f j)) (hb:∀j,j<9→Binds K (fd j) ps []) (h0:∀j vs H Q E,¬sp 0 j vs H Q E)
  (hs:∀n,M9 P w K mg base (lv n) Y m ps (sp n)→∀j,j<9→bH P w K mg base dg (lv (n+1)) (f j) (fd j) ps (sp (n+1) j)):∀n,M9 P w K mg base (lv n) Y m ps (sp n)
 | 0=>fun j hj=>⟨f j,fd j,qG (h0 j),hm j hj,hb j hj⟩
 | n+1=>fun j hj=>⟨f j,fd j,hs n (HL f fd hm hb h0 hs n) j hj,hm j hj,hb j hj⟩
theorem lJ:Vw "told":=by unfold Vw;decide +kernel
theorem lQ {c A B:Prop} [Decidable c] (hc:¬c) (h:A):if (!decide c)=true then A else B:=by
 rw [decide_eq_false hc]
 exact h
end Hw
namespace Hw
open PySem L2
structure nS (x:Str):Prop where
 le:x.length≤8
 ge:1≤x.length
 no:(cp x).head?≠some 35
def O0 (x:Str):Prop:=∃c,x=yw c∧97≤c
theorem O0.len {x:Str} (h:O0 x):x.length=1:=by obtain ⟨c,rfl,_⟩:=h;rfl
theorem Kf {cs:List Str} (h:∀x∈cs,O0 x) (h1:1≤cs.length) (h8:cs.length≤8):nS (Txt.join (Str.ofString "") cs):=by
 have l:=Iw cs fun x hx=>(h x hx).len
 refine ⟨by omega,by omega,?_⟩
 rw [BA]
 cases cs with
 | nil=>exact absurd h1 (by decide)
 | cons a r =>
  obtain ⟨c,rfl,hc⟩:=h a (List.mem_cons_self ..)
  show (some c:Option Nat)≠some 35
  intro e
  have:=Option.some.inj e
  omega
theorem ur {x:Str} (h:x∈jP):nS x:=by
 have a:∀x∈jP,x.length≤8∧1≤x.length∧(cp x).head?≠some 35:=by decide +kernel
 exact ⟨(a x h).1,(a x h).2.1,(a x h).2.2⟩
theorem uZ (k:Int) (t:Nat):nS (zt k t):=by
 unfold zt
 refine ⟨by rw [Ei];decide,by rw [Ei];decide,?_⟩
 unfold cp
 rw [vK]
 exact fun e=>nomatch e
theorem ng {α:Type} {a:α}:∀{l:List α},l.Nodup→a ∉ l→(l++[a]).Nodup:=fun h n=>List.nodup_append.mpr ⟨h,by simp,fun x hx y hy=>by rw [List.mem_singleton.mp hy];exact fun e=>n (e▸hx)⟩
def sU:Sp:=fun vs H Q _=>∃(d:Addr) (m:Nat),vs=[.ref d,.int m]∧Dr H d∧m≤12 ∧
 ∀(l:Addr) (xs:List Str) (H':Hp),bz d H H'→Dr H' d→H l=none→H' l=some (.lst (xs.map V.str))→xs.length=m→(∀x∈xs,nS x)→xs.Nodup→Q (.ref l) H'
def fM:Sp:=fun vs H Q _=>∃(d l:Addr) (xs:List Str),vs=[.ref d,.ref l]∧Dr H d∧H l=some (.lst (xs.map V.str))∧xs.length≤100∧(∀x∈xs,x.length≤100) ∧
 ∀(r:Addr) (ts:Ps) (n:Int) (H':Hp),bz d H H'→Dr H' d→dN H' r ts n→Canon ts→Lt3 ts→(∀p∈ts,p.1∈xs)→Small n→Q (.ref r) H'
def cU (n:Nat):Sp:=fun vs H Q _=>∃(d l:Addr) (k:Nat) (xs:List Str),vs=[.ref d,.ref l,.int k]∧k<n∧Dr H d∧H l=some (.lst (xs.map V.str))∧xs.length≤100∧(∀x∈xs,x.length≤100) ∧
 ∀(v:V) (c:Cd) (H':Hp),bz d H H'→Dr H' d→bg H' c v→c.dep≤k+1→Gd xs c→Q v H'
theorem MJ:∀vs H Q E,¬cU 0 vs H Q E:=fun _ _ _ _ ⟨_,_,_,_,_,h,_⟩=>absurd h (by omega)
def KU (H:Hp):Option (Int×Ps×Int)→V→Prop
 | none,v=>v=.dM
 | some q,v=>∃d,v=.ref d∧dN H d q.2.1 q.2.2
def fV (H:Hp) (hs:List (Int×Cd)) (v:V):Prop:=∃t us,v=.ref t∧H t=some (.tup us)∧Paired (fun u (q:Int×Cd)=>bg H q.2 u) us hs
mutual
def lV (H:Hp):cO→V→Prop
 | .flat k _ as,v=>∃r us,v=.ref r∧H r=some (.tup (.str (kw k)::us))∧Paired (fun u a=>Jz H a u) us as
 | .jD _ c t e,v=>∃r uc t1 t2 us ws,v=.ref r∧H r=some (.tup [.str "choose",uc,.ref t1,.ref t2])∧bg H c uc∧H t1=some (.tup us)∧gS H t us∧H t2=some (.tup ws)∧gS H e ws
 | .rep _ c hs f b,v=>∃r uc uh uf t2 ws,v=.ref r∧H r=some (.tup [.str "repeat",uc,uh,uf,.ref t2])∧bg H c uc∧fV H hs uh∧KU H f uf∧H t2=some (.tup ws)∧gS H b ws
def gS (H:Hp):List cO→List V→Prop
 | [],us=>us=[]
 | s::l,us=>∃u r,us=u::r∧lV H s u∧gS H l r
end
theorem gY {H:Hp}:∀{l:List cO} {us:List V},gS H l us↔Paired (fun u s=>lV H s u) us l
 | [],us=>by
  unfold gS
  exact ⟨fun e=>e▸.nil,fun h=>by cases h;rfl⟩
 | c::cs,us=>by
  unfold gS
  constructor
  ·rintro ⟨u,r,rfl,d1,d2⟩
   exact .cons d1 (gY.mp d2)
  ·intro h
   cases h with
   | cons d1 d2=>exact ⟨_,_,rfl,d1,gY.mpr d2⟩
theorem fV.ao {H H':Hp} (k:ay H H') {hs:List (Int×Cd)} {v:V} (h:fV H hs v):fV H' hs v :=
 let ⟨t,us,e,et,p⟩:=h;⟨t,us,e,k.t _ _ et,L2.Paired.cQ p fun _ _ z=>bg.ao k z⟩
theorem KU.ao {H H':Hp} (k:ay H H'):∀{f:Option (Int×Ps×Int)} {v:V},KU H f v→KU H' f v
 | none,v,h=>h
 | some q,v,⟨d,e,dd⟩=>⟨d,e,dd.ao k⟩
mutual
theorem lV.ao {H H':Hp} (k:ay H H'):∀{s:cO} {v:V},lV H s v→lV H' s v
 | .flat kk at_ as,v,h=>by
  unfold lV at h ⊢
  obtain ⟨r,us,e,er,p⟩:=h
  exact ⟨r,us,e,k.t _ _ er,L2.Paired.cQ p fun _ _ z=>Jz.ao k z⟩
 | .jD at_ c t e,v,h=>by
  unfold lV at h ⊢
  obtain ⟨r,uc,t1,t2,us,ws,e0,er,hc,e1,h1,e2,h2⟩:=h
  exact ⟨r,uc,t1,t2,us,ws,e0,k.t _ _ er,hc.ao k,k.t _ _ e1,gS.ao k h1,k.t _ _ e2,gS.ao k h2⟩
 | .rep at_ c hs f b,v,h=>by
  unfold lV at h ⊢
  obtain ⟨r,uc,uh,uf,t2,ws,e0,er,hc,hh,hf,e2,h2⟩:=h
  exact ⟨r,uc,uh,uf,t2,ws,e0,k.t _ _ er,hc.ao k,hh.ao k,hf.ao k,k.t _ _ e2,gS.ao k h2⟩
theorem gS.ao {H H':Hp} (k:ay H H'):∀{l:List cO} {us:List V},gS H l us→gS H' l us
 | [],us,h=>by unfold gS at h ⊢;exact h
 | c::cs,us,h=>by
  unfold gS at h ⊢
  obtain ⟨u,r,e,d1,d2⟩:=h
  exact ⟨u,r,e,lV.ao k d1,gS.ao k d2⟩
end
def Ef (H:Hp) (h:Hl) (v:V):Prop:=∃r t1 t2 v1 v2 t3 us,v=.ref r∧H r=some (.tup [.str h.nm,.ref t1,.ref t2,v1,v2,.ref t3])∧H t1=some (.tup (h.ps.map V.str))∧H t2=some (.tup (h.an.map V.str))∧fV H h.nd v1∧fV H h.gv v2∧H t3=some (.tup us)∧gS H h.st us
theorem Ef.ao {H H':Hp} (k:ay H H') {h:Hl} {v:V} (g:Ef H h v):Ef H' h v:=by
 obtain ⟨r,t1,t2,v1,v2,t3,us,e,ep,e1,e2,h1,h2,e3,hs⟩:=g
 exact ⟨r,t1,t2,v1,v2,t3,us,e,k.t _ _ ep,k.t _ _ e1,k.t _ _ e2,h1.ao k,h2.ao k,k.t _ _ e3,hs.ao k⟩
structure Hl.nms (h:Hl):Prop where
 nm:nS h.nm
 ps:∀x∈h.ps,1≤x.length∧x.length≤20
 an:∀x∈h.an,x.length≤20
def xF:Sp:=fun vs H Q _=>∃(v:V) (d:Addr) (hs:List (Int×Cd)),vs=[v,.ref d]∧fV H hs v∧Dr H d∧hs.length≤10∧∀(v':V) (hs':List (Int×Cd)) (H':Hp),bz d H H'→Dr H' d→DP H' hs' v'→hs'.length=hs.length→((∀q∈hs,BJ q.2)→∀q∈hs',BJ q.2)→Q v' H'
def EK (n:Nat):Sp:=fun vs H Q _=>∃(v:V) (d:Addr) (s:cO),vs=[v,.ref d]∧lV H s v∧s.ok∧s.dep≤n∧Dr H d∧∀(v':V) (s':cO) (H':Hp),bz d H H'→Dr H' d→fE H' s' v'→s'.ok→s'.dep=s.dep→Q v' H'
def BU (n:Nat):Sp:=fun vs H Q _=>∃(t d:Addr) (us:List V) (l:List cO),vs=[.ref t,.ref d]∧H t=some (.tup us)∧gS H l us∧qW l∧ir l≤n∧l.length≤10∧Dr H d∧∀(r:Addr) (ws:List V) (l':List cO) (H':Hp),bz d H H'→Dr H' d→H' r=some (.tup ws)→gA H' l' ws→qW l'→ir l'=ir l→l'.length=l.length→Q (.ref r) H'
theorem pl0:∀vs H Q E,¬EK 0 vs H Q E:=fun _ _ _ _ ⟨_,_,s,_,_,_,d,_⟩=>by have:=oW s;omega
def qM:Sp:=fun vs H Q _=>∃(v:V) (d:Addr) (h:Hl),vs=[v,.ref d]∧Ef H h v∧h.ok∧Dr H d∧∀(v':V) (h':Hl) (H':Hp),bz d H H'→Dr H' d→nU H' h' v'→h'.ok→h'.nm=h.nm→Q v' H'
def lX (Z:Cz):Sp:=fun vs H Q _=>∃(p:Addr) (a:Ps) (n:Int),vs=[.ref p]∧dN H p a n∧uD a n∧∀(r:Addr) (H':Hp),aH H H'→ji Z.s H' r a n→Q (.ref r) H'
def fP (Z:Cz) (n:Nat):Sp:=fun vs H Q _=>∃(v:V) (c:Cd) (xs:List Str),vs=[v]∧bg H c v∧c.dep≤n∧Gd xs c∧∀(v':V) (H':Hp),aH H H'→cJ Z H' c v'→Q v' H'
theorem LC (k:Nat):¬kw k="choose"∧¬kw k="repeat":=by
 unfold kw
 split<;>exact ⟨by decide +kernel,by decide +kernel⟩
theorem xg (x y:V) (us:List V):kD (x::y::us) none (some 2)=[x,y]:=by
 unfold kD
 have e1:HT.gw (x::y::us).length 0 none=0:=rfl
 have e2:HT.gw (x::y::us).length (x::y::us).length (some 2)=2:=by
  have:=HT.j8 (x::y::us).length (x::y::us).length 2
  rw [show (some (2:Int))=some ((2:Nat):Int) from rfl,this]
  show min 2 (us.length+1+1)=2
  omega
 rw [e1,e2]
 rfl
theorem pB {x y:V} {us:List V} (h:1≤us.length):¬(HT.gw (x::y::us).length 0 none=0∧HT.gw (x::y::us).length (x::y::us).length (some 2)=(x::y::us).length):=by
 have e2:HT.gw (x::y::us).length (x::y::us).length (some 2)=2:=by
  have:=HT.j8 (x::y::us).length (x::y::us).length 2
  rw [show (some (2:Int))=some ((2:Nat):Int) from rfl,this]
  show min 2 (us.length+1+1)=2
  omega
 rw [e2]
 intro z
 have z2:2=us.length+1+1:=z.2
 omega
def n9 (Z:Cz):Sp:=fun vs H Q _=>∃(v:V) (hs:List (Int×Cd)),vs=[v]∧DP H hs v∧hs.length≤10∧(∀q∈hs,BJ q.2)∧∀(l:Addr) (us:List V) (H':Hp),aH H H'→H l=none→H' l=some (.lst us)→Paired (fun u (q:Int×Cd)=>∃r w,u=V.ref r∧H' r=some (.tup [.int q.1,w])∧cJ Z H' q.2 w) us hs→Q (.ref l) H'
def jE (Y:Cy) (n:Nat):Sp:=fun vs H Q _=>∃(t:Addr) (us:List V) (l:List cO),vs=[.ref t]∧H t=some (.tup us)∧gA H l us∧qW l∧ir l≤n∧l.length≤10∧∀(q:Addr) (ws:List V) (H':Hp),aH H H'→H q=none→H' q=some (.lst ws)→fT Y H' l ws→Q (.ref q) H'
def xE (Y:Cy) (n:Nat):Sp:=fun vs H Q _=>∃(v:V) (s:cO),vs=[v]∧fE H s v∧s.ok∧s.dep≤n∧∀(v':V) (H':Hp),aH H H'→cj Y H' s v'→Q v' H'
theorem VZ (Y:Cy):∀vs H Q E,¬xE Y 0 vs H Q E:=fun _ _ _ _ ⟨_,s,_,_,_,d,_⟩=>by have:=oW s;omega
def qO (Y:Cy):Sp:=fun vs H Q _=>∃(v:V) (h:Hl),vs=[v]∧nU H h v∧h.ok∧∀(v':V) (H':Hp),aH H H'→qJ Y H' h v'→Q v' H'
end Hw
namespace L2
open PySem PySem.Spec PyProof.Rows
def notStar:Expr→Bool
 | .Starred ..=>false
 | _=>true
theorem jj {e:Expr} {es:List Expr} {env:Env} (h:notStar e=true):starEach (e::es) env=(false,eval e env)::starEach es env:=by
 cases e<;>first | rfl | cases h
theorem jL {pos:Pos} {env:Env}:∀{es:List Expr},es.all notStar=true→(backTo pos (starEach es env)).any (·.1)=false
 | [],_=>rfl
 | e::es,h=>by
  have h:(notStar e&&es.all notStar)=true:=h
  rw [Bool.and_eq_true] at h
  rw [jj h.1]
  show (false||(backTo pos (starEach es env)).any (·.1))=false
  rw [jL h.2]
  rfl
theorem xB {pos:Pos} {env:Env}:∀{es:List Expr},es.all notStar=true→(backTo pos (starEach es env)).all (fun x=>!x.1)=true
 | [],_=>rfl
 | e::es,h=>by
  have h:(notStar e&&es.all notStar)=true:=h
  rw [Bool.and_eq_true] at h
  rw [jj h.1]
  show (true&&(backTo pos (starEach es env)).all (fun x=>!x.1))=true
  rw [xB h.2]
  rfl
section
variable {X:Cx} {CX:DV} {k:Nat} {f C:Addr} {fd:FuncData} {ps:List Str} {sp:Sp} {pM:List V} {ds:List Value} {E:XK} {x:Str} {p pos:Pos} {e:Expr} {es:List Expr} {te:TE} {t:TA}
theorem aa (ha:PE X e te) (hr:PA X es t) (h:notStar e=true:=by rfl):PA X (e::es) (Lu te t):=di ha hr (jj h)
theorem au (F:bH X.prog X.w X.K X.mg X.base CX k f fd ps sp) (hr:dD k X.A) (hg:Gl X x) (hm:X.mg x=some (.ref f)) (hk:PySem.W.keepIn X.K (.ref f)=true) (hb:Binds X.K fd ps ds) (hd:Vals pM ds) (hx:Passes CX X E)
  (ha:PA X (e::es) t) (h1:notStar e=true:=by rfl) (h2:es.all notStar=true:=by rfl) (hdb:(x == ("__debug__":Str))=false:=by decide):PE X (.Call (.Name x p) (e::es) [] pos) (BN sp pM E t) :=
 J4 F hr hg hm hk hb hd hx ha hdb (jj h1) (jL h2)
theorem dh (M:Mk X.K C f) (F:bH X.prog X.w X.K X.mg X.base CX k f fd ps sp) (hr:dD (k+1) X.A) (hg:Gl X x) (hm:X.mg x=some (.ref C)) (hb:Binds X.K fd ps ds) (hd:Vals pM ds) (hx:Passes CX X E)
  (ha:PA X (e::es) t) (h1:notStar e=true:=by rfl) (h2:es.all notStar=true:=by rfl) (hdb:(x == ("__debug__":Str))=false:=by decide):PE X (.Call (.Name x p) (e::es) [] pos) (Lr C sp pM E t) :=
 Ci M F hr hg hm hb hd hx ha hdb (jj h1) (jL h2)
theorem bA {id:String} {r:List V→Hp→VK→Prop} (hc:kF X (.builtin id) r) (hg:Gl X x) (hm:X.mg x=none) (hv:bootBuiltins x=some (.builtin id)) (ha:PA X (e::es) t) (h1:notStar e=true:=by rfl) (h2:es.all notStar=true:=by rfl) (hn:x≠"__name__":=by decide) (hdb:(x == ("__debug__":Str))=false:=by decide) :
  PE X (.Call (.Name x p) (e::es) [] pos) (Tn r t):=xR hc hg hm hv ha hn hdb (jj h1) (jL h2)
theorem aU {T:String} {r:List V→Hp→VK→Prop} (hc:kF X (.type T) r) (hg:Gl X x) (hm:X.mg x=none) (hv:bootBuiltins x=some (.type T)) (ha:PA X (e::es) t) (h1:notStar e=true:=by rfl) (h2:es.all notStar=true:=by rfl) (hn:x≠"__name__":=by decide) (hdb:(x == ("__debug__":Str))=false:=by decide) :
  PE X (.Call (.Name x p) (e::es) [] pos) (Tn r t):=ia hc hg hm hv ha hn hdb (jj h1) (jL h2)
theorem m6 {T id:String} {name:Str} {r:V→List V→Hp→VK→Prop} {o:Expr} {to:TE} {apos cpos:Pos} (pa:PlainAttrs T) (slot:Slot T name id) (hty:typeOf (.builtin id)=pure (.type "method_descriptor")) (hm:Vx X id r) (ho:PE X o to) (ha:PA X (e::es) t)
  (h1:notStar e=true:=by rfl) (h2:es.all notStar=true:=by rfl) (h3:es.length<20:=by decide) (hbase:attributeBase o name X.env (eval o X.env)=eval o X.env:=by rfl) (hline:(apos.endLine == cpos.line)=true:=by rfl) :
  PE X (.Call (.Attribute o name apos) (e::es) [] cpos) (tBM X.K T r to t) :=
 PC pa slot hty hm ho ha hbase (by
  rw [xB (show (e::es).all notStar=true by show (notStar e&&es.all notStar)=true;rw [h1,h2];rfl)]
  show (true&&true&&decide (es.length+1+0+0<30))=true
  rw [decide_eq_true (by omega)]
  rfl) hline (jj h1) (jL h2)
end
end L2
namespace Hw
open PySem L2
structure Own where
 ws:List Str
 th:List Str
 mr:List Str
 us:List Str
structure Own.ok (o:Own):Prop where
 w1:1≤o.ws.length
 w9:o.ws.length≤20
 t1:1≤o.th.length
 t9:o.th.length≤20
 tl:∀x∈o.th,x.length≤100
 m9:o.mr.length≤20
 u1:1≤o.us.length
 u9:o.us.length≤20
 ul:∀x∈o.us,x.length≤50
def uv (H:Hp) (p:Addr) (o:Own):Prop:=∃a b c e,H p=some (.tup [.ref a,.ref b,.ref c,.ref e])∧H a=some (.lst (o.ws.map V.str))∧H b=some (.lst (o.th.map V.str))∧H c=some (.lst (o.mr.map V.str))∧H e=some (.lst (o.us.map V.str))
theorem aX {H:Hp} {d a:Addr} {xs:List Str} (D:Dr H d) (h:H a=some (.lst (xs.map V.str))):a≠d:=by
 obtain ⟨x,y,ed⟩:=D
 refine vq h ed fun z=>?_
 cases xs with
 | nil=>cases z
 | cons a b=>cases z
theorem uv.next {H H':Hp} {p d:Addr} {o:Own} (h:uv H p o) (D:Dr H d) (b:bz d H H'):uv H' p o:=by
 obtain ⟨a,b',c,e,ep,ea,eb,ec,ee⟩:=h
 exact ⟨a,b',c,e,(D.soft b).t _ _ ep,b _ _ ea (aX D ea),b _ _ eb (aX D eb),b _ _ ec (aX D ec),b _ _ ee (aX D ee)⟩
structure HlG (h:Hl):Prop where
 ok:h.ok
 nm:h.nms
def iQ (H:Hp) (p:Addr) (us:List V) (hs:List Hl):Prop:=H p=some (.lst us)∧Paired (fun u h=>Ef H h u) us hs∧(∀h∈hs,HlG h)∧hs.length≤10
theorem iQ.ne {H:Hp} {p d:Addr} {us:List V} {hs:List Hl} (h:iQ H p us hs) (D:Dr H d):p≠d:=by
 obtain ⟨x,y,ed⟩:=D
 refine vq h.1 ed fun z=>?_
 have z:=HO.lst.inj z
 have hp:=h.2.1
 rw [z] at hp
 cases hp with
 | cons a r=>obtain ⟨_,_,_,_,_,_,_,e,_⟩:=a;cases e
theorem iQ.next {H H':Hp} {p d:Addr} {us:List V} {hs:List Hl} (h:iQ H p us hs) (D:Dr H d) (b:bz d H H'):iQ H' p us hs :=
 ⟨b _ _ h.1 (h.ne D),L2.Paired.cQ h.2.1 fun _ _ z=>Ef.ao (D.soft b) z,h.2.2.1,h.2.2.2⟩
theorem iQ.same {H H':Hp} {p:Addr} {us:List V} {hs:List Hl} (h:iQ H p us hs) (s:aH H H'):iQ H' p us hs :=
 ⟨s _ _ h.1,L2.Paired.cQ h.2.1 fun _ _ z=>Ef.ao (ay.of s) z,h.2.2.1,h.2.2.2⟩
theorem EM:Small 1:=⟨by decide,by decide⟩
theorem EN:Small 0:=⟨by decide,by decide⟩
theorem Oo:Canon []:=⟨.nil,fun _ h=>nomatch h⟩
theorem Om {x:Str} {n:Int} (h:n≠0):Canon [(x,n)]:=⟨.cons (fun _ h=>nomatch h) .nil,fun p hp=>by rw [List.mem_singleton.mp hp];exact h⟩
theorem MB {n:Int} (h:Small n):uD [] n:=⟨Oo,⟨Nat.zero_le _,fun _ h=>nomatch h⟩,h⟩
theorem Pn {x:Str} {n m:Int} (h0:n≠0) (h:Small n) (g:Small m):uD [(x,n)] m:=⟨Om h0,⟨(by show 1≤3;decide),fun p hp=>by rw [List.mem_singleton.mp hp];exact h⟩,g⟩
theorem in2 (r:Nat) (a b:Nat):oS (.int (r:Int)) [.int (a:Int),.int (b:Int)]=decide (r=a∨r=b):=by
 unfold oS
 simp only [List.any_cons,List.any_nil,Bool.or_false]
 by_cases h1:r=a
 ·subst h1;simp [yj]
 ·by_cases h2:r=b
  ·subst h2;simp [yj]
  ·have e1:¬((a:Int)=(r:Int)):=by omega
   have e2:¬((b:Int)=(r:Int)):=by omega
   simp [yj,h1,h2,e1,e2]
def fF:Sp:=fun vs H Q _=>∃(p:Addr) (us:List V) (hs:List Hl),vs=[.ref p]∧iQ H p us hs∧∀(l:Addr) (ws:List V) (H':Hp),aH H H'→H' l=some (.lst ws)→Q (.ref l) H'
def fG:Sp:=fun vs H Q _=>∃(d p:Addr) (v:V) (o:Own) (h:Hl),vs=[.ref d,.ref p,v]∧Dr H d∧uv H p o∧o.ok∧Ef H h v∧HlG h∧∀(v':V) (s:cO) (H':Hp),bz d H H'→Dr H' d→lV H' s v'→s.ok→s.dep=1→Q v' H'
def oh (n:Nat):Sp:=fun vs H Q _=>∃(d p q:Addr) (k:Nat) (o:Own) (us:List V) (hs:List Hl),vs=[.ref d,.ref p,.int k,.ref q]∧k<n∧Dr H d∧uv H p o∧o.ok∧iQ H q us hs∧∀(v:V) (s:cO) (H':Hp),bz d H H'→Dr H' d→lV H' s v→s.ok→s.dep≤k+1→Q v H'
def dZ (n:Nat):Sp:=fun vs H Q _=>∃(d p q:Addr) (m k:Nat) (o:Own) (us:List V) (hs:List Hl),vs=[.ref d,.ref p,.int m,.int k,.ref q]∧k<n∧m≤10∧Dr H d∧uv H p o∧o.ok∧iQ H q us hs∧∀(r:Addr) (ws:List V) (l:List cO) (H':Hp),bz d H H'→Dr H' d→H' r=some (.tup ws)→gS H' l ws→qW l→ir l≤k+1→l.length=m→Q (.ref r) H'
theorem Oe:∀vs H Q E,¬oh 0 vs H Q E:=fun _ _ _ _ ⟨_,_,_,_,_,_,_,_,h,_⟩=>absurd h (by omega)
def pQ:Sp:=fun vs H Q _=>∃(d l q:Addr) (x:Str) (m:Nat) (xs:List Str) (us:List V) (hs:List Hl),vs=[.ref d,.str x,.ref l,.int m,.ref q]∧Dr H d∧nS x∧H l=some (.lst (xs.map V.str))∧xs.length=8∧(∀x∈xs,nS x)∧xs.Nodup∧m≤10∧iQ H q us hs ∧
 ∀(v:V) (h:Hl) (H':Hp),bz d H H'→Dr H' d→Ef H' h v→HlG h→h.nm=x→Q v H'
def jn:Sp:=fun vs H Q _=>∃(d:Addr) (m:Nat),vs=[.ref d,.int m]∧Dr H d∧m≤5∧∀(l:Addr) (us:List V) (hs:List Hl) (H':Hp),bz d H H'→Dr H' d→H l=none→iQ H' l us hs→1≤hs.length→(hs.map (·.nm)).Nodup→Q (.ref l) H'
theorem BQ {x:Str} (h:1≤x.length):∃c,vJ x.cps.toList (0:Int)=some c:=by
 have l:x.cps.toList.length=x.length:=by simp [Str.length]
 cases e:x.cps.toList with
 | nil=>rw [e] at l;simp at l;omega
 | cons a r=>exact ⟨a,bI (j:=0) rfl⟩
theorem CO (xs:List Str) (n:Nat):kD (xs.map V.str) none (some (n:Int))=(xs.take n).map V.str:=by
 unfold kD
 have e1:HT.gw (xs.map V.str).length 0 none=0:=rfl
 have e2:=HT.j8 (xs.map V.str).length (xs.map V.str).length n
 rw [e1,e2,List.drop_zero,Nat.sub_zero,List.map_take]
 by_cases h:n≤(xs.map V.str).length
 ·rw [Nat.min_eq_left h]
 ·rw [Nat.min_eq_right (by omega),List.take_length,List.take_of_length_le (by omega)]
theorem Jj (xs:List Str) (a b:Nat):kD (xs.map V.str) (some (a:Int)) (some (b:Int))=((xs.drop a).take (b-a)).map V.str:=by
 unfold kD
 have e1:=HT.j8 (xs.map V.str).length 0 a
 have e2:=HT.j8 (xs.map V.str).length (xs.map V.str).length b
 rw [e1,e2,List.map_take,List.map_drop]
 have l:(xs.map V.str).length=xs.length:=List.length_map ..
 by_cases h:a≤(xs.map V.str).length
 ·rw [Nat.min_eq_left h]
  by_cases h2:b≤(xs.map V.str).length
  ·rw [Nat.min_eq_left h2]
  ·rw [Nat.min_eq_right (by omega),List.take_of_length_le (by rw [List.length_drop];omega),List.take_of_length_le (by rw [List.length_drop];omega)]
 ·have e3:min a (xs.map V.str).length=(xs.map V.str).length:=Nat.min_eq_right (by omega)
  rw [e3,List.drop_of_length_le (Nat.le_refl _),List.drop_of_length_le (show (xs.map V.str).length≤a by omega),List.take_nil,List.take_nil]
structure W9 (H0 H:Hp) (d p q a1 a2 a3 a4:Addr) (o:Own) (us:List V) (hs:List Hl):Prop where
 f:bz d H0 H
 d:Dr H d
 eo:H p=some (.tup [.ref a1,.ref a2,.ref a3,.ref a4])
 ea:H a1=some (.lst (o.ws.map V.str))
 eb:H a2=some (.lst (o.th.map V.str))
 ec:H a3=some (.lst (o.mr.map V.str))
 ee:H a4=some (.lst (o.us.map V.str))
 hl:iQ H q us hs
section
variable {H0 H H':Hp} {d p q a1 a2 a3 a4:Addr} {o:Own} {us:List V} {hs:List Hl}
theorem W9.own (W:W9 H0 H d p q a1 a2 a3 a4 o us hs):uv H p o:=⟨a1,a2,a3,a4,W.eo,W.ea,W.eb,W.ec,W.ee⟩
theorem W9.next (W:W9 H0 H d p q a1 a2 a3 a4 o us hs) (b:bz d H H') (D:Dr H' d):W9 H0 H' d p q a1 a2 a3 a4 o us hs :=
 ⟨W.f.trans b,D,(W.d.soft b).t _ _ W.eo,b _ _ W.ea (aX W.d W.ea),b _ _ W.eb (aX W.d W.eb),b _ _ W.ec (aX W.d W.ec),b _ _ W.ee (aX W.d W.ee),W.hl.next W.d b⟩
theorem W9.same (W:W9 H0 H d p q a1 a2 a3 a4 o us hs) (s:aH H H'):W9 H0 H' d p q a1 a2 a3 a4 o us hs :=
 ⟨W.f.trans (bz.of s),W.d.same s,s _ _ W.eo,s _ _ W.ea,s _ _ W.eb,s _ _ W.ec,s _ _ W.ee,W.hl.same s⟩
end
theorem wL {xs:List Str} (h:1≤xs.length):¬(xs.map V.str=[]):=fun z=>by
 have:=congrArg List.length z
 rw [List.length_map] at this
 simp at this
 rw [this] at h
 exact absurd h (by decide)
theorem MC {r:Nat} (h:r<6):∃i:Int,([V.int 2,.int 3,.int (-2),.int 1,.int 7,.int 0]:List V)[r]?=some (.int i)∧Small i:=by
 match r,h with
 | 0,_=>exact ⟨2,rfl,by decide,by decide⟩
 | 1,_=>exact ⟨3,rfl,by decide,by decide⟩
 | 2,_=>exact ⟨-2,rfl,by decide,by decide⟩
 | 3,_=>exact ⟨1,rfl,by decide,by decide⟩
 | 4,_=>exact ⟨7,rfl,by decide,by decide⟩
 | 5,_=>exact ⟨0,rfl,by decide,by decide⟩
def OZ (H:Hp) (l:List cO) (v:V):Prop:=∃t us,v=.ref t∧H t=some (.tup us)∧gS H l us
theorem OZ.ao {H H':Hp} {l:List cO} {v:V} (h:OZ H l v) (k:ay H H'):OZ H' l v:=let ⟨t,us,e,et,r⟩:=h;⟨t,us,e,k.t _ _ et,r.ao k⟩
end Hw
namespace L2
open PySem PySem.Spec PyProof.Rows
theorem mG {X:Cx} {K:PySem.W.Frag} (h:X.K=K):nV X (compareOp .NotIn) (Tv K true):=h▸wj
end L2
namespace Hw
open PySem L2
theorem Jo {K:PySem.W.Frag} {H:Hp} {r1 r2:Addr} {a b:List Str} {Q:VK} (h1:H r1=some (.tup (a.map V.str))) (h2:H r2=some (.tup (b.map V.str))) (hl:a.length+b.length≤1000) (q:∀(r:Addr) (H':Hp),aH H H'→H' r=some (.tup ((a++b).map V.str))→Q (.ref r) H'):Lx K (.ref r1) (.ref r2) H Q:=by
 refine ⟨r1,r2,_,_,rfl,rfl,aW.of h1,aW.of h2,(by rw [List.length_map,List.length_map];exact Nat.le_of_lt (line _ (by omega))),fun z=>?_,fun _ z=>?_,fun _ _ r hr=>?_⟩
 ·have e:a=[]:=List.map_eq_nil_iff.mp z
  subst e
  exact q _ H (aH.refl _) h2
 ·have e:b=[]:=List.map_eq_nil_iff.mp z
  subst e
  rw [List.append_nil] at q
  exact q _ H (aH.refl _) h1
 ·refine q _ _ (new hr) ?_
  rw [af,List.map_append]
theorem ie {xs:List Str} {i:Nat} {v:V} (h:(xs.map V.str)[i]?=some v):∃y,xs[i]?=some y∧v=.str y:=by
 rw [List.getElem?_map] at h
 cases q:xs[i]? with
 | none=>rw [q] at h;cases h
 | some y=>rw [q] at h;cases h;exact ⟨y,rfl,rfl⟩
def hsh (x:Str):Str:=("#":Str)++x
theorem CB (x:Str):(hsh x).length=1+x.length:=by unfold hsh;rw [iT];rfl
theorem IA (x:Str):(cp (hsh x)).head?=some 35:=by
 unfold hsh cp
 rw [mw]
 rfl
end Hw
namespace Hw
open PySem L2
structure Js (K:PySem.W.Frag) (Y:Cy):Prop where
 ca:∀j,j<9→PySem.W.findIn K (.ref (eY Y j)) "__class__"=some (some (.builtin "object.__class__"))
 cm:∀j,j<9→PySem.W.mroIn K (eY Y j) (.type "object")=some true
 kk:∀j i,j<9→i<9→PySem.W.kitOne K (.ref (eY Y j)) (.ref (eY Y i))=some (decide (j=i))
 kS:∀j,j<9→PySem.W.kitOne K (.ref (eY Y j)) (.ref Y.st)=some true
theorem JX {K:PySem.W.Frag} {mg:Str→Option Value} {Y:Cy} {fS:Addr} {H:Hp} {s:cO} {p:Addr} (T:Txt K mg Y.z.s) (J:eW K mg Y fS) (W:Js K Y) (h:cj Y H s (.ref p)):nR K H (.ref p) (.ref (eY Y (kd s))) :=
 let ⟨_,_,e,_⟩:=xA h lJ
 .ins e (J.cl _ (jQ h)) (W.ca _ (jQ h)) T.cg T.ct (W.cm _ (jQ h))
theorem cA {K:PySem.W.Frag} {H:Hp} {n:Nat} {a b:Addr} {xs ys:List V} (h:H a=some (.tup xs)) (g:H b=some (.tup ys)) (p:Paired (gT K H n) xs ys):gT K H (n+1) (.ref a) (.ref b):=.inr ⟨a,b,xs,ys,rfl,rfl,.inr ⟨aW.of h,aW.of g⟩,p⟩
theorem cY {K:PySem.W.Frag} {H:Hp} {n:Nat} {x:V} (h:jg x=true):gT K H n x x:=bT (n:=0) ⟨h,rfl⟩ (Nat.zero_le _)
theorem m7 {α:Type} {F G:V→α→Prop} {R:V→V→Prop} (f:∀u v a,F u a→G v a→R u v):∀{us vs:List V} {l:List α},Paired F us l→Paired G vs l→Paired R us vs
 | _,_,_,.nil,.nil=>.nil
 | _,_,_,.cons a p,.cons b q=>.cons (f _ _ _ a b) (m7 f p q)
theorem iD {α:Type} {F G:V→α→Prop} {R:V→V→Prop}:∀{us vs:List V} {l:List α},(∀u v a,a∈l→F u a→G v a→R u v)→Paired F us l→Paired G vs l→Paired R us vs
 | _,_,_,_,.nil,.nil=>.nil
 | _,_,_,f,.cons a p,.cons b q=>.cons (f _ _ _ (List.mem_cons_self ..) a b) (iD (fun u v a m=>f u v a (List.mem_cons_of_mem _ m)) p q)
theorem iU {K:PySem.W.Frag} {H:Hp} {n:Nat} (l:List Str):Paired (gT K H n) (l.map V.str) (l.map V.str):=qA (fZ _)
theorem Jq {K:PySem.W.Frag} {H:Hp}:∀{a:Ar} {x y:V},a.ok→Jz H a x→Jz H a y→gT K H 6 x y
 | .tx s,x,y,_,h,g=>by
  have h:x=V.str s:=h
  have g:y=V.str s:=g
  subst h g
  exact cY rfl
 | .sm a n,x,y,_,⟨r,e,d⟩,⟨r',e',d'⟩=>by
  subst e e'
  exact bT (fu d d') (by decide)
 | .JP l,x,y,_,⟨r,e,d⟩,⟨r',e',d'⟩=>by
  subst e e'
  exact cA d d' (iU l)
 | .JY l,x,y,_,⟨r,us,e,d,p⟩,⟨r',us',e',d',p'⟩=>by
  subst e e'
  refine cA d d' (m7 (fun u v a h g=>?_) p p')
  obtain ⟨q,rfl,hd⟩:=h
  obtain ⟨q',rfl,hd'⟩:=g
  exact bT (fu hd hd') (by decide)
 | .cd c,x,y,o,h,g=>bT (gz h g) (by have:c.dep≤3:=o.2;omega)
theorem lF {K:PySem.W.Frag} {H:Hp} {hs:List (Int×Cd)} {x y:V} (ok:∀q∈hs,q.2.dep≤3) (h:DP H hs x) (g:DP H hs y):gT K H 8 x y:=by
 obtain ⟨t,us,rfl,et,p⟩:=h
 obtain ⟨t',us',rfl,et',p'⟩:=g
 refine cA et et' (iD (fun u v a m h g=>?_) p p')
 obtain ⟨r,w,rfl,er,hd⟩:=h
 obtain ⟨r',w',rfl,jU,hd'⟩:=g
 exact cA er jU (.cons (cY rfl) (.cons (bT (gz hd hd') (by have:=ok a m;omega)) .nil))
theorem yi {K:PySem.W.Frag} {H:Hp}:∀{f:Option (Int×Ps×Int)} {x y:V},LV H f x→LV H f y→gT K H 6 x y
 | none,x,y,h,g=>by
  have h:x=V.dM:=h
  have g:y=V.dM:=g
  subst h g
  exact cY rfl
 | some q,x,y,⟨r,d,e,er,dd⟩,⟨r',d',e',jU,Og⟩=>by
  subst e e'
  exact cA er jU (.cons (cY rfl) (.cons (bT (fu dd Og) (by decide)) .nil))
mutual
theorem oG {K:PySem.W.Frag} {H:Hp}:∀{s:cO} {n:Nat} {x y:V},s.ok→s.dep≤n→fE H s x→fE H s y→gT K H (2*n+7) x y
 | .flat k at_ as,n,x,y,o,l,h,g=>by
  unfold fE at h g
  unfold cO.ok at o
  obtain ⟨r,us,rfl,er,p⟩:=h
  obtain ⟨r',us',rfl,jU,p'⟩:=g
  exact cA er jU (.cons (cY rfl) (.cons (cY rfl) (iD (fun u v a m h g=>bT (Jq (o.2 a m) h g) (by omega)) p p')))
 | .jD at_ c t e,n,x,y,o,l,h,g=>by
  unfold fE at h g
  unfold cO.ok at o
  unfold cO.dep at l
  obtain ⟨r,uc,t1,t2,us,ws,rfl,er,hc,e1,h1,e2,h2⟩:=h
  obtain ⟨r',VF,t1',rD,us',Ll,rfl,jU,hc',Od,yI,Ec,h2'⟩:=g
  obtain ⟨m,rfl⟩:∃m,n=m+1:=⟨n-1,by omega⟩
  have d3:=o.1.2
  refine bT (n:=(2*m+7+1)+1) (cA er jU (.cons (cY rfl) (.cons (cY rfl) (.cons (bT (gz hc hc') (by omega)) (.cons (cA e1 Od (jN o.2.2.2.1 (by omega) h1 yI)) (.cons (cA e2 Ec (jN o.2.2.2.2 (by omega) h2 h2')) .nil)))))) (by omega)
 | .rep at_ c hs f b,n,x,y,o,l,h,g=>by
  unfold fE at h g
  unfold cO.ok at o
  unfold cO.dep at l
  obtain ⟨r,uc,uh,uf,t2,ws,rfl,er,hc,hh,hf,e2,h2⟩:=h
  obtain ⟨r',VF,uh',uf',rD,Ll,rfl,jU,hc',UI,hf',Ec,h2'⟩:=g
  obtain ⟨m,rfl⟩:∃m,n=m+1:=⟨n-1,by omega⟩
  have d3:=o.1.2
  refine bT (n:=(2*m+7+1)+1) (cA er jU (.cons (cY rfl) (.cons (cY rfl) (.cons (bT (gz hc hc') (by omega)) (.cons (bT (lF (fun q hq=>(o.2.2.1 q hq).2) hh UI) (by omega)) (.cons (bT (yi hf hf') (by omega)) (.cons (cA e2 Ec (jN o.2.2.2.2.2 (by omega) h2 h2')) .nil))))))) (by omega)
theorem jN {K:PySem.W.Frag} {H:Hp}:∀{l:List cO} {n:Nat} {us ws:List V},qW l→ir l≤n→gA H l us→gA H l ws→Paired (gT K H (2*n+7)) us ws
 | [],n,us,ws,o,d,h,g=>by
  unfold gA at h g
  subst h g
  exact .nil
 | s::l,n,us,ws,o,d,h,g=>by
  unfold gA at h g
  unfold qW at o
  unfold ir at d
  obtain ⟨u,r,rfl,d1,d2⟩:=h
  obtain ⟨u',r',rfl,KI,Rk⟩:=g
  exact .cons (oG o.1 (by omega) d1 KI) (jN o.2 (by omega) d2 Rk)
end
theorem yc {K:PySem.W.Frag} {H:Hp} {h:Hl} {x y:V} (o:h.ok) (a:nU H h x) (b:nU H h y):gT K H 15 x y:=by
 obtain ⟨r,t1,t2,v1,v2,t3,us,rfl,er,e1,e2,h1,h2,e3,hs⟩:=a
 obtain ⟨r',t1',rD,v1',v2',t3',us',rfl,jU,Od,Ec,yI,h2',KG,hs'⟩:=b
 exact cA er jU (.cons (cY rfl) (.cons (cY rfl) (.cons (cY rfl) (.cons (cA e1 Od (iU _)) (.cons (cA e2 Ec (iU _)) (.cons (bT (lF (fun q hq=>(o.nd q hq).2) h1 yI) (by decide)) (.cons (bT (lF (fun q hq=>(o.gv q hq).2) h2 h2') (by decide)) (.cons (cA e3 KG (jN (n:=3) o.st o.dp hs hs')) .nil))))))))
theorem eT {K:PySem.W.Frag} {H:Hp} {n:Nat} {k:Bool} {a b:Addr} {Q:VK} (h:gT K H (n+1) (.ref a) (.ref b)) (q:Q (.bl k) H):xO K n k (.ref a) (.ref b) H Q:=by
 rcases h with ⟨f,_⟩ | ⟨a',b',xs,ys,e,e',s,p⟩
 ·cases f
 ·cases e;cases e';exact ⟨a,b,xs,ys,rfl,rfl,s,p,q⟩
def sH (H:Hp) (u:V) (q:Int×Cd):Prop:=∃r w,u=V.ref r∧H r=some (.tup [.int q.1,w])∧bg H q.2 w
theorem sH.ao {H H':Hp} {u:V} {q:Int×Cd} (k:ay H H') (h:sH H u q):sH H' u q:=let ⟨r,w,e,e',d⟩:=h;⟨r,w,e,k.t _ _ e',d.ao k⟩
theorem sH.all {H H':Hp} {us:List V} {l:List (Int×Cd)} (k:ay H H') (h:Paired (sH H) us l):Paired (sH H') us l:=L2.Paired.cQ h fun _ _ z=>z.ao k
theorem Gv {K:PySem.W.Frag} {H:Hp} {us vs:List V} {l:List (Int×Cd)} (ok:∀q∈l,q.2.dep≤3) (h:Paired (sH H) us l) (g:Paired (sH H) vs l):Paired (gT K H 8) us vs:=by
 refine iD (fun u v a m h g=>?_) h g
 obtain ⟨r',w',rfl,e',d'⟩:=h
 obtain ⟨r9,w9,rfl,e9,d9⟩:=g
 have:=ok a m
 exact cA e' e9 (.cons (cY rfl) (.cons (bT (gz d' d9) (by omega)) .nil))
def kL (Y:Cy) (n:Nat):Sp:=fun vs H Q _=>∃(p:Addr) (v:V) (s:cO),vs=[.ref p,v]∧cj Y H s (.ref p)∧fE H s v∧s.ok∧s.dep≤n∧s.dep≤3∧∀H',aH H H'→Q (.bl true) H'
def gD (Y:Cy) (n:Nat):Sp:=fun vs H Q _=>∃(p:Addr) (v:V) (s:cO),vs=[.ref p,v]∧(kd s=5∨7≤kd s)∧cj Y H s (.ref p)∧fE H s v∧s.ok∧s.dep≤n∧s.dep≤3∧∀H',aH H H'→Q (.bl true) H'
def vR (Y:Cy) (n:Nat):Sp:=fun vs H Q _=>∃(t r:Addr) (us ws:List V) (l:List cO),vs=[.ref t,.ref r]∧H t=some (.tup us)∧fT Y H l us∧H r=some (.tup ws)∧gA H l ws∧qW l∧ir l≤n∧ir l≤3∧l.length≤10∧∀H',aH H H'→Q (.bl true) H'
theorem Kz (Y:Cy):∀vs H Q E,¬kL Y 0 vs H Q E:=fun _ _ _ _ ⟨_,_,s,_,_,_,_,d,_⟩=>by have:=oW s;omega
def iB (Y:Cy):Sp:=fun vs H Q _=>∃(p:Addr) (v:V) (h:Hl),vs=[.ref p,v]∧qJ Y H h (.ref p)∧nU H h v∧h.ok∧∀H',aH H H'→Q (.bl true) H'
def EE:Nat→Str
 | 7=>"choose" | 8=>"repeat" | k=>kw k
def HU:List Str:=["let","divide","fetch","put","make","claim","choose","repeat","call"]
theorem HV {j:Nat} (h:j<9):HU.map (fun w=>V.bl (decide (V.str w=V.str (EE j))))=([0,1,2,3,4,5,7,8,6]:List Nat).map (fun i=>V.bl (decide (j=i))):=by
 match j,h with
 | 0,_=>decide +kernel
 | 1,_=>decide +kernel
 | 2,_=>decide +kernel
 | 3,_=>decide +kernel
 | 4,_=>decide +kernel
 | 5,_=>decide +kernel
 | 6,_=>decide +kernel
 | 7,_=>decide +kernel
 | 8,_=>decide +kernel
theorem pO {j k:Nat} (hj:j<9) (hk:k<9) (h:¬j=k):¬EE j=EE k:=by
 have a:∀j,j<9→∀k,k<9→¬j=k→¬EE j=EE k:=by decide +kernel
 exact a j hj k hk h
theorem O2 {j:Nat} (hj:j<9) (h0:¬j=0) (h1:¬j=1) (h2:¬j=2):¬EE j∈([("let":Str),"divide","fetch"]:List Str):=by
 match j,hj with
 | 0,_=>exact absurd rfl h0
 | 1,_=>exact absurd rfl h1
 | 2,_=>exact absurd rfl h2
 | 3,_=>decide +kernel
 | 4,_=>decide +kernel
 | 5,_=>decide +kernel
 | 6,_=>decide +kernel
 | 7,_=>decide +kernel
 | 8,_=>decide +kernel
def cO.pl:cO→Int
 | .flat _ a _=>a
 | .jD a _ _ _=>a
 | .rep a _ _ _ _=>a
theorem Mq {k:Nat} {as:List Ar} (h:Vv k as):EE k=kw k:=by
 match k,h with
 | 0,_=>rfl
 | 1,_=>rfl
 | 2,_=>rfl
 | 3,_=>rfl
 | 4,_=>rfl
 | 5,_=>rfl
 | 6,_=>rfl
theorem fJ {H:Hp} {s:cO} {v:V} (o:s.ok) (h:fE H s v):∃r us,v=.ref r∧H r=some (.tup (.str (EE (kd s))::.int s.pl::us)):=by
 cases s with
 | flat k at_ as =>
  unfold cO.ok at o
  unfold fE at h
  obtain ⟨r,us,rfl,er,_⟩:=h
  refine ⟨r,us,rfl,?_⟩
  show H r=some (.tup (.str (EE k)::.int at_::us))
  rw [Mq o.1]
  exact er
 | jD at_ c t e =>
  unfold fE at h
  obtain ⟨r,uc,t1,t2,us,ws,rfl,er,_⟩:=h
  exact ⟨r,_,rfl,er⟩
 | rep at_ c hs f b =>
  unfold fE at h
  obtain ⟨r,uc,uh,uf,t2,ws,rfl,er,_⟩:=h
  exact ⟨r,_,rfl,er⟩
theorem step_at {Y:Cy} {H:Hp} {s:cO} {p:Addr} (h:cj Y H s (.ref p)):∃dx fs,H p=some (.ins (eY Y (kd s)) dx fs)∧fs.lookup ("at":Str)=some (V.int s.pl):=by
 cases s with
 | flat k at_ as =>
  unfold cj at h
  obtain ⟨q,dx,us,e,sh,ep,pp⟩:=h
  cases e
  refine ⟨dx,_,ep,?_⟩
  match k,sh with
  | 0,⟨_,_,_,e⟩=>subst e;cases pp with | cons a r=>cases r with | cons b r=>cases r;exact cu (by decide +kernel) (cu (by decide +kernel) dG)
  | 1,⟨_,_,_,_,_,_,e⟩=>subst e;cases pp with | cons a r=>cases r with | cons b r=>cases r with | cons c r=>cases r with | cons d r=>cases r;exact cu (by decide +kernel) (cu (by decide +kernel) (cu (by decide +kernel) (cu (by decide +kernel) dG)))
  | 2,⟨_,_,_,_,e⟩=>subst e;cases pp with | cons a r=>cases r with | cons b r=>cases r with | cons c r=>cases r;exact cu (by decide +kernel) (cu (by decide +kernel) (cu (by decide +kernel) dG))
  | 3,⟨_,_,_,_,_,e⟩=>subst e;cases pp with | cons a r=>cases r with | cons b r=>cases r with | cons c r=>cases r;exact cu (by decide +kernel) (cu (by decide +kernel) (cu (by decide +kernel) dG))
  | 4,⟨_,_,_,e⟩=>subst e;cases pp with | cons a r=>cases r with | cons b r=>cases r;exact cu (by decide +kernel) (cu (by decide +kernel) dG)
  | 5,⟨_,e⟩=>subst e;cases pp with | cons a r=>cases r;exact cu (by decide +kernel) dG
  | 6,⟨_,_,_,e⟩=>subst e;cases pp with | cons a r=>cases r with | cons b r=>cases r with | cons c r=>cases r;exact cu (by decide +kernel) (cu (by decide +kernel) (cu (by decide +kernel) dG))
 | jD at_ c t e =>
  unfold cj at h
  obtain ⟨q,dx,uc,t1,t2,us,ws,e0,ep,_⟩:=h
  cases e0
  exact ⟨dx,_,ep,cu (by decide +kernel) (cu (by decide +kernel) (cu (by decide +kernel) dG))⟩
 | rep at_ c hs f b =>
  unfold cj at h
  obtain ⟨q,dx,uc,uh,uf,t2,ws,e0,ep,_⟩:=h
  cases e0
  exact ⟨dx,_,ep,cu (by decide +kernel) (cu (by decide +kernel) (cu (by decide +kernel) (cu (by decide +kernel) dG)))⟩
theorem JZ {k:Nat} {as:List Ar} (h:Vv k as):k<7:=by
 match k,h with
 | 0,_=>decide
 | 1,_=>decide
 | 2,_=>decide
 | 3,_=>decide
 | 4,_=>decide
 | 5,_=>decide
 | 6,_=>decide
theorem SD {j:Nat} (h:j<9):("at":Str)∈fN j:=by
 match j,h with
 | 0,_=>decide +kernel
 | 1,_=>decide +kernel
 | 2,_=>decide +kernel
 | 3,_=>decide +kernel
 | 4,_=>decide +kernel
 | 5,_=>decide +kernel
 | 6,_=>decide +kernel
 | 7,_=>decide +kernel
 | 8,_=>decide +kernel
end Hw
namespace PySem
open Sem (wp)
open Builtin
section
variable {prog:Program} {w:World} {A:Around} {E:Value→Shared→Prop} {h:Heap} {g:Array GenState} {d:Drawn} {t:Nat} {os:OsState} {K:W.Frag} {C x:Addr} {o:Obj}
theorem V2 {M:Model} {name:Str} {r:Option Value} {Q:Option Value→Shared→Prop} (X:K.In h) (hx:h.get? x=some o) (hc:o.cls=.ref C) (hf:W.findIn K (.ref C) name=some r) (hq:Q r ⟨h,g,d,t,os⟩) :
  wpAny M A (specialOf (.ref x) name) Q E ⟨h,g,d,t,os⟩:=by
 unfold specialOf
 repeat (first | (with_reducible refine wpAny_loadPart_at hx ?_;rw [hc]) | (with_reducible refine W.Looks.at (W.looks_findIn X hf) ?_) | wp_step)
 exact hq
theorem Jl {M:Model} {B:String} {name:Str} {id:String} {args:List Value} {Q:Option Value→Shared→Prop} (X:K.In h) (hx:h.get? x=some o) (hc:o.cls=.ref C) (hf:W.findIn K (.ref C) name=some (some (.builtin id))) (S:Slot B name id)
  (hcall:wpAny M A (call (.builtin id) (.ref x::args)) (fun v=>Q (some v)) E ⟨h,g,d,t,os⟩):wpAny M A (callSpecialIfBound? (.ref x) name args) Q E ⟨h,g,d,t,os⟩:=by
 simp only [callSpecialIfBound?,bindSpecialIfBound?]
 refine wpAny_holding (wpAny_bind (wpAny_bind (V2 X hx hc hf ?_)))
 simp only [S.bind]
 refine wpAny_bind (wpAny_askSetting (wpAny_ite ?_))
 have fin:wpAny M A (call (.builtin id) ([.ref x]++args) >>= fun v=>pure (some v)) Q E ⟨h,g,d,t,os⟩ :=
  wpAny_bind (wpAny_mono hcall (fun v s' h'=>wpAny_pure h') fun _ _ h'=>h')
 split
 ·exact wpAny_bind (wpAny_pure (wpAny_pure fin))
 ·exact wpAny_tryCatch (wpAny_bind (wpAny_pure (wpAny_pure fin)))
theorem LM {M:Model} {id owner n:String} {rest:List Value} {Q:Unit→Shared→Prop} (hk:builtinKind id=some .slot) (hs:splitId id=some (owner,n))
  (ha:argsOk id ⟨.ref x::rest,[]⟩) (X:K.In h) (hx:h.get? x=some o) (hc:o.cls=.ref C) (hm:W.mroIn K C (.type owner)=some true) (hq:Q () ⟨h,g,d,t,os⟩) :
  wpAny M A (checkBuiltinCall id ⟨.ref x::rest,[]⟩) Q E ⟨h,g,d,t,os⟩:=by
 simp only [checkBuiltinCall,hk,hs]
 refine wpAny_bind ?_
 ·unfold isInstance
  repeat (first | (with_reducible refine wpAny_loadPart_at hx ?_;rw [hc]) | (with_reducible refine W.Looks.at (W.looks_mroIn X hm) ?_) | wp_step)
  cases a3t:Manifest.signature? id with
  | none=>exact wpAny_pure hq
  | some sig =>
   simp only [argsOk,a3t] at ha
   have h2:Bind.checkArgs id sig ⟨.ref x::rest,[]⟩=pure ():=ha
   show wpAny M A (Bind.checkArgs id sig ⟨.ref x::rest,[]⟩) Q E _
   rw [h2];exact wpAny_pure hq
theorem Q4 (X:K.In h) (hx:h.get? x=some o) (hc:o.cls=.ref C) (he:W.findIn K (.ref C) "__eq__"=some (some (.builtin "object.__eq__"))) (hm:W.mroIn K C (.type "object")=some true) {Q:Option Value→Shared→Prop} (hq:Q (some (.bool true)) ⟨h,g,d,t,os⟩) :
  wpAny (model prog w) A (callSpecialIfBound? (.ref x) "__eq__" [.ref x]) Q E ⟨h,g,d,t,os⟩ :=
 Jl X hx hc he F.cmp_object.eq (wpAny_call (codeAny_call_builtin F.cmp_object.eq.plain F.cmpEntry_eq (LM F.cmpKind_eq F.cmpSplit_eq (F.cmpArgs_eq _ _) X hx hc hm (objEq_entry_same hq))))
theorem PZ (X:K.In h) (hx:h.get? x=some o) (hc:o.cls=.ref C) (he:W.findIn K (.ref C) "__eq__"=some (some (.builtin "object.__eq__"))) (hm:W.mroIn K C (.type "object")=some true) (hu:A.units<cLine) {Q:Fin→Shared→Prop} (hq:Q (.done (.ret (.bool false))) ⟨h,g,d,t,os⟩) :
  wpAny (model prog w) A (Builtin.«object.__ne__» ⟨[.ref x,.ref x],[]⟩) Q E ⟨h,g,d,t,os⟩:=by
 unfold Builtin.«object.__ne__»
 repeat (first | with_reducible refine wpAny_cRoomFor hu ?_ | with_reducible refine Q4 X hx hc he hm ?_ | wp_step)
 exact hq
theorem JR (X:K.In h) (hx:h.get? x=some o) (hc:o.cls=.ref C) (hn:W.findIn K (.ref C) "__ne__"=some (some (.builtin "object.__ne__"))) (he:W.findIn K (.ref C) "__eq__"=some (some (.builtin "object.__eq__"))) (hm:W.mroIn K C (.type "object")=some true) (hu:A.units+1<cLine) {Q:Option Value→Shared→Prop} (hq:Q (some (.bool false)) ⟨h,g,d,t,os⟩) :
  wpAny (model prog w) A (tryCompare (.ref x) "__ne__" (.ref x)) Q E ⟨h,g,d,t,os⟩:=by
 simp only [tryCompare]
 refine wpAny_bind (Jl X hx hc hn F.cmp_object.ne (wpAny_call (codeAny_call_builtin F.cmp_object.ne.plain F.cmpEntry_ne (LM F.cmpKind_ne F.cmpSplit_ne (F.cmpArgs_ne _ _) X hx hc hm (PZ (A:=A.in1) X hx hc he hm hu ?_)))))
 exact wpAny_pure hq
theorem MG (X:K.In h) (hx:h.get? x=some o) (hc:o.cls=.ref C) (hn:W.findIn K (.ref C) "__ne__"=some (some (.builtin "object.__ne__"))) (he:W.findIn K (.ref C) "__eq__"=some (some (.builtin "object.__eq__"))) (hm:W.mroIn K C (.type "object")=some true) (hu:A.units+1<cLine) {Q:Value→Shared→Prop} (hq:Q (.bool false) ⟨h,g,d,t,os⟩) :
  wpAny (model prog w) A (compareOp .NotEq (.ref x) (.ref x)) Q E ⟨h,g,d,t,os⟩:=by
 have hu0:A.units<cLine:=Nat.lt_of_succ_lt hu
 show wpAny (model prog w) A (richCompare .NotEq (.ref x) (.ref x)) Q E ⟨h,g,d,t,os⟩
 simp only [richCompare,cmpInfo_NotEq,oneThing_ref]
 have nb:∀{α:Type} {k:Bool→Sem α} {Q:α→Shared→Prop},wpAny (model prog w) A (k false) Q E ⟨h,g,d,t,os⟩→wpAny (model prog w) A (if Value.ref C != Value.ref C then isSubtype (.ref C) (.ref C) >>= k else pure false >>= k) Q E ⟨h,g,d,t,os⟩:=fun hq=>by
  rw [if_neg (by simp)]
  exact wpAny_bind (wpAny_pure hq)
 repeat (first | with_reducible refine wpAny_cRoomFor hu0 ?_ | (with_reducible refine wpAny_loadPart_at hx ?_;rw [hc]) | with_reducible refine nb ?_ | with_reducible refine JR X hx hc hn he hm hu ?_ | wp_step)
 exact hq
end
end PySem
namespace L2
open PySem PySem.Spec PyProof.Rows
def Xd (K:PySem.W.Frag):R2:=fun x y H Q=>∃a C dx fs,x=.ref a∧y=.ref a∧H a=some (.ins C dx fs)∧PySem.W.findIn K (.ref C) "__ne__"=some (some (.builtin "object.__ne__"))∧PySem.W.findIn K (.ref C) "__eq__"=some (some (.builtin "object.__eq__"))∧PySem.W.mroIn K C (.type "object")=some true∧Q (.bl false) H
theorem vj {X:Cx} (hu:X.A.units+1<cLine):nV X (compareOp .NotEq) (Xd X.K):=by
 intro pins s σ H x y v u Q I rx ry h
 obtain ⟨a,C,dx,fs,rfl,rfl,e,hn,he,hm,q⟩:=h
 obtain rfl:v=Value.ref a:=rx
 obtain rfl:u=Value.ref a:=ry
 obtain ⟨_,O,_,_,_,_⟩:=oR I.hok e
 obtain ⟨h,g,d,t,os⟩:=s
 exact MG I.mJ O.obj rfl hn he hm hu ⟨.bl false,H,I,rfl,q⟩
theorem J5 {X:Cx} (n:Nat) (hu:X.A.units+1+n<cLine):nV X (compareOp .Eq) (fun x y H Q=>(x=.dM∧y=.dM∧Q (.bl true) H)∨xO X.K n true x y H Q):=by
 intro pins s σ H x y v u Q I rx ry h
 rcases h with ⟨rfl,rfl,q⟩ | h
 ·exact cS pins s σ H .dM .dM v u Q I rx ry ⟨rfl,by simpa using q⟩
 ·exact lI n hu pins s σ H x y v u Q I rx ry h
end L2
namespace Hw
open PySem L2
theorem vo {H G:Hp} {x:Addr} (s:aH H G) (h:G x=none):H x=none:=by
 cases e:H x with
 | none=>rfl
 | some o=>rw [s _ _ e] at h;cases h
theorem qF {H:Hp} {l:Addr} {xs ys:List V} (h:H l=some (.lst xs)):ay H (upd H l (.lst ys)):=ay.soft (z:=l) bz.upd h vU
theorem pX {H G:Hp} {l:Addr} {o:HO} (s:aH H G) (h:H l=none):aH H (upd G l o):=fun b u e=>by rw [aY (aE e h)];exact s b u e
structure BF (K:PySem.W.Frag) (Y:Cy):Prop where
 ne:PySem.W.findIn K (.ref Y.hp) "__ne__"=some (some (.builtin "object.__ne__"))
 eq:PySem.W.findIn K (.ref Y.hp) "__eq__"=some (some (.builtin "object.__eq__"))
 om:PySem.W.mroIn K Y.hp (.type "object")=some true
structure WL (Y:Cy) (G:Hp) (tt pg pc pb pl:Addr) (us ws:List V) (hs:List Hl) (c:Cd) (h0:Hl) (u0:V):Prop where
 et:G tt=some (.tup ws)
 pt:Paired (fun u h=>nU G h u) ws hs
 pg:rP Y G pg us hs
 ok:∀h∈hs,h.ok
 nd:(hs.map (·.nm)).Nodup
 nm:∀h∈hs,nS h.nm
 lh:hs.length≤10
 hz:hs[0]?=some h0
 uz:us[0]?=some u0
 cg:BJ c
 cc:cJ Y.z G c (.ref pc)
 sb:cj Y G (.jD 7 c h0.st h0.st) (.ref pb)
 sl:cj Y G (.rep 8 c [(9,c)] none h0.st) (.ref pl)
theorem rP.same {Y:Cy} {H H':Hp} {p:Addr} {us:List V} {l:List Hl} (h:rP Y H p us l) (s:aH H H'):rP Y H' p us l :=
 let ⟨dx,t,e,et,ll,pp⟩:=h;⟨dx,t,s _ _ e,s _ _ et,ll,L2.Paired.cQ pp fun _ _ z=>z.ao (ay.of s)⟩
theorem rP.ao {Y:Cy} {H H':Hp} {p:Addr} {us:List V} {l:List Hl} (h:rP Y H p us l) (k:ay H H'):rP Y H' p us l :=
 let ⟨dx,t,e,et,ll,pp⟩:=h;⟨dx,t,k.i _ _ _ _ e,k.t _ _ et,ll,L2.Paired.cQ pp fun _ _ z=>z.ao k⟩
section
variable {Y:Cy} {G G':Hp} {tt pg pc pb pl:Addr} {us ws:List V} {hs:List Hl} {c:Cd} {h0:Hl} {u0:V}
theorem WL.same (W:WL Y G tt pg pc pb pl us ws hs c h0 u0) (s:aH G G'):WL Y G' tt pg pc pb pl us ws hs c h0 u0 :=
 ⟨s _ _ W.et,L2.Paired.cQ W.pt fun _ _ z=>z.ao (ay.of s),W.pg.same s,W.ok,W.nd,W.nm,W.lh,W.hz,W.uz,W.cg,W.cc.ao (ay.of s),cj.ao (ay.of s) W.sb,cj.ao (ay.of s) W.sl⟩
theorem WL.first (W:WL Y G tt pg pc pb pl us ws hs c h0 u0):∃r t1 t2 v1 v2 t3 xs,ws[0]?=some (.ref r)∧G r=some (.tup [.str "helper",.int h0.at_,.str h0.nm,.ref t1,.ref t2,v1,v2,.ref t3])∧G t3=some (.tup xs)∧gA G h0.st xs∧nU G h0 (.ref r)∧h0∈hs:=by
 have lw:=aD W.pt
 have hm:=List.mem_of_getElem? W.hz
 have l0:=(List.getElem?_eq_some_iff.mp W.hz).1
 have hx:ws[0]?=some ws[0]:=List.getElem?_eq_getElem (by omega)
 obtain ⟨c',hc',hT⟩:=bB W.pt hx
 rw [W.hz] at hc'
 cases hc'
 obtain ⟨r,t1,t2,v1,v2,t3,xs,e,er,e1,e2,n1,n2,e3,h3⟩:=id hT
 rw [e] at hx hT
 exact ⟨r,t1,t2,v1,v2,t3,xs,hx,er,e3,h3,hT,hm⟩
theorem WL.uu (W:WL Y G tt pg pc pb pl us ws hs c h0 u0):(cO.jD 7 c h0.st h0.st).ok∧(cO.jD 7 c h0.st h0.st).dep≤4:=by
 have o:=W.ok _ (List.mem_of_getElem? W.hz)
 have:=o.dp
 exact ⟨by unfold cO.ok;exact ⟨W.cg,o.sl,o.sl,o.st,o.st⟩,by unfold cO.dep;omega⟩
theorem WL.tR (W:WL Y G tt pg pc pb pl us ws hs c h0 u0):(cO.rep 8 c [(9,c)] none h0.st).ok∧(cO.rep 8 c [(9,c)] none h0.st).dep≤4:=by
 have o:=W.ok _ (List.mem_of_getElem? W.hz)
 have:=o.dp
 exact ⟨by unfold cO.ok;exact ⟨W.cg,by show 1≤10;decide,fun q hq=>by rw [List.mem_singleton.mp hq];exact W.cg,(fun q h=>by cases h),o.sl,o.st⟩,by unfold cO.dep;omega⟩
end
theorem I9 {x:Str}:∀{us:List V} {l:List Hl} {i:Nat} {u:V} {h:Hl},(l.map (·.nm)).Nodup→us[i]?=some u→l[i]?=some h→h.nm=x→jA x us l=u
 | v::us,g::l,0,u,h,nd,e,e',hx=>by
  have e:v=u:=by simpa using e
  have e':g=h:=by simpa using e'
  subst e e'
  unfold jA
  rw [if_pos hx]
 | v::us,g::l,i+1,u,h,nd,e,e',hx=>by
  have e:us[i]?=some u:=by simpa using e
  have e':l[i]?=some h:=by simpa using e'
  have JC:(g.nm::l.map (·.nm)).Nodup:=nd
  obtain ⟨n1,n2⟩:=List.nodup_cons.mp JC
  unfold jA
  rw [if_neg,I9 n2 e e' hx]
  intro z
  refine n1 ?_
  rw [z,←hx]
  exact List.mem_map.mpr ⟨h,List.mem_of_getElem? e',rfl⟩
 | [],l,i,u,h,nd,e,e',hx=>by simp at e
 | _::_,[],i,u,h,nd,e,e',hx=>by simp at e'
theorem yf {x:Str}:∀{us:List V} {l:List Hl},(∀h∈l,¬h.nm=x)→jA x us l=.dM
 | [],l,h=>by cases l<;>rfl
 | _::_,[],h=>rfl
 | v::us,g::l,h=>by
  unfold jA
  rw [if_neg (h g (List.mem_cons_self ..)),yf fun a m=>h a (List.mem_cons_of_mem _ m)]
theorem Nl {x:Str} (h:nS x):¬x="nobodyatall":=fun e=>by
 have:=h.le
 rw [e] at this
 exact absurd this (by decide)
end Hw
namespace Hw
open PySem L2
theorem cV {α:Type} {A Q:α→Prop} {v:α} (h:A v) (q:Q v):∃v,A v∧Q v:=⟨v,h,q⟩
theorem cF {K:PySem.W.Frag} {f:Str} {a C dx:Addr} {fs:List (Str×V)} {v:V} {H:Hp} {Q:V→Prop} (e:H a=some (.ins C dx fs)) (c:uY K C) (n:eZ K C f) (l:fs.lookup f=some v) (q:Q v) :
  ∃a' C' dx' fs' v',V.ref a=.ref a'∧H a'=some (.ins C' dx' fs')∧uY K C'∧eZ K C' f∧fs'.lookup f=some v'∧Q v':=⟨a,C,dx,fs,v,rfl,e,c,n,l,q⟩
theorem cI {K:PySem.W.Frag} {H:Hp} {r:Addr} {xs:List V} {i:Int} {v:V} {Q:V→Prop} (e:aW K H r xs) (h:vJ xs i=some v) (q:Q v) :
  ∃p xs' i' v',V.ref r=.ref p∧V.int i=.int i'∧aW K H p xs'∧vJ xs' i'=some v'∧Q v':=⟨r,xs,i,v,rfl,rfl,e,h,q⟩
theorem cL {K:PySem.W.Frag} {H:Hp} {r:Addr} {xs:List V} {i:Int} {v:V} {Q:V→Prop} (e:bS K H r xs) (h:vJ xs i=some v) (q:Q v) :
  ∃p xs' i' v',V.ref r=.ref p∧V.int i=.int i'∧bS K H p xs'∧vJ xs' i'=some v'∧Q v':=⟨r,xs,i,v,rfl,rfl,e,h,q⟩
end Hw
namespace Hw
open PySem L2
section
variable {P:Program} {w:World} {K:PySem.W.Frag} {mg:Str→Option Value} {base:Heap} {k:Nat} {x:Str} {ps:List Str} {sp:Sp} {C:Addr} {m:Str}
noncomputable def Dn.f (h:Dn P w K mg base k x ps sp):Addr:=Classical.choose h
noncomputable def Dn.fd (h:Dn P w K mg base k x ps sp):FuncData:=Classical.choose (Classical.choose_spec h)
theorem Dn.all (h:Dn P w K mg base k x ps sp):bH P w K mg base dg k h.f h.fd ps sp∧mg x=some (.ref h.f)∧PySem.W.keepIn K (.ref h.f)=true∧Binds K h.fd ps []:=Classical.choose_spec (Classical.choose_spec h)
theorem Dn.ok (h:Dn P w K mg base k x ps sp):bH P w K mg base dg k h.f h.fd ps sp:=h.all.1
theorem Dn.mm (h:Dn P w K mg base k x ps sp):mg x=some (.ref h.f):=h.all.2.1
theorem Dn.kp (h:Dn P w K mg base k x ps sp):PySem.W.keepIn K (.ref h.f)=true:=h.all.2.2.1
theorem Dn.b (h:Dn P w K mg base k x ps sp):Binds K h.fd ps []:=h.all.2.2.2
noncomputable def Mt.f (h:Mt P w K mg base k C m ps sp):Addr:=Classical.choose h
noncomputable def Mt.fd (h:Mt P w K mg base k C m ps sp):FuncData:=Classical.choose (Classical.choose_spec h)
theorem Mt.all (h:Mt P w K mg base k C m ps sp):bH P w K mg base dg k h.f h.fd ps sp∧Meth K C m h.f∧Binds K h.fd ps []:=Classical.choose_spec (Classical.choose_spec h)
theorem Mt.ok (h:Mt P w K mg base k C m ps sp):bH P w K mg base dg k h.f h.fd ps sp:=h.all.1
theorem Mt.me (h:Mt P w K mg base k C m ps sp):Meth K C m h.f:=h.all.2.1
theorem Mt.b (h:Mt P w K mg base k C m ps sp):Binds K h.fd ps []:=h.all.2.2
noncomputable def Mr.f (h:Mr P w K mg base k C ps sp):Addr:=Classical.choose h
noncomputable def Mr.fd (h:Mr P w K mg base k C ps sp):FuncData:=Classical.choose (Classical.choose_spec h)
theorem Mr.all (h:Mr P w K mg base k C ps sp):bH P w K mg base dg k h.f h.fd ps sp∧Mk K C h.f∧Binds K h.fd ps []:=Classical.choose_spec (Classical.choose_spec h)
theorem Mr.ok (h:Mr P w K mg base k C ps sp):bH P w K mg base dg k h.f h.fd ps sp:=h.all.1
theorem Mr.me (h:Mr P w K mg base k C ps sp):Mk K C h.f:=h.all.2.1
theorem Mr.b (h:Mr P w K mg base k C ps sp):Binds K h.fd ps []:=h.all.2.2
end
end Hw
set_option maxHeartbeats 8000000
namespace Hw
open PySem L2 PyProof.Rows
def top (i:Nat):Stmt:=PySem.Challenge.pw_holdwright_k10_steps_tell.main.body.getD i (.Pass ⟨0,0,0,0⟩)
end Hw
namespace Hw
open PySem L2 PyProof.Rows
section
variable {P:Program} {w:World} {K:PySem.W.Frag} {mg:Str→Option Value} {base:Heap}
abbrev tQ:Stmt:=inClass (top 19) 0
theorem uI:aQ ["self","terms","number"] ["self","terms","number"] (ak tQ):=⟨rfl,rfl,rfl,by decide +kernel,rfl,by decide +kernel,by decide +kernel⟩
theorem Ka {f C:Addr} {fd:FuncData} (F:dX K "__init__" "Sum.__init__" tQ f fd) (T:Txt K mg C) :bH P w K mg base dg 1 f fd ["self","terms","number"] (AW C):=by
 refine F.ok uI (fun vs H Q E h=>?_) (fun cdv A outer s H vs Q E hr h=>?_)
 ·obtain ⟨p,dx,l,n,ps,rfl,hp,hs,hz,k⟩:=h
  rfl
 ·obtain ⟨p,dx,l,n,ps,rfl,hp,hs,hz,k⟩:=h
  have hu:=bh hr
  rw [show av tQ=[_,_] from rfl]
  refine ⟨_,(ai (ck (pv 0) (ia aK (by rfl) T.tuple boot_tuple (di (cK (br ["pair"] [] [] rfl (by decide +kernel) (by decide +kernel) (by with_unfolding_all rfl) (by exact trivial) (by rfl) rfl (by rfl)) rfl (FP (pv 1)) (fun _ _ _ _=>(aP (i:=0) (show List.Nodup (["pair"]:List Str) by decide +kernel) rfl (Or.inl rfl) (Or.inr rfl))) (fun _ _ _ _=>cy) (fun _ _ _ _=>(ia (lU (K:=K) rfl) (by rfl) T.tuple boot_tuple (di (pv 0) ah)))) ah)) rfl)
   (aA (ck (pv 0) (pv 2) rfl))),?_⟩
  refine (cV rfl ⟨l,rfl,KL hs (fun i ys H'=>H'=H∧yD H ys (ps.take i)) ⟨rfl,.nil⟩ (fun i ys H' q=>q.1▸Kp.refl) ?_ ?_⟩)
  ·rintro i v pr ys H' hi ⟨a,rfl,ha⟩ ⟨rfl,hy⟩
   refine ⟨Ext.one,gk (cV rfl ⟨a,cV rfl (.inr ⟨aW.of ha,?_,rfl,?_⟩)⟩)⟩
   ·rw [kg hy,List.length_take]
    exact line _ (by omega)
   ·rw [take_snoc hi]
    exact rZ hy (oF ⟨a,rfl,ha⟩)
  ·rintro ys H' ⟨rfl,hy⟩ q hq
   rw [List.take_length] at hy
   refine ⟨q,cV rfl (.inl ⟨bS.of af,fun t ht=>?_⟩)⟩
   have npq:p≠q:=aE hp hq
   have h1:upd H' q (.lst ys) p=some (.ins C dx []):=by rw [aY npq];exact hp
   have Hj:p≠t:=aE h1 ht
   refine (cV rfl ⟨p,C,dx,[],rfl,(by rw [aY Hj];exact h1),T.cl,T.nT,(by show 0<1000;decide),?_⟩)
   refine (cV rfl (cV rfl ⟨p,C,dx,cV rfl ⟨af,T.cl,T.nN,(by show 1<1000;decide),?_⟩⟩))
   have b:bz p H' (upd (upd (upd (upd H' q (.lst ys)) t (.tup ys)) p (.ins C dx (bu "terms" (.ref t) []))) p (.ins C dx (qR t n))) :=
    (((bz.of (new hq)).new ht).trans bz.upd).trans bz.upd
   refine k _ b ⟨dx,t,af,⟨ys,?_,hy.keep ?_⟩,hz⟩
   ·rw [aY Hj.symm,aY Hj.symm,af]
   ·exact (Kp.but b (by intro xs;rw [hp];intro z;cases z) (by intro xs;rw [hp];intro z;cases z)).t
abbrev mT:Stmt:=inClass (top 19) 7
theorem xJ:aQ ["self"] ["self"] (ak mT):=⟨rfl,rfl,rfl,by decide +kernel,rfl,by decide +kernel,by decide +kernel⟩
theorem GG {f:Addr} {fd:FuncData} {Z:Cz} {n:Nat} (F:dX K "told" "Sum.told" mT f fd) (T:Txt K mg Z.s) (U:dW K mg Z) :bH P w K mg base dg 1 f fd ["self"] (iI Z.s):=by
 refine F.ok xJ (fun vs H Q E h=>?_) (fun cdv A outer s H vs Q E hr h=>?_)
 ·obtain ⟨p,ts,n,rfl,S0,k⟩:=h
  rfl
 ·obtain ⟨p,ts,n,rfl,S0,k⟩:=h
  have hu:=bh hr
  rw [show av mT=[_] from rfl]
  refine ⟨_,(aA (aM (aS (di (aG (pv 0) rfl) (di (aG (pv 0) rfl) ah))))),?_⟩
  obtain ⟨dx,t,hp,ht,hz⟩:=id S0
  exact (cV rfl (cF hp T.cl T.nT (dR _ _) (cV rfl (cF hp T.cl T.nN (dI _ _) ⟨Nat.le_of_lt (line 2 (by decide)),fun r hr'=>k r _ (new hr') ⟨t,af,ht.same (new hr')⟩⟩))))
abbrev mY:Stmt:=inClass (top 23) 0
theorem oz:aQ ["self","one","sign","other"] ["self","one","sign","other"] (ak mY):=⟨rfl,rfl,rfl,by decide +kernel,rfl,by decide +kernel,by decide +kernel⟩
theorem Hi {f:Addr} {fd:FuncData} {Z:Cz} {n:Nat} (F:dX K "__init__" "Compare.__init__" mY f fd) (T:Txt K mg Z.s) (U:dW K mg Z) :bH P w K mg base dg 1 f fd ["self","one","sign","other"] (rY Z):=by
 refine F.ok oz (fun vs H Q E h=>?_) (fun cdv A outer s H vs Q E hr h=>?_)
 ·obtain ⟨p,dx,u,w,s,rfl,hp,k⟩:=h
  rfl
 ·obtain ⟨p,dx,u,w,s,rfl,hp,k⟩:=h
  have hu:=bh hr
  rw [show av mY=[_,_,_] from rfl]
  refine ⟨_,(ai (ck (pv 0) (pv 1) rfl)
   (ai (ck (pv 0) (pv 2) rfl)
   (aA (ck (pv 0) (pv 3) rfl)))),?_⟩
  refine (cV rfl (cV rfl ⟨p,Z.c,dx,cV rfl ⟨hp,U.cl 0 (by decide),U.n1,(by show 0<1000;decide),?_⟩⟩))
  refine (cV rfl (cV rfl ⟨p,Z.c,dx,cV rfl ⟨af,U.cl 0 (by decide),U.n2,(by show 1<1000;decide),?_⟩⟩))
  refine (cV rfl (cV rfl ⟨p,Z.c,dx,cV rfl ⟨af,U.cl 0 (by decide),U.n3,(by show 2<1000;decide),?_⟩⟩))
  exact k _ ((bz.upd.trans bz.upd).trans bz.upd) af
abbrev mR:Stmt:=inClass (top 24) 0
theorem pS:aQ ["self","condition"] ["self","condition"] (ak mR):=⟨rfl,rfl,rfl,by decide +kernel,rfl,by decide +kernel,by decide +kernel⟩
theorem Gz {f:Addr} {fd:FuncData} {Z:Cz} {n:Nat} (F:dX K "__init__" "Turned.__init__" mR f fd) (T:Txt K mg Z.s) (U:dW K mg Z) :bH P w K mg base dg 1 f fd ["self","condition"] (rV Z):=by
 refine F.ok pS (fun vs H Q E h=>?_) (fun cdv A outer s H vs Q E hr h=>?_)
 ·obtain ⟨p,dx,u,rfl,hp,k⟩:=h
  rfl
 ·obtain ⟨p,dx,u,rfl,hp,k⟩:=h
  have hu:=bh hr
  rw [show av mR=[_] from rfl]
  refine ⟨_,(aA (ck (pv 0) (pv 1) rfl)),?_⟩
  refine (cV rfl (cV rfl ⟨p,Z.t,dx,cV rfl ⟨hp,U.cl 1 (by decide),U.n4,(by show 0<1000;decide),?_⟩⟩))
  exact k _ bz.upd af
abbrev gX:Stmt:=inClass (top 25) 0
theorem jq:aQ ["self","conditions"] ["self","conditions"] (ak gX):=⟨rfl,rfl,rfl,by decide +kernel,rfl,by decide +kernel,by decide +kernel⟩
theorem GY {f:Addr} {fd:FuncData} {Z:Cz} {n:Nat} (F:dX K "__init__" "Several.__init__" gX f fd) (T:Txt K mg Z.s) (U:dW K mg Z) :bH P w K mg base dg 1 f fd ["self","conditions"] (jk Z.e):=by
 refine F.ok jq (fun vs H Q E h=>?_) (fun cdv A outer s H vs Q E hr h=>?_)
 ·obtain ⟨p,dx,l,us,rfl,hp,hl,k⟩:=h
  rfl
 ·obtain ⟨p,dx,l,us,rfl,hp,hl,k⟩:=h
  have hu:=bh hr
  rw [show av gX=[_] from rfl]
  refine ⟨_,(aA (ck (pv 0) (ia aK (by rfl) T.tuple boot_tuple (di (pv 1) ah)) rfl)),?_⟩
  refine (cV rfl ⟨l,cV rfl (.inl ⟨bS.of hl,fun t ht=>?_⟩)⟩)
  have Hj:p≠t:=aE hp ht
  refine (cV rfl ⟨p,Z.e,dx,cV rfl ⟨(by rw [aY Hj];exact hp),U.cl 2 (by decide),U.n5,(by show 0<1000;decide),?_⟩⟩)
  exact k t _ ((bz.of (new ht)).trans bz.upd) af (by rw [aY Hj.symm];exact af)
theorem GO {f:Addr} {fd:FuncData} {Z:Cz} {n:Nat} (F:dX K "__init__" "Several.__init__" gX f fd) (T:Txt K mg Z.s) (U:dW K mg Z) :bH P w K mg base dg 1 f fd ["self","conditions"] (jk Z.o):=by
 refine F.ok jq (fun vs H Q E h=>?_) (fun cdv A outer s H vs Q E hr h=>?_)
 ·obtain ⟨p,dx,l,us,rfl,hp,hl,k⟩:=h
  rfl
 ·obtain ⟨p,dx,l,us,rfl,hp,hl,k⟩:=h
  have hu:=bh hr
  rw [show av gX=[_] from rfl]
  refine ⟨_,(aA (ck (pv 0) (ia aK (by rfl) T.tuple boot_tuple (di (pv 1) ah)) rfl)),?_⟩
  refine (cV rfl ⟨l,cV rfl (.inl ⟨bS.of hl,fun t ht=>?_⟩)⟩)
  have Hj:p≠t:=aE hp ht
  refine (cV rfl ⟨p,Z.o,dx,cV rfl ⟨(by rw [aY Hj];exact hp),U.cl 3 (by decide),U.n6,(by show 0<1000;decide),?_⟩⟩)
  exact k t _ ((bz.of (new ht)).trans bz.upd) af (by rw [aY Hj.symm];exact af)
abbrev lE:Stmt:=inClass (top 23) 4
theorem rH:aQ ["self"] ["self"] (ak lE):=⟨rfl,rfl,rfl,by decide +kernel,rfl,by decide +kernel,by decide +kernel⟩
theorem Hh {f:Addr} {fd:FuncData} {Z:Cz} {n:Nat} (F:dX K "told" "Compare.told" lE f fd) (T:Txt K mg Z.s) (U:dW K mg Z) (bK:Mt P w K mg base 1 Z.s "told" ["self"] (iI Z.s)):bH P w K mg base dg (n+2) f fd ["self"] (cZ Z (n+1) 0):=by
 refine F.ok rH (fun vs H Q E h=>?_) (fun cdv A outer s H vs Q E hr h=>?_)
 ·obtain ⟨p,c,rfl,sj,hc,hd,k⟩:=h
  rfl
 ·obtain ⟨p,c,rfl,sj,hc,hd,k⟩:=h
  have hu:=bh hr
  rw [show av lE=[_] from rfl]
  refine ⟨_,(aA (aM (aS (di bf (di (eE (aG (pv 0) rfl) T.cl bK.me bK.ok (hr.mono (by first | decide | omega)) bK.b .nil aB) (di (aG (pv 0) rfl) (di (eE (aG (pv 0) rfl) T.cl bK.me bK.ok (hr.mono (by first | decide | omega)) bK.b .nil aB) ah))))))),?_⟩
  cases c with
  | neg c=>exact absurd sj (by show ¬(1=0);decide)
  | con b cs=>cases b<;>exact absurd sj (by first | (show ¬(2=0);decide) | (show ¬(3=0);decide))
  | cmp a i s b m =>
  unfold cJ at hc
  obtain ⟨q,dx,u,w,e,ep,s1,s2⟩:=hc
  cases e
  obtain ⟨du,tu,hu',_⟩:=id s1
  obtain ⟨dw,tw,hw',_⟩:=id s2
  refine (cV rfl (cF ep (U.cl 0 (by decide)) U.n1 (Qg _ _ _) ⟨u,du,cV rfl ⟨hu',fX _ _ (by decide +kernel) (by decide +kernel),u,a,i,rfl,s1,fun r1 H1 ve D1=>?_⟩⟩))
  refine (cV rfl (cF (ve _ _ ep) (U.cl 0 (by decide)) U.n2 (Qf _ _ _) ?_))
  refine (cV rfl (cF (ve _ _ ep) (U.cl 0 (by decide)) U.n3 (Qe _ _ _) ⟨w,dw,cV rfl ⟨ve _ _ hw',fX _ _ (by decide +kernel) (by decide +kernel),w,b,m,rfl,s2.same ve,fun r2 H2 Tr D2=>?_⟩⟩))
  refine ⟨Nat.le_of_lt (line 4 (by decide)),fun r hr'=>k (.ref r) _ ((ve.trans Tr).trans (new hr')) ?_⟩
  unfold bg
  exact ⟨r,r1,r2,rfl,af,(D1.same Tr).same (new hr'),D2.same (new hr')⟩
abbrev kO:Stmt:=inClass (top 24) 4
theorem sX:aQ ["self"] ["self"] (ak kO):=⟨rfl,rfl,rfl,by decide +kernel,rfl,by decide +kernel,by decide +kernel⟩
theorem Gy {f:Addr} {fd:FuncData} {Z:Cz} {n:Nat} (F:dX K "told" "Turned.told" kO f fd) (T:Txt K mg Z.s) (U:dW K mg Z) (bM:M4 P w K mg base (n+1) Z "told" ["self"] (cZ Z n)):bH P w K mg base dg (n+2) f fd ["self"] (cZ Z (n+1) 1):=by
 refine F.ok sX (fun vs H Q E h=>?_) (fun cdv A outer s H vs Q E hr h=>?_)
 ·obtain ⟨p,c,rfl,sj,hc,hd,k⟩:=h
  rfl
 ·obtain ⟨p,c,rfl,sj,hc,hd,k⟩:=h
  have hu:=bh hr
  rw [show av kO=[_] from rfl]
  refine ⟨_,(aA (aM (aS (di bf (di (gG (Z:=Z) (aG (pv 0) rfl) U.cl fQ bM (hr.mono (by first | decide | omega)) aB) ah))))),?_⟩
  cases c with
  | cmp a i s b m=>exact absurd sj (by show ¬(0=1);decide)
  | con b cs=>cases b<;>exact absurd sj (by first | (show ¬(2=1);decide) | (show ¬(3=1);decide))
  | neg c =>
  unfold cJ at hc
  obtain ⟨q,dx,u,e,ep,hc⟩:=hc
  cases e
  obtain ⟨pu,rfl⟩:=eU hc
  refine (cV rfl (cF ep (U.cl 1 (by decide)) U.n4 (a0M _) ⟨pu,c,rfl,hc,pu,c,rfl,rfl,hc,(by unfold Cd.dep at hd;omega),fun v H1 sm d=>?_⟩))
  refine ⟨Nat.le_of_lt (line 2 (by decide)),fun r hr'=>k (.ref r) _ (sm.trans (new hr')) ?_⟩
  unfold bg
  exact ⟨r,v,rfl,af,d.ao (ay.of (new hr'))⟩
abbrev lC:Stmt:=inClass (top 26) 2
theorem uO:aQ ["self"] ["self"] (ak lC):=⟨rfl,rfl,rfl,by decide +kernel,rfl,by decide +kernel,by decide +kernel⟩
theorem GX {f:Addr} {fd:FuncData} {Z:Cz} {n:Nat} (F:dX K "told" "Every.told" lC f fd) (T:Txt K mg Z.s) (U:dW K mg Z) (bM:M4 P w K mg base (n+1) Z "told" ["self"] (cZ Z n)):bH P w K mg base dg (n+2) f fd ["self"] (cZ Z (n+1) 2):=by
 refine F.ok uO (fun vs H Q E h=>?_) (fun cdv A outer s H vs Q E hr h=>?_)
 ·obtain ⟨p,c,rfl,sj,hc,hd,k⟩:=h
  rfl
 ·obtain ⟨p,c,rfl,sj,hc,hd,k⟩:=h
  have hu:=bh hr
  rw [show av lC=[_] from rfl]
  refine ⟨_,(aA (aM (bN ki (aS (di bf ah)) (ia aK (by rfl) T.tuple boot_tuple (di (cK (br ["condition"] [] [] rfl (by decide +kernel) (by decide +kernel) (by with_unfolding_all rfl) (by exact trivial) (by rfl) rfl (by rfl)) rfl (eX (aG (pv 0) rfl)) (fun _ _ _ _=>(aP (i:=0) (show List.Nodup (["condition"]:List Str) by decide +kernel) rfl (Or.inl rfl) (Or.inr rfl))) (fun _ _ _ _=>cy) (fun _ _ _ _=>(gG (Z:=Z) (pv 0) U.cl fQ bM (hr.mono (by first | decide | omega)) aB))) ah))))),?_⟩
  cases c with
  | cmp a i s b m=>exact absurd sj (by show ¬(0=2);decide)
  | neg c=>exact absurd sj (by show ¬(1=2);decide)
  | con b cs =>
  cases b with
  | false=>exact absurd sj (by first | (show ¬(2=2);decide) | (show ¬(3=2);decide))
  | true =>
  unfold cJ at hc
  obtain ⟨q,dx,t,us,e,ep,et,l,hcs⟩:=hc
  cases e
  have ep:H p=some (.ins Z.e dx (sO t)):=ep
  have Dw:=dj.mp hcs
  have nJ:us.length=cs.length:=aD Dw
  refine ⟨(szl 1),fun r1 hr1=>?_⟩
  have s1:=new (o:=.tup [.str (DY true)]) hr1
  refine (cV rfl (cF (s1 _ _ ep) (U.cl 2 (by decide)) U.n5 (Qd _) ⟨t,rfl,⟨us,aW.of (s1 _ _ et)⟩,cT (xs:=us) (fun i ys H'=>aH (upd H r1 (.tup [.str (DY true)])) H'∧dB H' (cs.take i) ys) ⟨fun _ _ z=>z,(by unfold dB;rfl)⟩ (fun i ys H' _ q=>aW.of (q.1 _ _ (s1 _ _ et))) ?_ ?_⟩))
  ·rintro i x ys H' hi ⟨sm,ht⟩
   obtain ⟨c,fK,Kw⟩:=bB Dw hi
   obtain ⟨pu,rfl⟩:=eU Kw
   have IY:=Kw.ao (ay.of (s1.trans sm))
   have wR:=(List.getElem?_eq_some_iff.mp fK).1
   have mH:ys.length≤i:=by
    have z:=aD (cC.mp ht)
    rw [List.length_take] at z
    omega
   have dd:c.dep≤n:=by
    have z:=su (List.mem_of_getElem? fK)
    unfold Cd.dep at hd
    omega
   refine ⟨Ext.one,gk (cV rfl ⟨pu,c,rfl,IY,pu,c,rfl,rfl,IY,dd,fun v H1 ve d=>⟨line _ (by omega),sm.trans ve,?_⟩⟩)⟩
   rw [take_snoc fK]
   exact cC.mpr (bx (cC.mp (ht.ao (ay.of ve))) d)
  ·rintro ys H' ⟨sm,ht⟩ q hq
   rw [nJ,List.take_length] at ht
   have mH:ys.length=cs.length:=aD (cC.mp ht)
   refine ⟨q,cV rfl (.inl ⟨bS.of af,fun r2 hr2=>?_⟩)⟩
   have s3:aH H' (upd (upd H' q (.lst ys)) r2 (.tup ys)):=aH.new (new hq) hr2
   refine ⟨r1,r2,_,cV rfl ⟨rfl,aW.of (s3 _ _ (sm _ _ af)),aW.of af,(by show 1+ys.length≤sizeLine;exact Nat.le_of_lt (line _ (by omega))),?_,?_,?_⟩⟩
   ·intro z;cases z
   ·intro _ z
    subst z
    refine k _ _ ((s1.trans sm).trans s3) ?_
    unfold bg
    exact ⟨r1,[],rfl,s3 _ _ (sm _ _ af),ht.ao (ay.of s3)⟩
   ·intro _ _ r hr'
    refine k _ _ (((s1.trans sm).trans s3).trans (new hr')) ?_
    unfold bg
    exact ⟨r,ys,rfl,af,(ht.ao (ay.of s3)).ao (ay.of (new hr'))⟩
abbrev kR:Stmt:=inClass (top 27) 2
theorem vY:aQ ["self"] ["self"] (ak kR):=⟨rfl,rfl,rfl,by decide +kernel,rfl,by decide +kernel,by decide +kernel⟩
theorem GN {f:Addr} {fd:FuncData} {Z:Cz} {n:Nat} (F:dX K "told" "Some.told" kR f fd) (T:Txt K mg Z.s) (U:dW K mg Z) (bM:M4 P w K mg base (n+1) Z "told" ["self"] (cZ Z n)):bH P w K mg base dg (n+2) f fd ["self"] (cZ Z (n+1) 3):=by
 refine F.ok vY (fun vs H Q E h=>?_) (fun cdv A outer s H vs Q E hr h=>?_)
 ·obtain ⟨p,c,rfl,sj,hc,hd,k⟩:=h
  rfl
 ·obtain ⟨p,c,rfl,sj,hc,hd,k⟩:=h
  have hu:=bh hr
  rw [show av kR=[_] from rfl]
  refine ⟨_,(aA (aM (bN ki (aS (di bf ah)) (ia aK (by rfl) T.tuple boot_tuple (di (cK (br ["condition"] [] [] rfl (by decide +kernel) (by decide +kernel) (by with_unfolding_all rfl) (by exact trivial) (by rfl) rfl (by rfl)) rfl (eX (aG (pv 0) rfl)) (fun _ _ _ _=>(aP (i:=0) (show List.Nodup (["condition"]:List Str) by decide +kernel) rfl (Or.inl rfl) (Or.inr rfl))) (fun _ _ _ _=>cy) (fun _ _ _ _=>(gG (Z:=Z) (pv 0) U.cl fQ bM (hr.mono (by first | decide | omega)) aB))) ah))))),?_⟩
  cases c with
  | cmp a i s b m=>exact absurd sj (by show ¬(0=3);decide)
  | neg c=>exact absurd sj (by show ¬(1=3);decide)
  | con b cs =>
  cases b with
  | true=>exact absurd sj (by first | (show ¬(2=3);decide) | (show ¬(3=3);decide))
  | false =>
  unfold cJ at hc
  obtain ⟨q,dx,t,us,e,ep,et,l,hcs⟩:=hc
  cases e
  have ep:H p=some (.ins Z.o dx (sO t)):=ep
  have Dw:=dj.mp hcs
  have nJ:us.length=cs.length:=aD Dw
  refine ⟨(szl 1),fun r1 hr1=>?_⟩
  have s1:=new (o:=.tup [.str (DY false)]) hr1
  refine (cV rfl (cF (s1 _ _ ep) (U.cl 3 (by decide)) U.n6 (Qd _) ⟨t,rfl,⟨us,aW.of (s1 _ _ et)⟩,cT (xs:=us) (fun i ys H'=>aH (upd H r1 (.tup [.str (DY false)])) H'∧dB H' (cs.take i) ys) ⟨fun _ _ z=>z,(by unfold dB;rfl)⟩ (fun i ys H' _ q=>aW.of (q.1 _ _ (s1 _ _ et))) ?_ ?_⟩))
  ·rintro i x ys H' hi ⟨sm,ht⟩
   obtain ⟨c,fK,Kw⟩:=bB Dw hi
   obtain ⟨pu,rfl⟩:=eU Kw
   have IY:=Kw.ao (ay.of (s1.trans sm))
   have wR:=(List.getElem?_eq_some_iff.mp fK).1
   have mH:ys.length≤i:=by
    have z:=aD (cC.mp ht)
    rw [List.length_take] at z
    omega
   have dd:c.dep≤n:=by
    have z:=su (List.mem_of_getElem? fK)
    unfold Cd.dep at hd
    omega
   refine ⟨Ext.one,gk (cV rfl ⟨pu,c,rfl,IY,pu,c,rfl,rfl,IY,dd,fun v H1 ve d=>⟨line _ (by omega),sm.trans ve,?_⟩⟩)⟩
   rw [take_snoc fK]
   exact cC.mpr (bx (cC.mp (ht.ao (ay.of ve))) d)
  ·rintro ys H' ⟨sm,ht⟩ q hq
   rw [nJ,List.take_length] at ht
   have mH:ys.length=cs.length:=aD (cC.mp ht)
   refine ⟨q,cV rfl (.inl ⟨bS.of af,fun r2 hr2=>?_⟩)⟩
   have s3:aH H' (upd (upd H' q (.lst ys)) r2 (.tup ys)):=aH.new (new hq) hr2
   refine ⟨r1,r2,_,cV rfl ⟨rfl,aW.of (s3 _ _ (sm _ _ af)),aW.of af,(by show 1+ys.length≤sizeLine;exact Nat.le_of_lt (line _ (by omega))),?_,?_,?_⟩⟩
   ·intro z;cases z
   ·intro _ z
    subst z
    refine k _ _ ((s1.trans sm).trans s3) ?_
    unfold bg
    exact ⟨r1,[],rfl,s3 _ _ (sm _ _ af),ht.ao (ay.of s3)⟩
   ·intro _ _ r hr'
    refine k _ _ (((s1.trans sm).trans s3).trans (new hr')) ?_
    unfold bg
    exact ⟨r,ys,rfl,af,(ht.ao (ay.of s3)).ao (ay.of (new hr'))⟩
abbrev AZ:Stmt:=inClass (top 2) 0
theorem sY:aQ ["self","at"] ["self","at"] (ak AZ):=⟨rfl,rfl,rfl,by decide +kernel,rfl,by decide +kernel,by decide +kernel⟩
theorem MV {f:Addr} {fd:FuncData} {Y:Cy} {fS:Addr} {n:Nat} (F:dX K "__init__" "Step.__init__" AZ f fd) (T:Txt K mg Y.z.s) (U:dW K mg Y.z) (J:eW K mg Y fS) :bH P w K mg base dg 1 f fd ["self","at"] (kK Y):=by
 refine F.ok sY (fun vs H Q E h=>?_) (fun cdv A outer s H vs Q E hr h=>?_)
 ·obtain ⟨p,dx,a,j,rfl,hj,hm,hp,k⟩:=h
  rfl
 ·obtain ⟨p,dx,a,j,rfl,hj,hm,hp,k⟩:=h
  have hu:=bh hr
  rw [show av AZ=[_] from rfl]
  refine ⟨_,(aA (ck (pv 0) (pv 1) rfl)),?_⟩
  refine (cV rfl (cV rfl ⟨p,_,dx,cV rfl ⟨hp,J.cl j hj,J.na j _ hj hm,(by show 0<1000;decide),?_⟩⟩))
  exact k _ bz.upd af
abbrev A5:Stmt:=inClass (top 3) 0
theorem uK:aQ ["self","at","name","total"] ["self","at","name","total"] (ak A5):=⟨rfl,rfl,rfl,by decide +kernel,rfl,by decide +kernel,by decide +kernel⟩
theorem M6 {f:Addr} {fd:FuncData} {Y:Cy} {fS:Addr} {n:Nat} (F:dX K "__init__" "Let.__init__" A5 f fd) (T:Txt K mg Y.z.s) (U:dW K mg Y.z) (J:eW K mg Y fS) (iF:∃fd,bH P w K mg base dg 1 fS fd ["self","at"] (kK Y)∧Binds K fd ["self","at"] []):bH P w K mg base dg 2 f fd ["self","at","name","total"] (qQ Y 0):=by
 obtain ⟨rj,iH,iG⟩:=iF
 refine F.ok uK (fun vs H Q E h=>?_) (fun cdv A outer s H vs Q E hr h=>?_)
 ·obtain ⟨p,dx,a,v1,v2,rfl,hp,k⟩:=h
  rfl
 ·obtain ⟨p,dx,a,v1,v2,rfl,hp,k⟩:=h
  have hu:=bh hr
  rw [show av A5=[_,_,_] from rfl]
  refine ⟨_,(ai (fh (iR rfl J.JD J.g1 J.g2 J.g3 J.g4 J.g5 iH (hr.mono (by first | decide | omega)) iG aB (aa (pv 0) (aa (pv 1) ah))))
   (ai (ck (pv 0) (pv 2) rfl)
   (aA (ck (pv 0) (pv 3) rfl)))),?_⟩
  refine (cV rfl (cV rfl ⟨p,dx,a,0,rfl,(by decide),(by decide +kernel),hp,fun H1 b1 e1=>?_⟩))
  refine (cV rfl (cV rfl ⟨p,_,dx,cV rfl ⟨e1,J.cl 0 (by decide),J.na 0 _ (by decide) (by decide +kernel),(by show 1<1000;decide),?_⟩⟩))
  refine (cV rfl (cV rfl ⟨p,_,dx,cV rfl ⟨af,J.cl 0 (by decide),J.na 0 _ (by decide) (by decide +kernel),(by show 2<1000;decide),?_⟩⟩))
  exact k _ ((b1.trans bz.upd).trans bz.upd) af
abbrev A8:Stmt:=inClass (top 4) 0
theorem pV:aQ ["self","at","name","word","total","by"] ["self","at","name","word","total","by"] (ak A8):=⟨rfl,rfl,rfl,by decide +kernel,rfl,by decide +kernel,by decide +kernel⟩
theorem Nc {f:Addr} {fd:FuncData} {Y:Cy} {fS:Addr} {n:Nat} (F:dX K "__init__" "Divide.__init__" A8 f fd) (T:Txt K mg Y.z.s) (U:dW K mg Y.z) (J:eW K mg Y fS) (iF:∃fd,bH P w K mg base dg 1 fS fd ["self","at"] (kK Y)∧Binds K fd ["self","at"] []):bH P w K mg base dg 2 f fd ["self","at","name","word","total","by"] (BW Y 1):=by
 obtain ⟨rj,iH,iG⟩:=iF
 refine F.ok pV (fun vs H Q E h=>?_) (fun cdv A outer s H vs Q E hr h=>?_)
 ·obtain ⟨p,dx,a,v1,v2,v3,v4,rfl,hp,k⟩:=h
  rfl
 ·obtain ⟨p,dx,a,v1,v2,v3,v4,rfl,hp,k⟩:=h
  have hu:=bh hr
  rw [show av A8=[_,_,_,_,_] from rfl]
  refine ⟨_,(ai (fh (iR rfl J.JD J.g1 J.g2 J.g3 J.g4 J.g5 iH (hr.mono (by first | decide | omega)) iG aB (aa (pv 0) (aa (pv 1) ah))))
   (ai (ck (pv 0) (pv 2) rfl)
   (ai (ck (pv 0) (pv 3) rfl)
   (ai (ck (pv 0) (pv 4) rfl)
   (aA (ck (pv 0) (pv 5) rfl)))))),?_⟩
  refine (cV rfl (cV rfl ⟨p,dx,a,1,rfl,(by decide),(by decide +kernel),hp,fun H1 b1 e1=>?_⟩))
  refine (cV rfl (cV rfl ⟨p,_,dx,cV rfl ⟨e1,J.cl 1 (by decide),J.na 1 _ (by decide) (by decide +kernel),(by show 1<1000;decide),?_⟩⟩))
  refine (cV rfl (cV rfl ⟨p,_,dx,cV rfl ⟨af,J.cl 1 (by decide),J.na 1 _ (by decide) (by decide +kernel),(by show 2<1000;decide),?_⟩⟩))
  refine (cV rfl (cV rfl ⟨p,_,dx,cV rfl ⟨af,J.cl 1 (by decide),J.na 1 _ (by decide) (by decide +kernel),(by show 3<1000;decide),?_⟩⟩))
  refine (cV rfl (cV rfl ⟨p,_,dx,cV rfl ⟨af,J.cl 1 (by decide),J.na 1 _ (by decide) (by decide +kernel),(by show 4<1000;decide),?_⟩⟩))
  exact k _ ((((b1.trans bz.upd).trans bz.upd).trans bz.upd).trans bz.upd) af
abbrev A7:Stmt:=inClass (top 5) 0
theorem rG:aQ ["self","at","name","row","place"] ["self","at","name","row","place"] (ak A7):=⟨rfl,rfl,rfl,by decide +kernel,rfl,by decide +kernel,by decide +kernel⟩
theorem Nb {f:Addr} {fd:FuncData} {Y:Cy} {fS:Addr} {n:Nat} (F:dX K "__init__" "Fetch.__init__" A7 f fd) (T:Txt K mg Y.z.s) (U:dW K mg Y.z) (J:eW K mg Y fS) (iF:∃fd,bH P w K mg base dg 1 fS fd ["self","at"] (kK Y)∧Binds K fd ["self","at"] []):bH P w K mg base dg 2 f fd ["self","at","name","row","place"] (qP Y 2):=by
 obtain ⟨rj,iH,iG⟩:=iF
 refine F.ok rG (fun vs H Q E h=>?_) (fun cdv A outer s H vs Q E hr h=>?_)
 ·obtain ⟨p,dx,a,v1,v2,v3,rfl,hp,k⟩:=h
  rfl
 ·obtain ⟨p,dx,a,v1,v2,v3,rfl,hp,k⟩:=h
  have hu:=bh hr
  rw [show av A7=[_,_,_,_] from rfl]
  refine ⟨_,(ai (fh (iR rfl J.JD J.g1 J.g2 J.g3 J.g4 J.g5 iH (hr.mono (by first | decide | omega)) iG aB (aa (pv 0) (aa (pv 1) ah))))
   (ai (ck (pv 0) (pv 2) rfl)
   (ai (ck (pv 0) (pv 3) rfl)
   (aA (ck (pv 0) (pv 4) rfl))))),?_⟩
  refine (cV rfl (cV rfl ⟨p,dx,a,2,rfl,(by decide),(by decide +kernel),hp,fun H1 b1 e1=>?_⟩))
  refine (cV rfl (cV rfl ⟨p,_,dx,cV rfl ⟨e1,J.cl 2 (by decide),J.na 2 _ (by decide) (by decide +kernel),(by show 1<1000;decide),?_⟩⟩))
  refine (cV rfl (cV rfl ⟨p,_,dx,cV rfl ⟨af,J.cl 2 (by decide),J.na 2 _ (by decide) (by decide +kernel),(by show 2<1000;decide),?_⟩⟩))
  refine (cV rfl (cV rfl ⟨p,_,dx,cV rfl ⟨af,J.cl 2 (by decide),J.na 2 _ (by decide) (by decide +kernel),(by show 3<1000;decide),?_⟩⟩))
  exact k _ (((b1.trans bz.upd).trans bz.upd).trans bz.upd) af
abbrev A2:Stmt:=inClass (top 6) 0
theorem uJ:aQ ["self","at","row","place","total"] ["self","at","row","place","total"] (ak A2):=⟨rfl,rfl,rfl,by decide +kernel,rfl,by decide +kernel,by decide +kernel⟩
theorem MX {f:Addr} {fd:FuncData} {Y:Cy} {fS:Addr} {n:Nat} (F:dX K "__init__" "Put.__init__" A2 f fd) (T:Txt K mg Y.z.s) (U:dW K mg Y.z) (J:eW K mg Y fS) (iF:∃fd,bH P w K mg base dg 1 fS fd ["self","at"] (kK Y)∧Binds K fd ["self","at"] []):bH P w K mg base dg 2 f fd ["self","at","row","place","total"] (qP Y 3):=by
 obtain ⟨rj,iH,iG⟩:=iF
 refine F.ok uJ (fun vs H Q E h=>?_) (fun cdv A outer s H vs Q E hr h=>?_)
 ·obtain ⟨p,dx,a,v1,v2,v3,rfl,hp,k⟩:=h
  rfl
 ·obtain ⟨p,dx,a,v1,v2,v3,rfl,hp,k⟩:=h
  have hu:=bh hr
  rw [show av A2=[_,_,_,_] from rfl]
  refine ⟨_,(ai (fh (iR rfl J.JD J.g1 J.g2 J.g3 J.g4 J.g5 iH (hr.mono (by first | decide | omega)) iG aB (aa (pv 0) (aa (pv 1) ah))))
   (ai (ck (pv 0) (pv 2) rfl)
   (ai (ck (pv 0) (pv 3) rfl)
   (aA (ck (pv 0) (pv 4) rfl))))),?_⟩
  refine (cV rfl (cV rfl ⟨p,dx,a,3,rfl,(by decide),(by decide +kernel),hp,fun H1 b1 e1=>?_⟩))
  refine (cV rfl (cV rfl ⟨p,_,dx,cV rfl ⟨e1,J.cl 3 (by decide),J.na 3 _ (by decide) (by decide +kernel),(by show 1<1000;decide),?_⟩⟩))
  refine (cV rfl (cV rfl ⟨p,_,dx,cV rfl ⟨af,J.cl 3 (by decide),J.na 3 _ (by decide) (by decide +kernel),(by show 2<1000;decide),?_⟩⟩))
  refine (cV rfl (cV rfl ⟨p,_,dx,cV rfl ⟨af,J.cl 3 (by decide),J.na 3 _ (by decide) (by decide +kernel),(by show 3<1000;decide),?_⟩⟩))
  exact k _ (((b1.trans bz.upd).trans bz.upd).trans bz.upd) af
abbrev A4:Stmt:=inClass (top 7) 0
theorem sZ:aQ ["self","at","row","size"] ["self","at","row","size"] (ak A4):=⟨rfl,rfl,rfl,by decide +kernel,rfl,by decide +kernel,by decide +kernel⟩
theorem M5 {f:Addr} {fd:FuncData} {Y:Cy} {fS:Addr} {n:Nat} (F:dX K "__init__" "Make.__init__" A4 f fd) (T:Txt K mg Y.z.s) (U:dW K mg Y.z) (J:eW K mg Y fS) (iF:∃fd,bH P w K mg base dg 1 fS fd ["self","at"] (kK Y)∧Binds K fd ["self","at"] []):bH P w K mg base dg 2 f fd ["self","at","row","size"] (qQ Y 4):=by
 obtain ⟨rj,iH,iG⟩:=iF
 refine F.ok sZ (fun vs H Q E h=>?_) (fun cdv A outer s H vs Q E hr h=>?_)
 ·obtain ⟨p,dx,a,v1,v2,rfl,hp,k⟩:=h
  rfl
 ·obtain ⟨p,dx,a,v1,v2,rfl,hp,k⟩:=h
  have hu:=bh hr
  rw [show av A4=[_,_,_] from rfl]
  refine ⟨_,(ai (fh (iR rfl J.JD J.g1 J.g2 J.g3 J.g4 J.g5 iH (hr.mono (by first | decide | omega)) iG aB (aa (pv 0) (aa (pv 1) ah))))
   (ai (ck (pv 0) (pv 2) rfl)
   (aA (ck (pv 0) (pv 3) rfl)))),?_⟩
  refine (cV rfl (cV rfl ⟨p,dx,a,4,rfl,(by decide),(by decide +kernel),hp,fun H1 b1 e1=>?_⟩))
  refine (cV rfl (cV rfl ⟨p,_,dx,cV rfl ⟨e1,J.cl 4 (by decide),J.na 4 _ (by decide) (by decide +kernel),(by show 1<1000;decide),?_⟩⟩))
  refine (cV rfl (cV rfl ⟨p,_,dx,cV rfl ⟨af,J.cl 4 (by decide),J.na 4 _ (by decide) (by decide +kernel),(by show 2<1000;decide),?_⟩⟩))
  exact k _ ((b1.trans bz.upd).trans bz.upd) af
abbrev A9:Stmt:=inClass (top 8) 0
theorem rJ:aQ ["self","at","condition"] ["self","at","condition"] (ak A9):=⟨rfl,rfl,rfl,by decide +kernel,rfl,by decide +kernel,by decide +kernel⟩
theorem Nd {f:Addr} {fd:FuncData} {Y:Cy} {fS:Addr} {n:Nat} (F:dX K "__init__" "Claim.__init__" A9 f fd) (T:Txt K mg Y.z.s) (U:dW K mg Y.z) (J:eW K mg Y fS) (iF:∃fd,bH P w K mg base dg 1 fS fd ["self","at"] (kK Y)∧Binds K fd ["self","at"] []):bH P w K mg base dg 2 f fd ["self","at","condition"] (mE Y 5):=by
 obtain ⟨rj,iH,iG⟩:=iF
 refine F.ok rJ (fun vs H Q E h=>?_) (fun cdv A outer s H vs Q E hr h=>?_)
 ·obtain ⟨p,dx,a,v1,rfl,hp,k⟩:=h
  rfl
 ·obtain ⟨p,dx,a,v1,rfl,hp,k⟩:=h
  have hu:=bh hr
  rw [show av A9=[_,_] from rfl]
  refine ⟨_,(ai (fh (iR rfl J.JD J.g1 J.g2 J.g3 J.g4 J.g5 iH (hr.mono (by first | decide | omega)) iG aB (aa (pv 0) (aa (pv 1) ah))))
   (aA (ck (pv 0) (pv 2) rfl))),?_⟩
  refine (cV rfl (cV rfl ⟨p,dx,a,5,rfl,(by decide),(by decide +kernel),hp,fun H1 b1 e1=>?_⟩))
  refine (cV rfl (cV rfl ⟨p,_,dx,cV rfl ⟨e1,J.cl 5 (by decide),J.na 5 _ (by decide) (by decide +kernel),(by show 1<1000;decide),?_⟩⟩))
  exact k _ (b1.trans bz.upd) af
abbrev Ba:Stmt:=inClass (top 11) 0
theorem tG:aQ ["self","at","names","helper","given"] ["self","at","names","helper","given"] (ak Ba):=⟨rfl,rfl,rfl,by decide +kernel,rfl,by decide +kernel,by decide +kernel⟩
theorem Nf {f:Addr} {fd:FuncData} {Y:Cy} {fS:Addr} {n:Nat} (F:dX K "__init__" "Call.__init__" Ba f fd) (T:Txt K mg Y.z.s) (U:dW K mg Y.z) (J:eW K mg Y fS) (iF:∃fd,bH P w K mg base dg 1 fS fd ["self","at"] (kK Y)∧Binds K fd ["self","at"] []):bH P w K mg base dg 2 f fd ["self","at","names","helper","given"] (BX Y):=by
 obtain ⟨rj,iH,iG⟩:=iF
 refine F.ok tG (fun vs H Q E h=>?_) (fun cdv A outer s H vs Q E hr h=>?_)
 ·obtain ⟨p,dx,l1,l2,a,v,us,ws,rfl,hp,h1,h2,k⟩:=h
  rfl
 ·obtain ⟨p,dx,l1,l2,a,v,us,ws,rfl,hp,h1,h2,k⟩:=h
  have hu:=bh hr
  rw [show av Ba=[_,_,_,_] from rfl]
  refine ⟨_,(ai (fh (iR rfl J.JD J.g1 J.g2 J.g3 J.g4 J.g5 iH (hr.mono (by first | decide | omega)) iG aB (aa (pv 0) (aa (pv 1) ah))))
   (ai (ck (pv 0) (aU aK (by rfl) T.tuple boot_tuple (aa (pv 2) ah)) rfl)
   (ai (ck (pv 0) (pv 3) rfl)
   (aA (ck (pv 0) (aU aK (by rfl) T.tuple boot_tuple (aa (pv 4) ah)) rfl))))),?_⟩
  have Nn:l1≠p:=fun z=>by rw [z,hp] at h1;cases h1
  have Nm:l2≠p:=fun z=>by rw [z,hp] at h2;cases h2
  refine (cV rfl (cV rfl ⟨p,dx,a,6,rfl,(by decide),(by decide +kernel),hp,fun H1 b1 e1=>?_⟩))
  have hp1:H1 p=some (.ins Y.cl dx (bu "at" (.int a) [])):=e1
  refine (cV rfl ⟨l1,cV rfl (.inl ⟨bS.of (b1 _ _ h1 Nn),fun t1 ht1=>?_⟩)⟩)
  have PM:p≠t1:=aE hp1 ht1
  refine (cV rfl ⟨p,_,dx,cV rfl ⟨(new ht1 _ _ hp1),J.cl 6 (by decide),J.na 6 _ (by decide) (by decide +kernel),(by show 1<1000;decide),?_⟩⟩)
  refine (cV rfl (cV rfl ⟨p,_,dx,cV rfl ⟨af,J.cl 6 (by decide),J.na 6 _ (by decide) (by decide +kernel),(by show 2<1000;decide),?_⟩⟩))
  refine (cV rfl ⟨l2,cV rfl (.inl ⟨bS.of ((((b1.trans (bz.of (new ht1))).trans bz.upd).trans bz.upd) _ _ h2 Nm),fun t2 wU=>?_⟩)⟩)
  refine (cV rfl ⟨p,_,dx,cV rfl ⟨(new wU _ _ af),J.cl 6 (by decide),J.na 6 _ (by decide) (by decide +kernel),(by show 3<1000;decide),?_⟩⟩)
  have n2:p≠t2:=aE af wU
  exact k t1 t2 _ (((((b1.trans (bz.of (new ht1))).trans bz.upd).trans bz.upd).trans (bz.of (new wU))).trans bz.upd) af ((((bz.upd.trans bz.upd).trans (bz.of (new wU))).trans bz.upd) _ _ af PM.symm) (bz.upd _ _ af n2.symm)
abbrev Bb:Stmt:=inClass (top 9) 0
theorem pW:aQ ["self","at","condition","then","other"] ["self","at","condition","then","other"] (ak Bb):=⟨rfl,rfl,rfl,by decide +kernel,rfl,by decide +kernel,by decide +kernel⟩
theorem Ng {f:Addr} {fd:FuncData} {Y:Cy} {fS:Addr} {n:Nat} (F:dX K "__init__" "Choose.__init__" Bb f fd) (T:Txt K mg Y.z.s) (U:dW K mg Y.z) (J:eW K mg Y fS) (iF:∃fd,bH P w K mg base dg 1 fS fd ["self","at"] (kK Y)∧Binds K fd ["self","at"] []):bH P w K mg base dg 2 f fd ["self","at","condition","then","other"] (mF Y):=by
 obtain ⟨rj,iH,iG⟩:=iF
 refine F.ok pW (fun vs H Q E h=>?_) (fun cdv A outer s H vs Q E hr h=>?_)
 ·obtain ⟨p,dx,l1,l2,a,v,us,ws,rfl,hp,h1,h2,k⟩:=h
  rfl
 ·obtain ⟨p,dx,l1,l2,a,v,us,ws,rfl,hp,h1,h2,k⟩:=h
  have hu:=bh hr
  rw [show av Bb=[_,_,_,_] from rfl]
  refine ⟨_,(ai (fh (iR rfl J.JD J.g1 J.g2 J.g3 J.g4 J.g5 iH (hr.mono (by first | decide | omega)) iG aB (aa (pv 0) (aa (pv 1) ah))))
   (ai (ck (pv 0) (pv 2) rfl)
   (ai (ck (pv 0) (aU aK (by rfl) T.tuple boot_tuple (aa (pv 3) ah)) rfl)
   (aA (ck (pv 0) (aU aK (by rfl) T.tuple boot_tuple (aa (pv 4) ah)) rfl))))),?_⟩
  have Nn:l1≠p:=fun z=>by rw [z,hp] at h1;cases h1
  have Nm:l2≠p:=fun z=>by rw [z,hp] at h2;cases h2
  refine (cV rfl (cV rfl ⟨p,dx,a,7,rfl,(by decide),(by decide +kernel),hp,fun H1 b1 e1=>?_⟩))
  refine (cV rfl (cV rfl ⟨p,_,dx,cV rfl ⟨e1,J.cl 7 (by decide),J.na 7 _ (by decide) (by decide +kernel),(by show 1<1000;decide),?_⟩⟩))
  refine (cV rfl ⟨l1,cV rfl (.inl ⟨bS.of ((b1.trans bz.upd) _ _ h1 Nn),fun t1 ht1=>?_⟩)⟩)
  have PM:p≠t1:=aE af ht1
  refine (cV rfl ⟨p,_,dx,cV rfl ⟨(new ht1 _ _ af),J.cl 7 (by decide),J.na 7 _ (by decide) (by decide +kernel),(by show 2<1000;decide),?_⟩⟩)
  refine (cV rfl ⟨l2,cV rfl (.inl ⟨bS.of ((((b1.trans bz.upd).trans (bz.of (new ht1))).trans bz.upd) _ _ h2 Nm),fun t2 wU=>?_⟩)⟩)
  have n2:p≠t2:=aE af wU
  refine (cV rfl ⟨p,_,dx,cV rfl ⟨(new wU _ _ af),J.cl 7 (by decide),J.na 7 _ (by decide) (by decide +kernel),(by show 3<1000;decide),?_⟩⟩)
  exact k t1 t2 _ (((((b1.trans bz.upd).trans (bz.of (new ht1))).trans bz.upd).trans (bz.of (new wU))).trans bz.upd) af (((bz.upd.trans (bz.of (new wU))).trans bz.upd) _ _ af PM.symm) (bz.upd _ _ af n2.symm)
abbrev Bc:Stmt:=top 12
theorem xH:aQ ["pairs"] ["pairs"] (ak Bc):=⟨rfl,rfl,rfl,by decide +kernel,rfl,by decide +kernel,by decide +kernel⟩
theorem Nh {f:Addr} {fd:FuncData} {Y:Cy} {fS:Addr} {n:Nat} (F:dX K "as_pairs" "as_pairs" Bc f fd) (T:Txt K mg Y.z.s) (U:dW K mg Y.z) (J:eW K mg Y fS) :bH P w K mg base dg 1 f fd ["pairs"] BY:=by
 refine F.ok xH (fun vs H Q E h=>?_) (fun cdv A outer s H vs Q E hr h=>?_)
 ·obtain ⟨l,us,rfl,hl,hz,ht,k⟩:=h
  rfl
 ·obtain ⟨l,us,rfl,hl,hz,ht,k⟩:=h
  have hu:=bh hr
  rw [show av Bc=[_] from rfl]
  refine ⟨_,(aA (aM (aU aK (by rfl) T.tuple boot_tuple (aa (cK (br ["pair"] [] [] rfl (by decide +kernel) (by decide +kernel) (by with_unfolding_all rfl) (by exact trivial) (by rfl) rfl (by rfl)) rfl (gp (pv 0)) (fun _ _ _ _=>(aP (i:=0) (show List.Nodup (["pair"]:List Str) by decide +kernel) rfl (Or.inl rfl) (Or.inr rfl))) (fun _ _ _ _=>cy) (fun _ _ _ _=>(aU (lU (K:=K) rfl) (by rfl) T.tuple boot_tuple (aa (pv 0) ah)))) ah)))),?_⟩
  refine (cV rfl ⟨l,rfl,⟨us,bS.of hl⟩,eS (xs:=us) (fun i ys H'=>H'=H∧ys=us.take i) ⟨rfl,rfl⟩ (fun i ys H' _ q=>by rw [q.1];exact bS.of hl) ?_ ?_⟩)
  ·rintro i x ys H' hix ⟨rfl,rfl⟩
   obtain ⟨r,xs,rfl,er⟩:=ht x (List.mem_of_getElem? hix)
   refine ⟨Ext.one,gk (cV rfl ⟨r,cV rfl (.inr ⟨aW.of er,?_,rfl,?_⟩)⟩)⟩
   ·rw [List.length_take];exact line _ (by omega)
   ·rw [take_snoc hix]
  ·rintro ys H' ⟨rfl,rfl⟩ q hq
   rw [List.take_length]
   exact ⟨q,cV rfl (.inl ⟨bS.of af,fun t ht'=>k t _ (aH.new (new hq) ht') af⟩)⟩
abbrev A0:Stmt:=inClass (top 10) 0
theorem pT:aQ ["self","at","condition","keeps","falls","body"] ["self","at","condition","keeps","falls","body"] (ak A0):=⟨rfl,rfl,rfl,by decide +kernel,rfl,by decide +kernel,by decide +kernel⟩
theorem MW {f:Addr} {fd:FuncData} {Y:Cy} {fS:Addr} {n:Nat} (F:dX K "__init__" "Repeat.__init__" A0 f fd) (T:Txt K mg Y.z.s) (U:dW K mg Y.z) (J:eW K mg Y fS) (iF:∃fd,bH P w K mg base dg 1 fS fd ["self","at"] (kK Y)∧Binds K fd ["self","at"] []) (jT:Dn P w K mg base 1 "as_pairs" ["pairs"] BY):bH P w K mg base dg 2 f fd ["self","at","condition","keeps","falls","body"] (mD Y):=by
 obtain ⟨rj,iH,iG⟩:=iF
 refine F.ok pT (fun vs H Q E h=>?_) (fun cdv A outer s H vs Q E hr h=>?_)
 ·obtain ⟨p,dx,l1,l2,a,v,ff,us,ws,rfl,hp,h1,hz,ht,h2,k⟩:=h
  rfl
 ·obtain ⟨p,dx,l1,l2,a,v,ff,us,ws,rfl,hp,h1,hz,ht,h2,k⟩:=h
  have hu:=bh hr
  rw [show av A0=[_,_,_,_,_] from rfl]
  refine ⟨_,(ai (fh (iR rfl J.JD J.g1 J.g2 J.g3 J.g4 J.g5 iH (hr.mono (by first | decide | omega)) iG aB (aa (pv 0) (aa (pv 1) ah))))
   (ai (ck (pv 0) (pv 2) rfl)
   (ai (ck (pv 0) (au jT.ok (hr.mono (by first | decide | omega)) rfl jT.mm jT.kp jT.b .nil aB (aa (pv 3) ah)) rfl)
   (ai (ck (pv 0) (pv 4) rfl)
   (aA (ck (pv 0) (aU aK (by rfl) T.tuple boot_tuple (aa (pv 5) ah)) rfl)))))),?_⟩
  have Nn:l1≠p:=fun z=>by rw [z,hp] at h1;cases h1
  have Nm:l2≠p:=fun z=>by rw [z,hp] at h2;cases h2
  refine (cV rfl (cV rfl ⟨p,dx,a,8,rfl,(by decide),(by decide +kernel),hp,fun H1 b1 e1=>?_⟩))
  refine (cV rfl (cV rfl ⟨p,_,dx,cV rfl ⟨e1,J.cl 8 (by decide),J.na 8 _ (by decide) (by decide +kernel),(by show 1<1000;decide),?_⟩⟩))
  have tp:∀u∈us,∃r xs,u=V.ref r∧upd H1 p (.ins Y.rp dx (bu "condition" v (bu "at" (.int a) []))) r=some (.tup xs):=fun u hu=>by
   obtain ⟨r,xs,e,er⟩:=ht u hu
   exact ⟨r,xs,e,(b1.trans bz.upd) _ _ er (fun z=>by rw [z,hp] at er;cases er)⟩
  refine (cV rfl ⟨l1,us,rfl,(b1.trans bz.upd) _ _ h1 Nn,hz,tp,fun t1 H2 s2 OT=>?_⟩)
  have e2:H2 p=some (.ins Y.rp dx (bu "condition" v (bu "at" (.int a) []))):=s2 _ _ af
  have PM:t1≠p:=fun z=>by rw [z,e2] at OT;cases OT
  refine (cV rfl ⟨p,_,dx,cV rfl ⟨e2,J.cl 8 (by decide),J.na 8 _ (by decide) (by decide +kernel),(by show 2<1000;decide),?_⟩⟩)
  refine (cV rfl (cV rfl ⟨p,_,dx,cV rfl ⟨af,J.cl 8 (by decide),J.na 8 _ (by decide) (by decide +kernel),(by show 3<1000;decide),?_⟩⟩))
  have B2:bz p H H2:=(b1.trans bz.upd).trans (bz.of s2)
  refine (cV rfl ⟨l2,cV rfl (.inl ⟨bS.of (((B2.trans bz.upd).trans bz.upd) _ _ h2 Nm),fun t2 wU=>?_⟩)⟩)
  have n2:p≠t2:=aE af wU
  refine (cV rfl ⟨p,_,dx,cV rfl ⟨(new wU _ _ af),J.cl 8 (by decide),J.na 8 _ (by decide) (by decide +kernel),(by show 4<1000;decide),?_⟩⟩)
  exact k t1 t2 _ ((((B2.trans bz.upd).trans bz.upd).trans (bz.of (new wU))).trans bz.upd) af ((((bz.upd.trans bz.upd).trans (bz.of (new wU))).trans bz.upd) _ _ OT PM) (bz.upd _ _ af n2.symm)
abbrev rK:Stmt:=top 13
theorem jX:aQ ["parts"] ["parts"] (ak rK):=⟨rfl,rfl,rfl,by decide +kernel,rfl,by decide +kernel,by decide +kernel⟩
theorem MS {f:Addr} {fd:FuncData} {Y:Cy} {fS:Addr} {n:Nat} (F:dX K "told_each" "told_each" rK f fd) (T:Txt K mg Y.z.s) (U:dW K mg Y.z) (J:eW K mg Y fS) (bK:Mt P w K mg base 1 Y.z.s "told" ["self"] (iI Y.z.s)):bH P w K mg base dg 2 f fd ["parts"] (BS Y.z):=by
 refine F.ok jX (fun vs H Q E h=>?_) (fun cdv A outer s H vs Q E hr h=>?_)
 ·obtain ⟨t,us,l,rfl,et,hz,hp,k⟩:=h
  rfl
 ·obtain ⟨t,us,l,rfl,et,hz,hp,k⟩:=h
  have hu:=bh hr
  rw [show av rK=[_] from rfl]
  refine ⟨_,(aA (aM (aU aK (by rfl) T.tuple boot_tuple (aa (cK (br ["part"] [] [] rfl (by decide +kernel) (by decide +kernel) (by with_unfolding_all rfl) (by exact trivial) (by rfl) rfl (by rfl)) rfl (eX (pv 0)) (fun _ _ _ _=>(aP (i:=0) (show List.Nodup (["part"]:List Str) by decide +kernel) rfl (Or.inl rfl) (Or.inr rfl))) (fun _ _ _ _=>cy) (fun _ _ _ _=>(eE (pv 0) T.cl bK.me bK.ok (hr.mono (by first | decide | omega)) bK.b .nil aB))) ah)))),?_⟩
  have nJ:=aD hp
  refine (cV rfl ⟨t,rfl,⟨us,aW.of et⟩,cT (xs:=us) (fun i ys H'=>aH H H'∧Paired (pH H') ys (l.take i)) ⟨aH.refl _,.nil⟩ (fun i ys H' _ q=>aW.of (q.1 _ _ et)) ?_ ?_⟩)
  ·rintro i x ys H' hix ⟨sm,py⟩
   obtain ⟨c,fK,hx⟩:=bB hp hix
   have oU:=List.mem_of_getElem? fK
   have wR:=(List.getElem?_eq_some_iff.mp fK).1
   have mH:ys.length≤i:=by
    rw [aD py,List.length_take]
    omega
   have fin:∀(v:V) (H1:Hp),aH H' H1→pH H1 v c→(ys.length<sizeLine∧aH H H1∧Paired (pH H1) (ys++[v]) (l.take (i+1))):=fun v H1 s1 hv=>by
    refine ⟨line _ (by omega),sm.trans s1,?_⟩
    rw [take_snoc fK]
    exact bx (L2.Paired.cQ py fun _ _ z=>z.ao (ay.of s1)) hv
   obtain ⟨pp,rfl,S0⟩:=hx.ao (ay.of sm)
   obtain ⟨dx,tt,ep,_⟩:=id S0
   exact ⟨Ext.one,gk (cV rfl ⟨pp,dx,cV rfl ⟨ep,fX _ _ (by decide +kernel) (by decide +kernel),pp,c.1,c.2,rfl,S0,fun r H1 s1 D=>fin (.ref r) H1 s1 ⟨r,rfl,D⟩⟩⟩)⟩
  ·rintro ys H' ⟨sm,py⟩ q hq
   rw [nJ,List.take_length] at py
   refine ⟨q,cV rfl (.inl ⟨bS.of af,fun r hr'=>?_⟩)⟩
   have s3:aH H' (upd (upd H' q (.lst ys)) r (.tup ys)):=aH.new (new hq) hr'
   exact k r ys _ (sm.trans s3) af (L2.Paired.cQ py fun _ _ z=>z.ao (ay.of s3))
theorem Bh {f:Addr} {fd:FuncData} {Y:Cy} {fS:Addr} {n:Nat} (F:dX K "told_each" "told_each" rK f fd) (T:Txt K mg Y.z.s) (U:dW K mg Y.z) (J:eW K mg Y fS) (fk:M9 P w K mg base (2*n+6) Y "told" ["self"] (dH Y n)):bH P w K mg base dg (2*n+7) f fd ["parts"] (xD Y n):=by
 refine F.ok jX (fun vs H Q E h=>?_) (fun cdv A outer s H vs Q E hr h=>?_)
 ·obtain ⟨t,us,l,rfl,et,hz,hs,hd,ho,k⟩:=h
  rfl
 ·obtain ⟨t,us,l,rfl,et,hz,hs,hd,ho,k⟩:=h
  have hu:=bh hr
  rw [show av rK=[_] from rfl]
  refine ⟨_,(aA (aM (aU aK (by rfl) T.tuple boot_tuple (aa (cK (br ["part"] [] [] rfl (by decide +kernel) (by decide +kernel) (by with_unfolding_all rfl) (by exact trivial) (by rfl) rfl (by rfl)) rfl (eX (pv 0)) (fun _ _ _ _=>(aP (i:=0) (show List.Nodup (["part"]:List Str) by decide +kernel) rfl (Or.inl rfl) (Or.inr rfl))) (fun _ _ _ _=>cy) (fun _ _ _ _=>(wc (Y:=Y) (pv 0) J.cl lJ fk (hr.mono (by first | decide | omega)) aB))) ah)))),?_⟩
  have hp:=dF.mp hs
  have nJ:=aD hp
  refine (cV rfl ⟨t,rfl,⟨us,aW.of et⟩,cT (xs:=us) (fun i ys H'=>aH H H'∧Paired ((fun H0 u s=>fE H0 s u) H') ys (l.take i)) ⟨aH.refl _,.nil⟩ (fun i ys H' _ q=>aW.of (q.1 _ _ et)) ?_ ?_⟩)
  ·rintro i x ys H' hix ⟨sm,py⟩
   obtain ⟨c,fK,hx⟩:=bB hp hix
   have oU:=List.mem_of_getElem? fK
   have wR:=(List.getElem?_eq_some_iff.mp fK).1
   have mH:ys.length≤i:=by
    rw [aD py,List.length_take]
    omega
   have fin:∀(v:V) (H1:Hp),aH H' H1→(fun H0 u s=>fE H0 s u) H1 v c→(ys.length<sizeLine∧aH H H1∧Paired ((fun H0 u s=>fE H0 s u) H1) (ys++[v]) (l.take (i+1))):=fun v H1 s1 hv=>by
    refine ⟨line _ (by omega),sm.trans s1,?_⟩
    rw [take_snoc fK]
    exact bx (L2.Paired.cQ py fun _ _ z=>fE.ao (ay.of s1) z) hv
   have hx':=cj.ao (ay.of sm) hx
   obtain ⟨pp,rfl⟩:=xy hx
   have dd:=lT oU
   exact ⟨Ext.one,gk (cV rfl ⟨pp,c,rfl,hx',pp,c,rfl,rfl,hx',by omega,oN ho oU,fun v H1 s1 hv=>fin v H1 s1 hv⟩)⟩
  ·rintro ys H' ⟨sm,py⟩ q hq
   rw [nJ,List.take_length] at py
   refine ⟨q,cV rfl (.inl ⟨bS.of af,fun r hr'=>?_⟩)⟩
   have s3:aH H' (upd (upd H' q (.lst ys)) r (.tup ys)):=aH.new (new hq) hr'
   exact k r ys _ (sm.trans s3) af (fY.mpr (L2.Paired.cQ py fun _ _ z=>fE.ao (ay.of s3) z))
theorem MT {f:Addr} {fd:FuncData} {Y:Cy} {fS:Addr} {n:Nat} (F:dX K "told_each" "told_each" rK f fd) (T:Txt K mg Y.z.s) (U:dW K mg Y.z) (J:eW K mg Y fS) (kC:Mt P w K mg base 15 Y.hp "told" ["self"] (rX Y)):bH P w K mg base dg 16 f fd ["parts"] (EJ Y):=by
 refine F.ok jX (fun vs H Q E h=>?_) (fun cdv A outer s H vs Q E hr h=>?_)
 ·obtain ⟨t,us,l,rfl,et,hz,hp,ho,k⟩:=h
  rfl
 ·obtain ⟨t,us,l,rfl,et,hz,hp,ho,k⟩:=h
  have hu:=bh hr
  rw [show av rK=[_] from rfl]
  refine ⟨_,(aA (aM (aU aK (by rfl) T.tuple boot_tuple (aa (cK (br ["part"] [] [] rfl (by decide +kernel) (by decide +kernel) (by with_unfolding_all rfl) (by exact trivial) (by rfl) rfl (by rfl)) rfl (eX (pv 0)) (fun _ _ _ _=>(aP (i:=0) (show List.Nodup (["part"]:List Str) by decide +kernel) rfl (Or.inl rfl) (Or.inr rfl))) (fun _ _ _ _=>cy) (fun _ _ _ _=>(eE (pv 0) J.ch kC.me kC.ok (hr.mono (by first | decide | omega)) kC.b .nil aB))) ah)))),?_⟩
  have nJ:=aD hp
  refine (cV rfl ⟨t,rfl,⟨us,aW.of et⟩,cT (xs:=us) (fun i ys H'=>aH H H'∧Paired ((fun H0 u h=>nU H0 h u) H') ys (l.take i)) ⟨aH.refl _,.nil⟩ (fun i ys H' _ q=>aW.of (q.1 _ _ et)) ?_ ?_⟩)
  ·rintro i x ys H' hix ⟨sm,py⟩
   obtain ⟨c,fK,hx⟩:=bB hp hix
   have oU:=List.mem_of_getElem? fK
   have wR:=(List.getElem?_eq_some_iff.mp fK).1
   have mH:ys.length≤i:=by
    rw [aD py,List.length_take]
    omega
   have fin:∀(v:V) (H1:Hp),aH H' H1→(fun H0 u h=>nU H0 h u) H1 v c→(ys.length<sizeLine∧aH H H1∧Paired ((fun H0 u h=>nU H0 h u) H1) (ys++[v]) (l.take (i+1))):=fun v H1 s1 hv=>by
    refine ⟨line _ (by omega),sm.trans s1,?_⟩
    rw [take_snoc fK]
    exact bx (L2.Paired.cQ py fun _ _ z=>nU.ao (ay.of s1) z) hv
   have hx':=qJ.ao (ay.of sm) hx
   obtain ⟨pp,dx,t1,t2,v1,v2,t3,VE,rfl,ep,_⟩:=id hx'
   exact ⟨Ext.one,gk (cV rfl ⟨pp,dx,cV rfl ⟨ep,(by unfold wX;exact iE (by decide +kernel) (iE (by decide +kernel) (iE (by decide +kernel) (iE (by decide +kernel) (iE (by decide +kernel) (iE (by decide +kernel) (iE (by decide +kernel) (rfl)))))))),pp,c,rfl,hx',ho c oU,fun v H1 s1 hv=>fin v H1 s1 hv⟩⟩)⟩
  ·rintro ys H' ⟨sm,py⟩ q hq
   rw [nJ,List.take_length] at py
   refine ⟨q,cV rfl (.inl ⟨bS.of af,fun r hr'=>?_⟩)⟩
   have s3:aH H' (upd (upd H' q (.lst ys)) r (.tup ys)):=aH.new (new hq) hr'
   exact k r ys _ (sm.trans s3) af (L2.Paired.cQ py fun _ _ z=>nU.ao (ay.of s3) z)
abbrev AY:Stmt:=top 14
theorem uH:aQ ["pairs"] ["pairs"] (ak AY):=⟨rfl,rfl,rfl,by decide +kernel,rfl,by decide +kernel,by decide +kernel⟩
theorem MR {f:Addr} {fd:FuncData} {Y:Cy} {fS:Addr} {n:Nat} (F:dX K "told_pairs" "told_pairs" AY f fd) (T:Txt K mg Y.z.s) (U:dW K mg Y.z) (J:eW K mg Y fS) (bM:M4 P w K mg base 4 Y.z "told" ["self"] (cZ Y.z 3)):bH P w K mg base dg 5 f fd ["pairs"] (xC Y.z):=by
 refine F.ok uH (fun vs H Q E h=>?_) (fun cdv A outer s H vs Q E hr h=>?_)
 ·obtain ⟨v,hs,rfl,hP,hd,k⟩:=h
  rfl
 ·obtain ⟨v,hs,rfl,hP,hd,k⟩:=h
  have hu:=bh hr
  rw [show av AY=[_] from rfl]
  refine ⟨_,(aA (aM (aU aK (by rfl) T.tuple boot_tuple (aa (cK (br ["at","condition"] [] [] rfl (by decide +kernel) (by decide +kernel) (by with_unfolding_all rfl) (by exact trivial) (by rfl) rfl (by rfl)) rfl (eX (pv 0)) (fun _ _ _ _=>(oH (K:=K) (n:=2) rfl rfl (bZ (aP (i:=0) (show List.Nodup (["at","condition"]:List Str) by decide +kernel) rfl (Or.inl rfl) (Or.inr rfl)) (bZ (aP (i:=1) (show List.Nodup (["at","condition"]:List Str) by decide +kernel) rfl (Or.inl rfl) (Or.inr rfl)) iz)))) (fun _ _ _ _=>cy) (fun _ _ _ _=>(aS (aa (pv 0) (aa (gG (Z:=Y.z) (pv 1) U.cl fQ bM (hr.mono (by first | decide | omega)) aB) ah))))) ah)))),?_⟩
  obtain ⟨t,us,rfl,et,hz,hp⟩:=hP
  have nJ:=aD hp
  refine (cV rfl ⟨t,rfl,⟨us,aW.of et⟩,cT (xs:=us) (fun i ys H'=>aH H H'∧Paired (fun u (q:Int×Cd)=>∃r w,u=V.ref r∧H' r=some (.tup [.int q.1,w])∧bg H' q.2 w) ys (hs.take i)) ⟨aH.refl _,.nil⟩ (fun i ys H' _ q=>aW.of (q.1 _ _ et)) ?_ ?_⟩)
  ·rintro i x ys H' hix ⟨sm,py⟩
   obtain ⟨c,fK,r,w,rfl,er,hc⟩:=bB hp hix
   have oU:=List.mem_of_getElem? fK
   have wR:=(List.getElem?_eq_some_iff.mp fK).1
   have mH:ys.length≤i:=by
    rw [aD py,List.length_take]
    omega
   have hc':=hc.ao (ay.of sm)
   obtain ⟨pu,rfl⟩:=eU hc
   refine ⟨r,cV rfl ⟨aW.of (sm _ _ er),rfl,_,cV rfl ⟨_,cV rfl ⟨rfl,Ext.two,gk (cV rfl (cV rfl ⟨pu,c.2,rfl,hc',pu,c.2,rfl,rfl,hc',hd c oU,fun v H1 s1 d=>⟨(szl 2),fun q hq=>⟨line _ (by omega),(sm.trans s1).trans (new hq),?_⟩⟩⟩))⟩⟩⟩⟩
   rw [take_snoc fK]
   exact bx (L2.Paired.cQ py fun _ _ ⟨r',w',e,e',d'⟩=>⟨r',w',e,new hq _ _ (s1 _ _ e'),(d'.ao (ay.of s1)).ao (ay.of (new hq))⟩) ⟨q,v,rfl,af,d.ao (ay.of (new hq))⟩
  ·rintro ys H' ⟨sm,py⟩ q hq
   rw [nJ,List.take_length] at py
   refine ⟨q,cV rfl (.inl ⟨bS.of af,fun r hr'=>?_⟩)⟩
   have s3:aH H' (upd (upd H' q (.lst ys)) r (.tup ys)):=aH.new (new hq) hr'
   exact k (.ref r) _ (sm.trans s3) ⟨r,ys,rfl,af,L2.Paired.cQ py fun _ _ ⟨r',w',e,e',d'⟩=>⟨r',w',e,s3 _ _ e',d'.ao (ay.of s3)⟩⟩
abbrev kX:Stmt:=inClass (top 3) 1
theorem xM:aQ ["self"] ["self"] (ak kX):=⟨rfl,rfl,rfl,by decide +kernel,rfl,by decide +kernel,by decide +kernel⟩
theorem GU {f:Addr} {fd:FuncData} {Y:Cy} {fS:Addr} {n:Nat} (F:dX K "told" "Let.told" kX f fd) (T:Txt K mg Y.z.s) (U:dW K mg Y.z) (J:eW K mg Y fS) (bK:Mt P w K mg base 1 Y.z.s "told" ["self"] (iI Y.z.s)):bH P w K mg base dg (2*n+8) f fd ["self"] (dH Y (n+1) 0):=by
 refine F.ok xM (fun vs H Q E h=>?_) (fun cdv A outer s H vs Q E hr h=>?_)
 ·obtain ⟨p,s,rfl,sj,hs,hd,ho,k⟩:=h
  rfl
 ·obtain ⟨p,s,rfl,sj,hs,hd,ho,k⟩:=h
  have hu:=bh hr
  rw [show av kX=[_] from rfl]
  refine ⟨_,(aA (aM (aS (aa bf (aa (aG (pv 0) rfl) (aa (aG (pv 0) rfl) (aa (eE (aG (pv 0) rfl) T.cl bK.me bK.ok (hr.mono (by first | decide | omega)) bK.b .nil aB) ah))))))),?_⟩
  cases s with
  | jD at_ c t e=>exact absurd sj (by show ¬(7=0);decide)
  | rep at_ c hs f b=>exact absurd sj (by show ¬(8=0);decide)
  | flat kk at_ as =>
  have sj:kk=0:=sj
  subst sj
  unfold cj at hs
  obtain ⟨q,dx,us,e,sh,ep,pp⟩:=hs
  cases e
  obtain ⟨x0,a1,m1,rfl⟩:=sh
  cases pp with
  | cons h0 pp =>
   cases pp with
   | cons h1 pp =>
   cases pp
   unfold cO.ok at ho
   have hok:=ho.2
   have h0:_=V.str x0:=h0
   subst h0
   obtain ⟨r1,rfl,S1⟩:=h1
   obtain ⟨d1,uF,es1,_⟩:=id S1
   refine (cV rfl (cF ep (J.cl 0 (by decide)) (J.na 0 _ (by decide) (by decide +kernel)) (cu (by decide +kernel) (cu (by decide +kernel) (dG))) ?_))
   refine (cV rfl (cF ep (J.cl 0 (by decide)) (J.na 0 _ (by decide) (by decide +kernel)) (cu (by decide +kernel) (dG)) ?_))
   refine (cV rfl (cF ep (J.cl 0 (by decide)) (J.na 0 _ (by decide) (by decide +kernel)) dG ⟨r1,d1,cV rfl ⟨es1,fX _ _ (by decide +kernel) (by decide +kernel),r1,a1,m1,rfl,S1,fun v1 H1 s1 D1=>?_⟩⟩))
   refine ⟨(szl 4),fun r hr'=>k (.ref r) _ (s1.trans (new hr')) ?_⟩
   unfold fE
   exact ⟨r,cV rfl ⟨af,(.cons (rfl) (.cons (⟨v1,rfl,D1.same (new hr')⟩) .nil))⟩⟩
abbrev lD:Stmt:=inClass (top 4) 1
theorem tE:aQ ["self"] ["self"] (ak lD):=⟨rfl,rfl,rfl,by decide +kernel,rfl,by decide +kernel,by decide +kernel⟩
theorem GZ {f:Addr} {fd:FuncData} {Y:Cy} {fS:Addr} {n:Nat} (F:dX K "told" "Divide.told" lD f fd) (T:Txt K mg Y.z.s) (U:dW K mg Y.z) (J:eW K mg Y fS) (bK:Mt P w K mg base 1 Y.z.s "told" ["self"] (iI Y.z.s)):bH P w K mg base dg (2*n+8) f fd ["self"] (dH Y (n+1) 1):=by
 refine F.ok tE (fun vs H Q E h=>?_) (fun cdv A outer s H vs Q E hr h=>?_)
 ·obtain ⟨p,s,rfl,sj,hs,hd,ho,k⟩:=h
  rfl
 ·obtain ⟨p,s,rfl,sj,hs,hd,ho,k⟩:=h
  have hu:=bh hr
  rw [show av lD=[_] from rfl]
  refine ⟨_,(aA (aM (aS (aa bf (aa (aG (pv 0) rfl) (aa (aG (pv 0) rfl) (aa (aG (pv 0) rfl) (aa (eE (aG (pv 0) rfl) T.cl bK.me bK.ok (hr.mono (by first | decide | omega)) bK.b .nil aB) (aa (eE (aG (pv 0) rfl) T.cl bK.me bK.ok (hr.mono (by first | decide | omega)) bK.b .nil aB) ah))))))))),?_⟩
  cases s with
  | jD at_ c t e=>exact absurd sj (by show ¬(7=1);decide)
  | rep at_ c hs f b=>exact absurd sj (by show ¬(8=1);decide)
  | flat kk at_ as =>
  have sj:kk=1:=sj
  subst sj
  unfold cj at hs
  obtain ⟨q,dx,us,e,sh,ep,pp⟩:=hs
  cases e
  obtain ⟨x0,x1,a2,m2,a3,m3,rfl⟩:=sh
  cases pp with
  | cons h0 pp =>
   cases pp with
   | cons h1 pp =>
    cases pp with
    | cons h2 pp =>
     cases pp with
     | cons h3 pp =>
     cases pp
     unfold cO.ok at ho
     have hok:=ho.2
     have h0:_=V.str x0:=h0
     subst h0
     have h1:_=V.str x1:=h1
     subst h1
     obtain ⟨r2,rfl,S2⟩:=h2
     obtain ⟨d2,rS,yJ,_⟩:=id S2
     obtain ⟨r3,rfl,S3⟩:=h3
     obtain ⟨d3,Ms,Q2,_⟩:=id S3
     refine (cV rfl (cF ep (J.cl 1 (by decide)) (J.na 1 _ (by decide) (by decide +kernel)) (cu (by decide +kernel) (cu (by decide +kernel) (cu (by decide +kernel) (cu (by decide +kernel) (dG))))) ?_))
     refine (cV rfl (cF ep (J.cl 1 (by decide)) (J.na 1 _ (by decide) (by decide +kernel)) (cu (by decide +kernel) (cu (by decide +kernel) (cu (by decide +kernel) (dG)))) ?_))
     refine (cV rfl (cF ep (J.cl 1 (by decide)) (J.na 1 _ (by decide) (by decide +kernel)) (cu (by decide +kernel) (cu (by decide +kernel) (dG))) ?_))
     refine (cV rfl (cF ep (J.cl 1 (by decide)) (J.na 1 _ (by decide) (by decide +kernel)) (cu (by decide +kernel) (dG)) ⟨r2,d2,cV rfl ⟨yJ,fX _ _ (by decide +kernel) (by decide +kernel),r2,a2,m2,rfl,S2,fun v2 H1 s1 D2=>?_⟩⟩))
     refine (cV rfl (cF (s1 _ _ ep) (J.cl 1 (by decide)) (J.na 1 _ (by decide) (by decide +kernel)) dG ⟨r3,d3,cV rfl ⟨(s1 _ _ Q2),fX _ _ (by decide +kernel) (by decide +kernel),r3,a3,m3,rfl,S3.same s1,fun v3 H2 s2 D3=>?_⟩⟩))
     refine ⟨(szl 6),fun r hr'=>k (.ref r) _ ((s1.trans s2).trans (new hr')) ?_⟩
     unfold fE
     exact ⟨r,cV rfl ⟨af,(.cons (rfl) (.cons (rfl) (.cons (⟨v2,rfl,D2.same ((s2).trans (new hr'))⟩) (.cons (⟨v3,rfl,D3.same (new hr')⟩) .nil))))⟩⟩
abbrev lA:Stmt:=inClass (top 5) 1
theorem uM:aQ ["self"] ["self"] (ak lA):=⟨rfl,rfl,rfl,by decide +kernel,rfl,by decide +kernel,by decide +kernel⟩
theorem GW {f:Addr} {fd:FuncData} {Y:Cy} {fS:Addr} {n:Nat} (F:dX K "told" "Fetch.told" lA f fd) (T:Txt K mg Y.z.s) (U:dW K mg Y.z) (J:eW K mg Y fS) (bK:Mt P w K mg base 1 Y.z.s "told" ["self"] (iI Y.z.s)):bH P w K mg base dg (2*n+8) f fd ["self"] (dH Y (n+1) 2):=by
 refine F.ok uM (fun vs H Q E h=>?_) (fun cdv A outer s H vs Q E hr h=>?_)
 ·obtain ⟨p,s,rfl,sj,hs,hd,ho,k⟩:=h
  rfl
 ·obtain ⟨p,s,rfl,sj,hs,hd,ho,k⟩:=h
  have hu:=bh hr
  rw [show av lA=[_] from rfl]
  refine ⟨_,(aA (aM (aS (aa bf (aa (aG (pv 0) rfl) (aa (aG (pv 0) rfl) (aa (aG (pv 0) rfl) (aa (eE (aG (pv 0) rfl) T.cl bK.me bK.ok (hr.mono (by first | decide | omega)) bK.b .nil aB) ah)))))))),?_⟩
  cases s with
  | jD at_ c t e=>exact absurd sj (by show ¬(7=2);decide)
  | rep at_ c hs f b=>exact absurd sj (by show ¬(8=2);decide)
  | flat kk at_ as =>
  have sj:kk=2:=sj
  subst sj
  unfold cj at hs
  obtain ⟨q,dx,us,e,sh,ep,pp⟩:=hs
  cases e
  obtain ⟨x0,x1,a2,m2,rfl⟩:=sh
  cases pp with
  | cons h0 pp =>
   cases pp with
   | cons h1 pp =>
    cases pp with
    | cons h2 pp =>
    cases pp
    unfold cO.ok at ho
    have hok:=ho.2
    have h0:_=V.str x0:=h0
    subst h0
    have h1:_=V.str x1:=h1
    subst h1
    obtain ⟨r2,rfl,S2⟩:=h2
    obtain ⟨d2,rS,yJ,_⟩:=id S2
    refine (cV rfl (cF ep (J.cl 2 (by decide)) (J.na 2 _ (by decide) (by decide +kernel)) (cu (by decide +kernel) (cu (by decide +kernel) (cu (by decide +kernel) (dG)))) ?_))
    refine (cV rfl (cF ep (J.cl 2 (by decide)) (J.na 2 _ (by decide) (by decide +kernel)) (cu (by decide +kernel) (cu (by decide +kernel) (dG))) ?_))
    refine (cV rfl (cF ep (J.cl 2 (by decide)) (J.na 2 _ (by decide) (by decide +kernel)) (cu (by decide +kernel) (dG)) ?_))
    refine (cV rfl (cF ep (J.cl 2 (by decide)) (J.na 2 _ (by decide) (by decide +kernel)) dG ⟨r2,d2,cV rfl ⟨yJ,fX _ _ (by decide +kernel) (by decide +kernel),r2,a2,m2,rfl,S2,fun v2 H1 s1 D2=>?_⟩⟩))
    refine ⟨(szl 5),fun r hr'=>k (.ref r) _ (s1.trans (new hr')) ?_⟩
    unfold fE
    exact ⟨r,cV rfl ⟨af,(.cons (rfl) (.cons (rfl) (.cons (⟨v2,rfl,D2.same (new hr')⟩) .nil)))⟩⟩
abbrev kQ:Stmt:=inClass (top 6) 1
theorem xK:aQ ["self"] ["self"] (ak kQ):=⟨rfl,rfl,rfl,by decide +kernel,rfl,by decide +kernel,by decide +kernel⟩
theorem GJ {f:Addr} {fd:FuncData} {Y:Cy} {fS:Addr} {n:Nat} (F:dX K "told" "Put.told" kQ f fd) (T:Txt K mg Y.z.s) (U:dW K mg Y.z) (J:eW K mg Y fS) (bK:Mt P w K mg base 1 Y.z.s "told" ["self"] (iI Y.z.s)):bH P w K mg base dg (2*n+8) f fd ["self"] (dH Y (n+1) 3):=by
 refine F.ok xK (fun vs H Q E h=>?_) (fun cdv A outer s H vs Q E hr h=>?_)
 ·obtain ⟨p,s,rfl,sj,hs,hd,ho,k⟩:=h
  rfl
 ·obtain ⟨p,s,rfl,sj,hs,hd,ho,k⟩:=h
  have hu:=bh hr
  rw [show av kQ=[_] from rfl]
  refine ⟨_,(aA (aM (aS (aa bf (aa (aG (pv 0) rfl) (aa (aG (pv 0) rfl) (aa (eE (aG (pv 0) rfl) T.cl bK.me bK.ok (hr.mono (by first | decide | omega)) bK.b .nil aB) (aa (eE (aG (pv 0) rfl) T.cl bK.me bK.ok (hr.mono (by first | decide | omega)) bK.b .nil aB) ah)))))))),?_⟩
  cases s with
  | jD at_ c t e=>exact absurd sj (by show ¬(7=3);decide)
  | rep at_ c hs f b=>exact absurd sj (by show ¬(8=3);decide)
  | flat kk at_ as =>
  have sj:kk=3:=sj
  subst sj
  unfold cj at hs
  obtain ⟨q,dx,us,e,sh,ep,pp⟩:=hs
  cases e
  obtain ⟨x0,a1,m1,a2,m2,rfl⟩:=sh
  cases pp with
  | cons h0 pp =>
   cases pp with
   | cons h1 pp =>
    cases pp with
    | cons h2 pp =>
    cases pp
    unfold cO.ok at ho
    have hok:=ho.2
    have h0:_=V.str x0:=h0
    subst h0
    obtain ⟨r1,rfl,S1⟩:=h1
    obtain ⟨d1,uF,es1,_⟩:=id S1
    obtain ⟨r2,rfl,S2⟩:=h2
    obtain ⟨d2,rS,yJ,_⟩:=id S2
    refine (cV rfl (cF ep (J.cl 3 (by decide)) (J.na 3 _ (by decide) (by decide +kernel)) (cu (by decide +kernel) (cu (by decide +kernel) (cu (by decide +kernel) (dG)))) ?_))
    refine (cV rfl (cF ep (J.cl 3 (by decide)) (J.na 3 _ (by decide) (by decide +kernel)) (cu (by decide +kernel) (cu (by decide +kernel) (dG))) ?_))
    refine (cV rfl (cF ep (J.cl 3 (by decide)) (J.na 3 _ (by decide) (by decide +kernel)) (cu (by decide +kernel) (dG)) ⟨r1,d1,cV rfl ⟨es1,fX _ _ (by decide +kernel) (by decide +kernel),r1,a1,m1,rfl,S1,fun v1 H1 s1 D1=>?_⟩⟩))
    refine (cV rfl (cF (s1 _ _ ep) (J.cl 3 (by decide)) (J.na 3 _ (by decide) (by decide +kernel)) dG ⟨r2,d2,cV rfl ⟨(s1 _ _ yJ),fX _ _ (by decide +kernel) (by decide +kernel),r2,a2,m2,rfl,S2.same s1,fun v2 H2 s2 D2=>?_⟩⟩))
    refine ⟨(szl 5),fun r hr'=>k (.ref r) _ ((s1.trans s2).trans (new hr')) ?_⟩
    unfold fE
    exact ⟨r,cV rfl ⟨af,(.cons (rfl) (.cons (⟨v1,rfl,D1.same ((s2).trans (new hr'))⟩) (.cons (⟨v2,rfl,D2.same (new hr')⟩) .nil)))⟩⟩
abbrev kW:Stmt:=inClass (top 7) 1
theorem vZ:aQ ["self"] ["self"] (ak kW):=⟨rfl,rfl,rfl,by decide +kernel,rfl,by decide +kernel,by decide +kernel⟩
theorem GR {f:Addr} {fd:FuncData} {Y:Cy} {fS:Addr} {n:Nat} (F:dX K "told" "Make.told" kW f fd) (T:Txt K mg Y.z.s) (U:dW K mg Y.z) (J:eW K mg Y fS) (bK:Mt P w K mg base 1 Y.z.s "told" ["self"] (iI Y.z.s)):bH P w K mg base dg (2*n+8) f fd ["self"] (dH Y (n+1) 4):=by
 refine F.ok vZ (fun vs H Q E h=>?_) (fun cdv A outer s H vs Q E hr h=>?_)
 ·obtain ⟨p,s,rfl,sj,hs,hd,ho,k⟩:=h
  rfl
 ·obtain ⟨p,s,rfl,sj,hs,hd,ho,k⟩:=h
  have hu:=bh hr
  rw [show av kW=[_] from rfl]
  refine ⟨_,(aA (aM (aS (aa bf (aa (aG (pv 0) rfl) (aa (aG (pv 0) rfl) (aa (eE (aG (pv 0) rfl) T.cl bK.me bK.ok (hr.mono (by first | decide | omega)) bK.b .nil aB) ah))))))),?_⟩
  cases s with
  | jD at_ c t e=>exact absurd sj (by show ¬(7=4);decide)
  | rep at_ c hs f b=>exact absurd sj (by show ¬(8=4);decide)
  | flat kk at_ as =>
  have sj:kk=4:=sj
  subst sj
  unfold cj at hs
  obtain ⟨q,dx,us,e,sh,ep,pp⟩:=hs
  cases e
  obtain ⟨x0,a1,m1,rfl⟩:=sh
  cases pp with
  | cons h0 pp =>
   cases pp with
   | cons h1 pp =>
   cases pp
   unfold cO.ok at ho
   have hok:=ho.2
   have h0:_=V.str x0:=h0
   subst h0
   obtain ⟨r1,rfl,S1⟩:=h1
   obtain ⟨d1,uF,es1,_⟩:=id S1
   refine (cV rfl (cF ep (J.cl 4 (by decide)) (J.na 4 _ (by decide) (by decide +kernel)) (cu (by decide +kernel) (cu (by decide +kernel) (dG))) ?_))
   refine (cV rfl (cF ep (J.cl 4 (by decide)) (J.na 4 _ (by decide) (by decide +kernel)) (cu (by decide +kernel) (dG)) ?_))
   refine (cV rfl (cF ep (J.cl 4 (by decide)) (J.na 4 _ (by decide) (by decide +kernel)) dG ⟨r1,d1,cV rfl ⟨es1,fX _ _ (by decide +kernel) (by decide +kernel),r1,a1,m1,rfl,S1,fun v1 H1 s1 D1=>?_⟩⟩))
   refine ⟨(szl 4),fun r hr'=>k (.ref r) _ (s1.trans (new hr')) ?_⟩
   unfold fE
   exact ⟨r,cV rfl ⟨af,(.cons (rfl) (.cons (⟨v1,rfl,D1.same (new hr')⟩) .nil))⟩⟩
abbrev ju:Stmt:=inClass (top 8) 1
theorem uP:aQ ["self"] ["self"] (ak ju):=⟨rfl,rfl,rfl,by decide +kernel,rfl,by decide +kernel,by decide +kernel⟩
theorem C8 {f:Addr} {fd:FuncData} {Y:Cy} {fS:Addr} {n:Nat} (F:dX K "told" "Claim.told" ju f fd) (T:Txt K mg Y.z.s) (U:dW K mg Y.z) (J:eW K mg Y fS) (bM:M4 P w K mg base 4 Y.z "told" ["self"] (cZ Y.z 3)):bH P w K mg base dg (2*n+8) f fd ["self"] (dH Y (n+1) 5):=by
 refine F.ok uP (fun vs H Q E h=>?_) (fun cdv A outer s H vs Q E hr h=>?_)
 ·obtain ⟨p,s,rfl,sj,hs,hd,ho,k⟩:=h
  rfl
 ·obtain ⟨p,s,rfl,sj,hs,hd,ho,k⟩:=h
  have hu:=bh hr
  rw [show av ju=[_] from rfl]
  refine ⟨_,(aA (aM (aS (aa bf (aa (aG (pv 0) rfl) (aa (gG (Z:=Y.z) (aG (pv 0) rfl) U.cl fQ bM (hr.mono (by first | decide | omega)) aB) ah)))))),?_⟩
  cases s with
  | jD at_ c t e=>exact absurd sj (by show ¬(7=5);decide)
  | rep at_ c hs f b=>exact absurd sj (by show ¬(8=5);decide)
  | flat kk at_ as =>
  have sj:kk=5:=sj
  subst sj
  unfold cj at hs
  obtain ⟨q,dx,us,e,sh,ep,pp⟩:=hs
  cases e
  obtain ⟨c0,rfl⟩:=sh
  cases pp with
  | cons h0 pp =>
  cases pp
  unfold cO.ok at ho
  have hok:=ho.2
  obtain ⟨p0,rfl⟩:=eU h0
  have h0:cJ Y.z H c0 (.ref p0):=h0
  have hd0:c0.dep≤3:=(hok (.cd c0) (List.mem_cons_self ..)).2
  refine (cV rfl (cF ep (J.cl 5 (by decide)) (J.na 5 _ (by decide) (by decide +kernel)) (cu (by decide +kernel) (dG)) ?_))
  refine (cV rfl (cF ep (J.cl 5 (by decide)) (J.na 5 _ (by decide) (by decide +kernel)) dG ⟨p0,c0,rfl,h0,p0,c0,rfl,rfl,h0,hd0,fun v0 H1 s1 D0=>?_⟩))
  refine ⟨(szl 3),fun r hr'=>k (.ref r) _ (s1.trans (new hr')) ?_⟩
  unfold fE
  exact ⟨r,cV rfl ⟨af,(.cons (D0.ao (ay.of (new hr'))) .nil)⟩⟩
abbrev jv:Stmt:=inClass (top 11) 1
theorem v5:aQ ["self"] ["self"] (ak jv):=⟨rfl,rfl,rfl,by decide +kernel,rfl,by decide +kernel,by decide +kernel⟩
theorem C9 {f:Addr} {fd:FuncData} {Y:Cy} {fS:Addr} {n:Nat} (F:dX K "told" "Call.told" jv f fd) (T:Txt K mg Y.z.s) (U:dW K mg Y.z) (J:eW K mg Y fS) (vC:Dn P w K mg base 2 "told_each" ["parts"] (BS Y.z)):bH P w K mg base dg (2*n+8) f fd ["self"] (dH Y (n+1) 6):=by
 refine F.ok v5 (fun vs H Q E h=>?_) (fun cdv A outer s H vs Q E hr h=>?_)
 ·obtain ⟨p,s,rfl,sj,hs,hd,ho,k⟩:=h
  rfl
 ·obtain ⟨p,s,rfl,sj,hs,hd,ho,k⟩:=h
  have hu:=bh hr
  rw [show av jv=[_] from rfl]
  refine ⟨_,(aA (aM (aS (aa bf (aa (aG (pv 0) rfl) (aa (aG (pv 0) rfl) (aa (aG (pv 0) rfl) (aa (au vC.ok (hr.mono (by first | decide | omega)) rfl vC.mm vC.kp vC.b .nil aB (aa (aG (pv 0) rfl) ah)) ah)))))))),?_⟩
  cases s with
  | jD at_ c t e=>exact absurd sj (by show ¬(7=6);decide)
  | rep at_ c hs f b=>exact absurd sj (by show ¬(8=6);decide)
  | flat kk at_ as =>
  have sj:kk=6:=sj
  subst sj
  unfold cj at hs
  obtain ⟨q,dx,us,e,sh,ep,pp⟩:=hs
  cases e
  obtain ⟨l0,x1,q2,rfl⟩:=sh
  cases pp with
  | cons h0 pp =>
   cases pp with
   | cons h1 pp =>
    cases pp with
    | cons h2 pp =>
    cases pp
    unfold cO.ok at ho
    have hok:=ho.2
    obtain ⟨r0,rfl,Q0⟩:=h0
    have h1:_=V.str x1:=h1
    subst h1
    obtain ⟨r2,Lk,rfl,JK,lz2,ML⟩:=h2
    refine (cV rfl (cF ep (J.cl 6 (by decide)) (J.na 6 _ (by decide) (by decide +kernel)) (cu (by decide +kernel) (cu (by decide +kernel) (cu (by decide +kernel) (dG)))) ?_))
    refine (cV rfl (cF ep (J.cl 6 (by decide)) (J.na 6 _ (by decide) (by decide +kernel)) (cu (by decide +kernel) (cu (by decide +kernel) (dG))) ?_))
    refine (cV rfl (cF ep (J.cl 6 (by decide)) (J.na 6 _ (by decide) (by decide +kernel)) (cu (by decide +kernel) (dG)) ?_))
    refine (cV rfl (cF ep (J.cl 6 (by decide)) (J.na 6 _ (by decide) (by decide +kernel)) dG ⟨r2,Lk,q2,rfl,JK,lz2,ML,fun v2 us2 H1 s1 KC D2=>?_⟩))
    refine ⟨(szl 5),fun r hr'=>k (.ref r) _ (s1.trans (new hr')) ?_⟩
    unfold fE
    exact ⟨r,cV rfl ⟨af,(.cons (⟨r0,rfl,(s1.trans (new hr')) _ _ Q0⟩) (.cons (rfl) (.cons (⟨v2,us2,rfl,(new hr') _ _ KC,L2.Paired.cQ D2 fun _ _ z=>z.ao (ay.of (new hr'))⟩) .nil)))⟩⟩
abbrev jw:Stmt:=inClass (top 9) 1
theorem tF:aQ ["self"] ["self"] (ak jw):=⟨rfl,rfl,rfl,by decide +kernel,rfl,by decide +kernel,by decide +kernel⟩
theorem Dd {f:Addr} {fd:FuncData} {Y:Cy} {fS:Addr} {n:Nat} (F:dX K "told" "Choose.told" jw f fd) (T:Txt K mg Y.z.s) (U:dW K mg Y.z) (J:eW K mg Y fS) (bM:M4 P w K mg base 4 Y.z "told" ["self"] (cZ Y.z 3)) (gW:Dn P w K mg base (2*n+7) "told_each" ["parts"] (xD Y n)):bH P w K mg base dg (2*n+8) f fd ["self"] (dH Y (n+1) 7):=by
 refine F.ok tF (fun vs H Q E h=>?_) (fun cdv A outer s H vs Q E hr h=>?_)
 ·obtain ⟨p,s,rfl,sj,hs,hd,ho,k⟩:=h
  rfl
 ·obtain ⟨p,s,rfl,sj,hs,hd,ho,k⟩:=h
  have hu:=bh hr
  rw [show av jw=[_] from rfl]
  refine ⟨_,(aA (aM (aS (aa bf (aa (aG (pv 0) rfl) (aa (gG (Z:=Y.z) (aG (pv 0) rfl) U.cl fQ bM (hr.mono (by first | decide | omega)) aB) (aa (au gW.ok (hr.mono (by first | decide | omega)) rfl gW.mm gW.kp gW.b .nil aB (aa (aG (pv 0) rfl) ah)) (aa (au gW.ok (hr.mono (by first | decide | omega)) rfl gW.mm gW.kp gW.b .nil aB (aa (aG (pv 0) rfl) ah)) ah)))))))),?_⟩
  cases s with
  | flat kk at_ as =>
   have sj:kk=7:=sj
   subst sj
   unfold cj at hs
   obtain ⟨_,_,_,_,sh,_⟩:=hs
   exact sh.elim
  | rep at_ c hs f b=>exact absurd sj (by show ¬(8=7);decide)
  | jD at_ c t e =>
  unfold cj at hs
  obtain ⟨q,dx,uc,t1,t2,us,ws,e0,ep,hc,e1,l1,h1,e2,l2,h2⟩:=hs
  cases e0
  obtain ⟨pc,rfl⟩:=eU hc
  unfold cO.ok at ho
  unfold cO.dep at hd
  refine (cV rfl (cF ep (J.cl 7 (by decide)) (J.na 7 _ (by decide) (by decide +kernel)) (cu (by decide +kernel) (cu (by decide +kernel) (cu (by decide +kernel) (dG)))) ?_))
  refine (cV rfl (cF ep (J.cl 7 (by decide)) (J.na 7 _ (by decide) (by decide +kernel)) (cu (by decide +kernel) (cu (by decide +kernel) (dG))) ⟨pc,c,rfl,hc,pc,c,rfl,rfl,hc,ho.1.2,fun v1 H1 s1 D1=>?_⟩))
  refine (cV rfl (cF (s1 _ _ ep) (J.cl 7 (by decide)) (J.na 7 _ (by decide) (by decide +kernel)) (cu (by decide +kernel) (dG)) ⟨t1,us,t,rfl,s1 _ _ e1,l1,h1.ao (ay.of s1),by omega,ho.2.2.2.1,fun r1 xr H2 s2 E1 P1=>?_⟩))
  refine (cV rfl (cF ((s1.trans s2) _ _ ep) (J.cl 7 (by decide)) (J.na 7 _ (by decide) (by decide +kernel)) dG ⟨t2,ws,e,rfl,(s1.trans s2) _ _ e2,l2,h2.ao (ay.of (s1.trans s2)),by omega,ho.2.2.2.2,fun r2 pN H3 s3 E2 P2=>?_⟩))
  refine ⟨(szl 5),fun r hr'=>k (.ref r) _ (((s1.trans s2).trans s3).trans (new hr')) ?_⟩
  unfold fE
  exact ⟨r,v1,r1,r2,xr,pN,rfl,af,D1.ao (ay.of ((s2.trans s3).trans (new hr'))),(s3.trans (new hr')) _ _ E1,P1.ao (ay.of (s3.trans (new hr'))),new hr' _ _ E2,P2.ao (ay.of (new hr'))⟩
abbrev jr:Stmt:=inClass (top 10) 1
theorem iY:aQ ["self","falls"] ["self"] (ak jr):=⟨rfl,rfl,rfl,by decide +kernel,rfl,by decide +kernel,by decide +kernel⟩
theorem C4 {f:Addr} {fd:FuncData} {Y:Cy} {fS:Addr} {n:Nat} (F:dX K "told" "Repeat.told" jr f fd) (T:Txt K mg Y.z.s) (U:dW K mg Y.z) (J:eW K mg Y fS) (bM:M4 P w K mg base 4 Y.z "told" ["self"] (cZ Y.z 3)) (bK:Mt P w K mg base 1 Y.z.s "told" ["self"] (iI Y.z.s)) (jh:Dn P w K mg base 5 "told_pairs" ["pairs"] (xC Y.z)) (gW:Dn P w K mg base (2*n+7) "told_each" ["parts"] (xD Y n)):bH P w K mg base dg (2*n+8) f fd ["self"] (dH Y (n+1) 8):=by
 refine F.ok iY (fun vs H Q E h=>?_) (fun cdv A outer s H vs Q E hr h=>?_)
 ·obtain ⟨p,s,rfl,sj,hs,hd,ho,k⟩:=h
  rfl
 ·obtain ⟨p,s,rfl,sj,hs,hd,ho,k⟩:=h
  have hu:=bh hr
  rw [show av jr=[_,_,_] from rfl]
  refine ⟨_,(ai (aT (i:=1) iY.nd rfl (Or.inl rfl) gZ)
   (ai (cH (aN oK (aG (pv 0) rfl) gZ (aR _)) (aA (aT (i:=1) iY.nd rfl (Or.inl rfl) (aS (aa (aJ aI (aG (pv 0) rfl) aj (fun _ _=>rfl)) (aa (eE (aJ aI (aG (pv 0) rfl) aj (fun _ _=>rfl)) T.cl bK.me bK.ok (hr.mono (by first | decide | omega)) bK.b .nil aB) ah))))) bw)
   (aA (aM (aS (aa bf (aa (aG (pv 0) rfl) (aa (gG (Z:=Y.z) (aG (pv 0) rfl) U.cl fQ bM (hr.mono (by first | decide | omega)) aB) (aa (au jh.ok (hr.mono (by first | decide | omega)) rfl jh.mm jh.kp jh.b .nil aB (aa (aG (pv 0) rfl) ah)) (aa (pv 1) (aa (au gW.ok (hr.mono (by first | decide | omega)) rfl gW.mm gW.kp gW.b .nil aB (aa (aG (pv 0) rfl) ah)) ah))))))))))),?_⟩
  cases s with
  | flat kk at_ as =>
   have sj:kk=8:=sj
   subst sj
   unfold cj at hs
   obtain ⟨_,_,_,_,sh,_⟩:=hs
   exact sh.elim
  | jD at_ c t e=>exact absurd sj (by show ¬(7=8);decide)
  | rep at_ c hh ff b =>
  unfold cj at hs
  obtain ⟨q,dx,uc,uh,uf,t2,ws,e0,ep,hc,hP,hF,e2,l2,h2⟩:=hs
  cases e0
  obtain ⟨pc,rfl⟩:=eU hc
  unfold cO.ok at ho
  unfold cO.dep at hd
  cases ff with
  | none =>
   have hF:uf=V.dM:=hF
   subst hF
   refine (cV rfl (cF ep (J.cl 8 (by decide)) (J.na 8 _ (by decide) (by decide +kernel)) (cu (by decide +kernel) (dG)) ⟨rfl,cV rfl (jz rfl ?_)⟩))
   refine (cV rfl (cF ep (J.cl 8 (by decide)) (J.na 8 _ (by decide) (by decide +kernel)) (cu (by decide +kernel) (cu (by decide +kernel) (cu (by decide +kernel) (cu (by decide +kernel) (dG))))) ?_))
   refine (cV rfl (cF ep (J.cl 8 (by decide)) (J.na 8 _ (by decide) (by decide +kernel)) (cu (by decide +kernel) (cu (by decide +kernel) (cu (by decide +kernel) (dG)))) ⟨pc,c,rfl,hc,pc,c,rfl,rfl,hc,ho.1.2,fun v1 H1 s1 D1=>?_⟩))
   refine (cV rfl (cF (s1 _ _ ep) (J.cl 8 (by decide)) (J.na 8 _ (by decide) (by decide +kernel)) (cu (by decide +kernel) (cu (by decide +kernel) (dG))) ⟨uh,hh,rfl,hP.ao (ay.of s1),(fun q hq=>(ho.2.2.1 q hq).2),fun v2 H2 s2 D2=>?_⟩))
   refine (cV rfl ?_)
   refine (cV rfl (cF ((s1.trans s2) _ _ ep) (J.cl 8 (by decide)) (J.na 8 _ (by decide) (by decide +kernel)) dG ⟨t2,ws,b,rfl,(s1.trans s2) _ _ e2,l2,h2.ao (ay.of (s1.trans s2)),by omega,ho.2.2.2.2.2,fun r2 pN H3 s3 E2 P2=>?_⟩))
   refine ⟨(szl 6),fun r hr'=>k (.ref r) _ (((s1.trans s2).trans s3).trans (new hr')) ?_⟩
   unfold fE
   exact ⟨r,v1,v2,.dM,r2,pN,rfl,af,D1.ao (ay.of ((s2.trans s3).trans (new hr'))),D2.ao (ay.of (s3.trans (new hr'))),rfl,new hr' _ _ E2,P2.ao (ay.of (new hr'))⟩
  | some q =>
   obtain ⟨rf,df,rfl,KA,Sf⟩:=hF
   obtain ⟨dd,tt,es,_⟩:=id Sf
   refine (cV rfl (cF ep (J.cl 8 (by decide)) (J.na 8 _ (by decide) (by decide +kernel)) (cu (by decide +kernel) (dG)) ⟨rfl,cV rfl (lQ (fun z=>by cases z) ?_)⟩))
   refine (cV rfl (cF ep (J.cl 8 (by decide)) (J.na 8 _ (by decide) (by decide +kernel)) (cu (by decide +kernel) (dG)) (cI (aW.of KA) rfl ?_)))
   refine (cV rfl (cF ep (J.cl 8 (by decide)) (J.na 8 _ (by decide) (by decide +kernel)) (cu (by decide +kernel) (dG)) (cI (aW.of KA) rfl ⟨df,dd,cV rfl ⟨es,fX _ _ (by decide +kernel) (by decide +kernel),df,q.2.1,q.2.2,rfl,Sf,fun rv H0 s0 D0=>?_⟩⟩)))
   refine ⟨(szl 2),fun rq hrq=>?_⟩
   have sq:=s0.trans (new (o:=.tup [.int q.1,.ref rv]) hrq)
   refine (cV rfl (cF (sq _ _ ep) (J.cl 8 (by decide)) (J.na 8 _ (by decide) (by decide +kernel)) (cu (by decide +kernel) (cu (by decide +kernel) (cu (by decide +kernel) (cu (by decide +kernel) (dG))))) ?_))
   refine (cV rfl (cF (sq _ _ ep) (J.cl 8 (by decide)) (J.na 8 _ (by decide) (by decide +kernel)) (cu (by decide +kernel) (cu (by decide +kernel) (cu (by decide +kernel) (dG)))) ⟨pc,c,rfl,hc.ao (ay.of sq),pc,c,rfl,rfl,hc.ao (ay.of sq),ho.1.2,fun v1 H1 s1 D1=>?_⟩))
   refine (cV rfl (cF ((sq.trans s1) _ _ ep) (J.cl 8 (by decide)) (J.na 8 _ (by decide) (by decide +kernel)) (cu (by decide +kernel) (cu (by decide +kernel) (dG))) ⟨uh,hh,rfl,hP.ao (ay.of (sq.trans s1)),(fun q hq=>(ho.2.2.1 q hq).2),fun v2 H2 s2 D2=>?_⟩))
   refine (cV rfl ?_)
   refine (cV rfl (cF (((sq.trans s1).trans s2) _ _ ep) (J.cl 8 (by decide)) (J.na 8 _ (by decide) (by decide +kernel)) dG ⟨t2,ws,b,rfl,((sq.trans s1).trans s2) _ _ e2,l2,h2.ao (ay.of ((sq.trans s1).trans s2)),by omega,ho.2.2.2.2.2,fun r2 pN H3 s3 E2 P2=>?_⟩))
   refine ⟨(szl 6),fun r hr'=>k (.ref r) _ ((((sq.trans s1).trans s2).trans s3).trans (new hr')) ?_⟩
   unfold fE
   exact ⟨r,v1,v2,(.ref rq),r2,pN,rfl,af,D1.ao (ay.of ((s2.trans s3).trans (new hr'))),D2.ao (ay.of (s3.trans (new hr'))),⟨rq,rv,rfl,(((s1.trans s2).trans s3).trans (new hr')) _ _ af,(D0.same (new hrq)).same (((s1.trans s2).trans s3).trans (new hr'))⟩,new hr' _ _ E2,P2.ao (ay.of (new hr'))⟩
abbrev A6:Stmt:=inClass (top 16) 0
theorem pU:aQ ["self","at","name","params","answers","needs","gives","steps"] ["self","at","name","params","answers","needs","gives","steps"] (ak A6):=⟨rfl,rfl,rfl,by decide +kernel,rfl,by decide +kernel,by decide +kernel⟩
theorem M8 {f:Addr} {fd:FuncData} {Y:Cy} {fS:Addr} {n:Nat} (F:dX K "__init__" "Helper.__init__" A6 f fd) (T:Txt K mg Y.z.s) (U:dW K mg Y.z) (J:eW K mg Y fS) (jT:Dn P w K mg base 1 "as_pairs" ["pairs"] BY):bH P w K mg base dg 2 f fd ["self","at","name","params","answers","needs","gives","steps"] (EL Y):=by
 refine F.ok pU (fun vs H Q E h=>?_) (fun cdv A outer s H vs Q E hr h=>?_)
 ·obtain ⟨p,dx,l1,l2,l3,l4,l5,h,ns,gs,ws,rfl,hp,h1,h2,h3,z3,p3,h4,z4,p4,h5,k⟩:=h
  rfl
 ·obtain ⟨p,dx,l1,l2,l3,l4,l5,h,ns,gs,ws,rfl,hp,h1,h2,h3,z3,p3,h4,z4,p4,h5,k⟩:=h
  have hu:=bh hr
  rw [show av A6=[_,_,_,_,_,_,_] from rfl]
  refine ⟨_,(ai (ck (pv 0) (pv 1) rfl)
   (ai (ck (pv 0) (pv 2) rfl)
   (ai (ck (pv 0) (aU aK (by rfl) T.tuple boot_tuple (aa (pv 3) ah)) rfl)
   (ai (ck (pv 0) (aU aK (by rfl) T.tuple boot_tuple (aa (pv 4) ah)) rfl)
   (ai (ck (pv 0) (au jT.ok (hr.mono (by first | decide | omega)) rfl jT.mm jT.kp jT.b .nil aB (aa (pv 5) ah)) rfl)
   (ai (ck (pv 0) (au jT.ok (hr.mono (by first | decide | omega)) rfl jT.mm jT.kp jT.b .nil aB (aa (pv 6) ah)) rfl)
   (aA (ck (pv 0) (aU aK (by rfl) T.tuple boot_tuple (aa (pv 7) ah)) rfl)))))))),?_⟩
  have Nn:l1≠p:=fun z=>by rw [z,hp] at h1;cases h1
  have Nm:l2≠p:=fun z=>by rw [z,hp] at h2;cases h2
  have nl3:l3≠p:=fun z=>by rw [z,hp] at h3;cases h3
  have nl4:l4≠p:=fun z=>by rw [z,hp] at h4;cases h4
  have nl5:l5≠p:=fun z=>by rw [z,hp] at h5;cases h5
  refine (cV rfl (cV rfl ⟨p,_,dx,cV rfl ⟨hp,J.ch,J.nh _ (by decide +kernel),(by show 0<1000;decide),?_⟩⟩))
  refine (cV rfl (cV rfl ⟨p,_,dx,cV rfl ⟨af,J.ch,J.nh _ (by decide +kernel),(by show 1<1000;decide),?_⟩⟩))
  have B0:bz p H (upd (upd H p (.ins Y.hp dx (bu "at" (.int h.at_) []))) p (.ins Y.hp dx (bu "name" (.str h.nm) (bu "at" (.int h.at_) [])))):=bz.upd.trans bz.upd
  have E0':upd (upd H p (.ins Y.hp dx (bu "at" (.int h.at_) []))) p (.ins Y.hp dx (bu "name" (.str h.nm) (bu "at" (.int h.at_) []))) p=some (.ins Y.hp dx (bu "name" (.str h.nm) (bu "at" (.int h.at_) []))):=af
  generalize upd (upd H p (.ins Y.hp dx (bu "at" (.int h.at_) []))) p (.ins Y.hp dx (bu "name" (.str h.nm) (bu "at" (.int h.at_) [])))=H0 at B0 E0' ⊢
  refine (cV rfl ⟨l1,cV rfl (.inl ⟨bS.of (B0 _ _ h1 Nn),fun t1 ht1=>?_⟩)⟩)
  have n1:p≠t1:=aE E0' ht1
  refine (cV rfl ⟨p,_,dx,cV rfl ⟨(new ht1 _ _ E0'),J.ch,J.nh _ (by decide +kernel),(by show 2<1000;decide),?_⟩⟩)
  have B1:=(B0.trans (bz.of (new (o:=.tup (h.ps.map V.str)) ht1))).trans (bz.upd (d:=p) (o:=.ins Y.hp dx (bu "params" (.ref t1) (bu "name" (.str h.nm) (bu "at" (.int h.at_) [])))))
  have E1:upd (upd H0 t1 (.tup (h.ps.map V.str))) p (.ins Y.hp dx (bu "params" (.ref t1) (bu "name" (.str h.nm) (bu "at" (.int h.at_) [])))) p=_:=af
  have OT:upd (upd H0 t1 (.tup (h.ps.map V.str))) p (.ins Y.hp dx (bu "params" (.ref t1) (bu "name" (.str h.nm) (bu "at" (.int h.at_) [])))) t1=some (.tup (h.ps.map V.str)):=by rw [aY n1.symm];exact af
  generalize upd (upd H0 t1 (.tup (h.ps.map V.str))) p (.ins Y.hp dx (bu "params" (.ref t1) (bu "name" (.str h.nm) (bu "at" (.int h.at_) []))))=H1 at B1 E1 OT ⊢
  refine (cV rfl ⟨l2,cV rfl (.inl ⟨bS.of (B1 _ _ h2 Nm),fun t2 wU=>?_⟩)⟩)
  have n2:p≠t2:=aE E1 wU
  refine (cV rfl ⟨p,_,dx,cV rfl ⟨(new wU _ _ E1),J.ch,J.nh _ (by decide +kernel),(by show 3<1000;decide),?_⟩⟩)
  have B2:=(B1.trans (bz.of (new (o:=.tup (h.an.map V.str)) wU))).trans (bz.upd (d:=p) (o:=.ins Y.hp dx (bu "answers" (.ref t2) (bu "params" (.ref t1) (bu "name" (.str h.nm) (bu "at" (.int h.at_) []))))))
  have E2:upd (upd H1 t2 (.tup (h.an.map V.str))) p (.ins Y.hp dx (bu "answers" (.ref t2) (bu "params" (.ref t1) (bu "name" (.str h.nm) (bu "at" (.int h.at_) []))))) p=_:=af
  have JK:upd (upd H1 t2 (.tup (h.an.map V.str))) p (.ins Y.hp dx (bu "answers" (.ref t2) (bu "params" (.ref t1) (bu "name" (.str h.nm) (bu "at" (.int h.at_) []))))) t2=some (.tup (h.an.map V.str)):=by rw [aY n2.symm];exact af
  have QZ:=((bz.of (new (o:=.tup (h.an.map V.str)) wU)).trans (bz.upd (d:=p) (o:=.ins Y.hp dx (bu "answers" (.ref t2) (bu "params" (.ref t1) (bu "name" (.str h.nm) (bu "at" (.int h.at_) []))))))) _ _ OT n1.symm
  generalize upd (upd H1 t2 (.tup (h.an.map V.str))) p (.ins Y.hp dx (bu "answers" (.ref t2) (bu "params" (.ref t1) (bu "name" (.str h.nm) (bu "at" (.int h.at_) [])))))=H2 at B2 E2 JK QZ ⊢
  have tp:∀(H':Hp),bz p H H'→∀(zs:List V),(∀u∈zs,∃r xs,u=V.ref r∧H r=some (.tup xs))→∀u∈zs,∃r xs,u=V.ref r∧H' r=some (.tup xs):=fun H' b zs hz u hu=>by
   obtain ⟨r,xs,e,er⟩:=hz u hu
   exact ⟨r,xs,e,b _ _ er (fun z=>by rw [z,hp] at er;cases er)⟩
  refine (cV rfl ⟨l3,ns,rfl,B2 _ _ h3 nl3,z3,tp _ B2 _ p3,fun t3 H3 s3 et3=>?_⟩)
  have E3:=s3 _ _ E2
  have n3:t3≠p:=fun z=>by rw [z,E3] at et3;cases et3
  refine (cV rfl ⟨p,_,dx,cV rfl ⟨E3,J.ch,J.nh _ (by decide +kernel),(by show 4<1000;decide),?_⟩⟩)
  have B3:=(B2.trans (bz.of s3)).trans (bz.upd (d:=p) (o:=.ins Y.hp dx (bu "needs" (.ref t3) (bu "answers" (.ref t2) (bu "params" (.ref t1) (bu "name" (.str h.nm) (bu "at" (.int h.at_) [])))))))
  refine (cV rfl ⟨l4,gs,rfl,B3 _ _ h4 nl4,z4,tp _ B3 _ p4,fun t4 H4 s4 et4=>?_⟩)
  have E4:H4 p=some (.ins Y.hp dx (bu "needs" (.ref t3) (bu "answers" (.ref t2) (bu "params" (.ref t1) (bu "name" (.str h.nm) (bu "at" (.int h.at_) [])))))):=s4 _ _ af
  have n4:t4≠p:=fun z=>by rw [z,E4] at et4;cases et4
  refine (cV rfl ⟨p,_,dx,cV rfl ⟨E4,J.ch,J.nh _ (by decide +kernel),(by show 5<1000;decide),?_⟩⟩)
  refine (cV rfl ⟨l5,cV rfl (.inl ⟨bS.of (((B3.trans (bz.of s4)).trans bz.upd) _ _ h5 nl5),fun t5 Kr=>?_⟩)⟩)
  have n5:p≠t5:=aE af Kr
  refine (cV rfl ⟨p,_,dx,cV rfl ⟨(new Kr _ _ af),J.ch,J.nh _ (by decide +kernel),(by show 6<1000;decide),?_⟩⟩)
  exact k t1 t2 t3 t4 t5 _ ((((B3.trans (bz.of s4)).trans bz.upd).trans (bz.of (new Kr))).trans bz.upd) af ((((((bz.of s3).trans bz.upd).trans (bz.of s4)).trans bz.upd).trans (bz.of (new Kr))).trans bz.upd _ _ QZ n1.symm) ((((((bz.of s3).trans bz.upd).trans (bz.of s4)).trans bz.upd).trans (bz.of (new Kr))).trans bz.upd _ _ JK n2.symm) (((((bz.upd.trans (bz.of s4)).trans bz.upd).trans (bz.of (new Kr))).trans bz.upd) _ _ et3 n3) (((bz.upd.trans (bz.of (new Kr))).trans bz.upd) _ _ et4 n4) (bz.upd _ _ af n5.symm)
abbrev A3:Stmt:=inClass (top 17) 0
theorem ow:aQ ["self","helpers"] ["self","helpers"] (ak A3):=⟨rfl,rfl,rfl,by decide +kernel,rfl,by decide +kernel,by decide +kernel⟩
theorem M1 {f:Addr} {fd:FuncData} {Y:Cy} {fS:Addr} {n:Nat} (F:dX K "__init__" "Program.__init__" A3 f fd) (T:Txt K mg Y.z.s) (U:dW K mg Y.z) (J:eW K mg Y fS) :bH P w K mg base dg 1 f fd ["self","helpers"] (qN Y):=by
 refine F.ok ow (fun vs H Q E h=>?_) (fun cdv A outer s H vs Q E hr h=>?_)
 ·obtain ⟨p,dx,l,us,rfl,hp,hl,k⟩:=h
  rfl
 ·obtain ⟨p,dx,l,us,rfl,hp,hl,k⟩:=h
  have hu:=bh hr
  rw [show av A3=[_] from rfl]
  refine ⟨_,(aA (ck (pv 0) (aU aK (by rfl) T.tuple boot_tuple (aa (pv 1) ah)) rfl)),?_⟩
  refine (cV rfl ⟨l,cV rfl (.inl ⟨bS.of hl,fun t ht=>?_⟩)⟩)
  have Hj:p≠t:=aE hp ht
  refine (cV rfl ⟨p,_,dx,cV rfl ⟨(new ht _ _ hp),J.cp,J.np,(by show 0<1000;decide),?_⟩⟩)
  exact k t _ ((bz.of (new ht)).trans bz.upd) af (by rw [aY Hj.symm];exact af)
abbrev mX:Stmt:=inClass (top 16) 1
theorem tD:aQ ["self"] ["self"] (ak mX):=⟨rfl,rfl,rfl,by decide +kernel,rfl,by decide +kernel,by decide +kernel⟩
theorem GV {f:Addr} {fd:FuncData} {Y:Cy} {fS:Addr} {n:Nat} (F:dX K "told" "Helper.told" mX f fd) (T:Txt K mg Y.z.s) (U:dW K mg Y.z) (J:eW K mg Y fS) (jh:Dn P w K mg base 5 "told_pairs" ["pairs"] (xC Y.z)) (gW:Dn P w K mg base 13 "told_each" ["parts"] (xD Y 3)):bH P w K mg base dg 15 f fd ["self"] (rX Y):=by
 refine F.ok tD (fun vs H Q E h=>?_) (fun cdv A outer s H vs Q E hr h=>?_)
 ·obtain ⟨p,h,rfl,hh,ho,k⟩:=h
  rfl
 ·obtain ⟨p,h,rfl,hh,ho,k⟩:=h
  have hu:=bh hr
  rw [show av mX=[_] from rfl]
  refine ⟨_,(aA (aM (aS (aa bf (aa (aG (pv 0) rfl) (aa (aG (pv 0) rfl) (aa (aG (pv 0) rfl) (aa (aG (pv 0) rfl) (aa (au jh.ok (hr.mono (by first | decide | omega)) rfl jh.mm jh.kp jh.b .nil aB (aa (aG (pv 0) rfl) ah)) (aa (au jh.ok (hr.mono (by first | decide | omega)) rfl jh.mm jh.kp jh.b .nil aB (aa (aG (pv 0) rfl) ah)) (aa (au gW.ok (hr.mono (by first | decide | omega)) rfl gW.mm gW.kp gW.b .nil aB (aa (aG (pv 0) rfl) ah)) ah))))))))))),?_⟩
  obtain ⟨q,dx,t1,t2,v1,v2,t3,us,e0,ep,e1,e2,h1,h2,e3,l3,h3⟩:=hh
  cases e0
  refine (cV rfl (cF ep J.ch (J.nh _ (by decide +kernel)) (by unfold wX;exact cu (by decide +kernel) (cu (by decide +kernel) (cu (by decide +kernel) (cu (by decide +kernel) (cu (by decide +kernel) (cu (by decide +kernel) (dG))))))) ?_))
  refine (cV rfl (cF ep J.ch (J.nh _ (by decide +kernel)) (by unfold wX;exact cu (by decide +kernel) (cu (by decide +kernel) (cu (by decide +kernel) (cu (by decide +kernel) (cu (by decide +kernel) (dG)))))) ?_))
  refine (cV rfl (cF ep J.ch (J.nh _ (by decide +kernel)) (by unfold wX;exact cu (by decide +kernel) (cu (by decide +kernel) (cu (by decide +kernel) (cu (by decide +kernel) (dG))))) ?_))
  refine (cV rfl (cF ep J.ch (J.nh _ (by decide +kernel)) (by unfold wX;exact cu (by decide +kernel) (cu (by decide +kernel) (cu (by decide +kernel) (dG)))) ?_))
  refine (cV rfl (cF ep J.ch (J.nh _ (by decide +kernel)) (by unfold wX;exact cu (by decide +kernel) (cu (by decide +kernel) (dG))) ⟨v1,h.nd,rfl,h1,(fun q hq=>(ho.nd q hq).2),fun w1 H1 s1 D1=>?_⟩))
  refine (cV rfl (cF (s1 _ _ ep) J.ch (J.nh _ (by decide +kernel)) (by unfold wX;exact cu (by decide +kernel) (dG)) ⟨v2,h.gv,rfl,h2.ao (ay.of s1),(fun q hq=>(ho.gv q hq).2),fun w2 H2 s2 D2=>?_⟩))
  refine (cV rfl (cF ((s1.trans s2) _ _ ep) J.ch (J.nh _ (by decide +kernel)) (by unfold wX;exact dG) ⟨t3,us,h.st,rfl,(s1.trans s2) _ _ e3,l3,h3.ao (ay.of (s1.trans s2)),ho.dp,ho.st,fun r3 Th H3 s3 E3 P3=>?_⟩))
  refine ⟨(szl 8),fun r hr'=>k (.ref r) _ (((s1.trans s2).trans s3).trans (new hr')) ?_⟩
  have sA:=((s1.trans s2).trans s3).trans (new (o:=.tup [.str "helper",.int h.at_,.str h.nm,.ref t1,.ref t2,w1,w2,.ref r3]) hr')
  exact ⟨r,t1,t2,w1,w2,r3,Th,rfl,af,sA _ _ e1,sA _ _ e2,D1.ao (ay.of ((s2.trans s3).trans (new hr'))),D2.ao (ay.of (s3.trans (new hr'))),new hr' _ _ E3,P3.ao (ay.of (new hr'))⟩
abbrev jZ:Stmt:=inClass (top 17) 2
theorem rF:aQ ["self"] ["self"] (ak jZ):=⟨rfl,rfl,rfl,by decide +kernel,rfl,by decide +kernel,by decide +kernel⟩
theorem C5 {f:Addr} {fd:FuncData} {Y:Cy} {fS:Addr} {n:Nat} (F:dX K "told" "Program.told" jZ f fd) (T:Txt K mg Y.z.s) (U:dW K mg Y.z) (J:eW K mg Y fS) (CM:Dn P w K mg base 16 "told_each" ["parts"] (EJ Y)):bH P w K mg base dg 17 f fd ["self"] (jl Y):=by
 refine F.ok rF (fun vs H Q E h=>?_) (fun cdv A outer s H vs Q E hr h=>?_)
 ·obtain ⟨p,us,l,rfl,hP,ho,k⟩:=h
  rfl
 ·obtain ⟨p,us,l,rfl,hP,ho,k⟩:=h
  have hu:=bh hr
  rw [show av jZ=[_] from rfl]
  refine ⟨_,(aA (aM (au CM.ok (hr.mono (by first | decide | omega)) rfl CM.mm CM.kp CM.b .nil aB (aa (aG (pv 0) rfl) ah)))),?_⟩
  obtain ⟨dx,t,ep,et,hz,hp⟩:=hP
  exact (cV rfl (cF ep J.cp J.np dG ⟨t,us,l,rfl,et,hz,hp,ho,fun r ws H' sm er pw=>k r ws H' sm er pw⟩))
abbrev mU:Stmt:=inClass (top 17) 1
theorem jM:aQ ["self","name","helper"] ["self","name"] (ak mU):=⟨rfl,rfl,rfl,by decide +kernel,rfl,by decide +kernel,by decide +kernel⟩
theorem GQ {f:Addr} {fd:FuncData} {Y:Cy} {fS:Addr} {n:Nat} (F:dX K "named" "Program.named" mU f fd) (T:Txt K mg Y.z.s) (U:dW K mg Y.z) (J:eW K mg Y fS) :bH P w K mg base dg 1 f fd ["self","name"] (jm Y):=by
 refine F.ok jM (fun vs H Q E h=>?_) (fun cdv A outer s H vs Q E hr h=>?_)
 ·obtain ⟨p,x,us,l,rfl,hP,k⟩:=h
  rfl
 ·obtain ⟨p,x,us,l,rfl,hP,k⟩:=h
  have hu:=bh hr
  rw [show av mU=[_,_] from rfl]
  refine ⟨_,(ai (kc PassesOwn.never rfl (eX (aG (pv 0) rfl)) (aP (i:=2) jM.nd rfl (Or.inl rfl)) (aA (cH (aN cS (aG (pv 2) rfl) (pv 1) (aR _)) (aA (aM (pv 2))) bw)))
   (aA (aM gZ))),?_⟩
  obtain ⟨dx,t,ep,et,hz,hp⟩:=hP
  have nJ:=aD hp
  refine (cV rfl (cF ep J.cp J.np dG ⟨t,rfl,⟨us,aW.of et⟩,wW (xs:=us) (fun i σ H'=>∃k2:Option V,σ=[some (.ref p),some (.str x),k2]∧H'=H∧jA x us l=jA x (us.drop i) (l.drop i)) ⟨none,rfl,rfl,rfl⟩ ?_ ?_ ?_⟩))
  ·rintro i σ H' _ ⟨k2,rfl,rfl,_⟩
   exact aW.of et
  ·rintro i u σ H' hi ⟨k2,rfl,rfl,hf⟩
   obtain ⟨h,hhi,hx⟩:=bB hp hi
   obtain ⟨pp,dx',t1,t2,v1,v2,t3,VE,rfl,Q5,_⟩:=id hx
   have e1:us.drop i=.ref pp::us.drop (i+1):=by
    obtain ⟨hlt,e⟩:=List.getElem?_eq_some_iff.mp hi
    rw [List.drop_eq_getElem_cons hlt,e]
   have e2:l.drop i=h::l.drop (i+1):=by
    obtain ⟨hlt,e⟩:=List.getElem?_eq_some_iff.mp hhi
    rw [List.drop_eq_getElem_cons hlt,e]
   rw [e1,e2] at hf
   refine (cV rfl (cF Q5 J.ch (J.nh _ (by decide +kernel)) (by unfold wX;exact cu (by decide +kernel) (cu (by decide +kernel) (cu (by decide +kernel) (cu (by decide +kernel) (cu (by decide +kernel) (dG)))))) (cV rfl ⟨rfl,cV rfl ?_⟩)))
   by_cases hn:h.nm=x
   ·refine cW (congrArg V.str hn) (cV rfl ?_)
    have e:jA x us l=.ref pp:=by rw [hf];unfold jA;rw [if_pos hn]
    have kk:=k H' (aH.refl _)
    rw [e] at kk
    exact kk
   ·refine bC (fun z=>hn (V.str.inj z)) (cV rfl ⟨rfl,?_⟩)
    rw [hf]
    conv=>lhs;unfold jA
    rw [if_neg hn]
  ·rintro σ H' ⟨k2,rfl,rfl,hf⟩
   rw [List.drop_length,show l.drop us.length=[] by rw [nJ,List.drop_length]] at hf
   have kk:=k H' (aH.refl _)
   rw [hf] at kk
   exact kk
abbrev mS:Stmt:=top 20
theorem lY:aQ ["pairs","number","weights","thing","weight"] ["pairs","number"] (ak mS):=⟨rfl,rfl,rfl,by decide +kernel,rfl,by decide +kernel,by decide +kernel⟩
theorem C3 {f C:Addr} {fd:FuncData} (F:dX K "sum_of" "sum_of" mS f fd) (T:Txt K mg C) (d_init:Mr P w K mg base 1 C ["self","terms","number"] (AW C)):bH P w K mg base dg 3 f fd ["pairs","number"] (vP C):=by
 refine F.ok lY (fun vs H Q E h=>?_) (fun cdv A outer s H vs Q E hr h=>?_)
 ·obtain ⟨a,n,ps,rfl,hs,hz,k⟩:=h
  rfl
 ·obtain ⟨a,n,ps,rfl,hs,hz,k⟩:=h
  have hu:=bh hr
  rw [show av mS=[_,_,_] from rfl]
  refine ⟨_,(ai (aT (i:=2) lY.nd rfl (Or.inr rfl) xQ)
   (ai (kc PassesOwn.never rfl (FP (pv 0)) (pZ rfl (bZ (aP (i:=3) lY.nd rfl (Or.inl rfl)) (bZ (aP (i:=4) lY.nd rfl (Or.inl rfl)) iz))) (aA (Cg hu (pv 2) (pv 3) (bN gx (Gr hu (pv 2) (pv 3) aj ⟨rfl,rfl,rfl,rfl⟩) (pv 4)) rfl)))
   (aA (aM (Ci d_init.me d_init.ok (hr.mono (by first | decide | omega)) rfl T.Nr d_init.b .nil aB (di (cK (br ["thing"] ["weights"] [2] rfl (by decide +kernel) (by decide +kernel) (by with_unfolding_all rfl) (by exact ⟨rfl,trivial⟩) (by rfl) rfl (by rfl)) rfl (gp (xR (pF rfl) (by rfl) T.sorted boot_sorted (di (pv 2) ah))) (fun _ _ _ _=>(aP (i:=0) (show List.Nodup (["thing","weights"]:List Str) by decide +kernel) rfl (Or.inl rfl) (Or.inr rfl))) (fun _ _ _ _=>(oE (aN Ck (wg hu (pv 1) (pv 0) (fun _ _=>rfl)) aj (aR _)))) (fun _ _ _ _=>(aS (di (pv 0) (di (wg hu (pv 1) (pv 0) (fun _ _=>rfl)) ah))))) (di (pv 1) ah))))))),?_⟩
  intro d hd
  have lz:=line ps.length (by omega)
  refine (cV rfl ⟨a,rfl,N3 (hs.same (new hd)) (fun i σ H'=>∃e t w,σ=[some (.ref a),some (.int n),some (.ref d),t,w]∧H'=upd H d (.dK (enc e))∧Tab (ps.take i) e) ⟨[],none,none,rfl,rfl,Tab.nil⟩ ?_ ?_ ?_⟩)
  ·rintro i σ H' ⟨e,t,w,rfl,rfl,tab⟩
   exact Kp.dict
  ·rintro i v pr σ H' hi ⟨a',rfl,ha'⟩ ⟨e,t,w,rfl,rfl,tab⟩
   have he:(enc e).length<sizeLine:=by
    have h1:=tab.len
    rw [List.length_take] at h1
    rw [sr]
    omega
   refine ⟨a',cV rfl ⟨aW.of ha',rfl,_,cV rfl ⟨_,cV rfl ⟨rfl,?_⟩⟩⟩⟩
   refine (cV rfl ⟨d,rfl,.inl ⟨_,.inl af⟩,cV rfl ⟨_,uX.k (k:=Sum.inr pr.1) af,cV rfl ⟨_,_,Jf e pr.1,rfl,cV rfl (cV rfl ⟨d,cV rfl ⟨DU.k (k:=Sum.inr pr.1) af he,?_⟩⟩)⟩⟩⟩)
   refine ⟨step e pr,_,cV rfl ⟨?_,?_⟩⟩
   ·rw [BK,CF]
    rfl
   ·rw [take_snoc hi]
    exact tab.step pr
  ·rintro σ H' ⟨e,t,w,rfl,rfl,tab⟩
   rw [List.take_length] at tab
   have el:(enc e).length<64:=by have:=tab.len;rw [sr];omega
   refine (cV rfl ⟨d,_,keys e,rfl,af,yk e,el,fun l ys hl hp hso=>⟨l,rfl,⟨_,bS.of af⟩,?_⟩⟩)
   have yl:ys.length≤ps.length:=by
    rw [hp.length_eq]
    unfold keys
    rw [List.length_map]
    exact tab.len
   refine eS (xs:=ys.map V.str) (fun i out H'=>aH (upd (upd H d (.dK (enc e))) l (.lst (ys.map V.str))) H'∧yD H' out (outs e (ys.take i))) ⟨aH.refl _,.nil⟩ (fun i out H' _ q=>bS.of (q.1 _ _ af)) ?_ ?_
   ·rintro i v out H' hi ⟨sm,pr⟩
    obtain ⟨y,hy,rfl⟩:∃y,ys[i]?=some y∧v=V.str y:=by
     rw [List.getElem?_map] at hi
     cases q:ys[i]? with
     | none=>rw [q] at hi;cases hi
     | some y=>rw [q] at hi;cases hi;exact ⟨y,rfl,rfl⟩
    have hm:y∈keys e:=hp.mem_iff.mp (List.mem_of_getElem? hy)
    have LI:H' d=some (.dK (enc e)):=sm _ _ (by rw [aY (aE af hl)];exact af)
    have ol:out.length<sizeLine:=by
     rw [kg pr]
     have:=tV e (ys.take i)
     rw [List.length_take] at this
     omega
    refine ⟨Ext.one,cV rfl (cV rfl ⟨d,cV rfl ⟨tY LI hm,rfl,cV rfl ?_⟩⟩)⟩
    dsimp only
    by_cases g0:get e y=0
    ·rw [if_neg (by simp [g0])]
     refine ⟨sm,?_⟩
     rw [take_snoc hy,vg,if_pos g0,List.append_nil]
     exact pr
    ·rw [if_pos (by simp [g0])]
     refine (cV rfl (cV rfl (cV rfl ⟨d,cV rfl ⟨tY LI hm,(szl 2),fun q hq=>⟨ol,aH.new sm hq,?_⟩⟩⟩)))
     rw [take_snoc hy,vg,if_neg g0]
     exact rZ (pr.keep fun _ _ z=>new hq _ _ z) (oF ⟨q,rfl,af⟩)
   ·rintro out H' ⟨sm,pr⟩ q hq
    rw [List.length_map,List.take_length] at pr
    have s0:aH H H':=fun b o z=>sm b o (aH.new (new hd) hl b o z)
    refine (cV rfl (fun x dx hx hdx ne=>?_))
    have h1:aH (upd H' q (.lst out)) (upd (upd (upd H' q (.lst out)) dx (.own x)) x (.ins C dx [])):=fun b o z=>by
     rw [aY (aE z hx),aY (aE z hdx)]
     exact z
    refine ⟨x,dx,q,n,outs e ys,rfl,af,.inl ⟨out,h1 _ _ af,pr.keep fun _ _ z=>h1 _ _ (new hq _ _ z)⟩,?_,fun H2 but S=>⟨rfl,?_⟩⟩
    ·have:=tV e ys
     omega
    ·refine k x (outs e ys) H2 (fun b o z=>but b o (h1 _ _ (aH.new s0 hq b o z)) (aE (aH.new s0 hq b o z) hx)) (tab.gat hp hso) ?_ S
     have:=tV e ys
     omega
abbrev mV:Stmt:=top 31
theorem oq:aQ ["_law_cell","_law_k","_law_mix"] ["_law_cell","_law_k"] (ak mV):=⟨rfl,rfl,rfl,by decide +kernel,rfl,by decide +kernel,by decide +kernel⟩
theorem GS {f:Addr} {fd:FuncData} {Y:Cy} {fS:Addr} {n:Nat} (F:dX K "_law_mixed" "_law_mixed" mV f fd) (T:Txt K mg Y.z.s) (U:dW K mg Y.z) (J:eW K mg Y fS) :bH P w K mg base dg 1 f fd ["_law_cell","_law_k"] rW:=by
 refine F.ok oq (fun vs H Q E h=>?_) (fun cdv A outer s H vs Q E hr h=>?_)
 ·obtain ⟨c,kk,rfl,k⟩:=h
  rfl
 ·obtain ⟨c,kk,rfl,k⟩:=h
  have hu:=bh hr
  rw [show av mV=[_,_] from rfl]
  refine ⟨_,(ai (aT (i:=2) oq.nd rfl (Or.inl rfl) (bN iK (bN nc (bN gx (bN gx (pv 0) (bN nc aj (pv 1))) aj) aj) aj))
   (aA (aM (bN iK (bN gx (bN nc (pv 2) (pv 2)) (bN nc aj (pv 2))) aj)))),?_⟩
  refine (cV rfl (cV rfl ⟨_,cV rfl ⟨rfl,.inl ⟨by decide,by decide⟩,_,cV rfl ⟨rfl,_,cV rfl ⟨rfl,_,cV rfl ⟨rfl,.inr ⟨by decide,by decide⟩,_,cV rfl ⟨rfl,(by show (0:Int)<2147483647;decide),?_⟩⟩⟩⟩⟩⟩))
  have h0:=Int.emod_nonneg ((c+7919*kk+11)*48271) (show (2147483647:Int)≠0 by decide)
  have h1:=Int.emod_lt_of_pos ((c+7919*kk+11)*48271) (show (0:Int)<2147483647 by decide)
  generalize (c+7919*kk+11)*48271 % 2147483647=mx at h0 h1
  refine (cV rfl (cV rfl ⟨_,cV rfl ⟨rfl,.inl ⟨by omega,by omega⟩,cV rfl ⟨_,cV rfl ⟨rfl,.inl ⟨by decide,by decide⟩,_,cV rfl ⟨rfl,_,cV rfl ⟨rfl,(by show (0:Int)<2147483399;decide),?_⟩⟩⟩⟩⟩⟩))
  exact k _ (Int.emod_nonneg _ (by decide)) (Int.emod_lt_of_pos _ (by decide))
abbrev j9:Stmt:=top 30
theorem iX:aQ ["_law_script","_law_k","_law_cell"] ["_law_script","_law_k"] (ak j9):=⟨rfl,rfl,rfl,by decide +kernel,rfl,by decide +kernel,by decide +kernel⟩
theorem Bk {f:Addr} {fd:FuncData} {Y:Cy} {fS:Addr} {n:Nat} (F:dX K "_law_cell_at" "_law_cell_at" j9 f fd) (T:Txt K mg Y.z.s) (U:dW K mg Y.z) (J:eW K mg Y fS) (iS:Dn P w K mg base 1 "_law_mixed" ["_law_cell","_law_k"] rW):bH P w K mg base dg 2 f fd ["_law_script","_law_k"] (kM K):=by
 refine F.ok iX (fun vs H Q E h=>?_) (fun cdv A outer s H vs Q E hr h=>?_)
 ·obtain ⟨a,ns,kk,rfl,hS,k⟩:=h
  rfl
 ·obtain ⟨a,ns,kk,rfl,hS,k⟩:=h
  have hu:=bh hr
  rw [show av j9=[_,_,_] from rfl]
  refine ⟨_,(ai (aT (i:=2) iX.nd rfl (Or.inl rfl) aj)
   (ai (cH (aN Gw (pv 1) (bA bR (by rfl) T.len PySem.boot_len (aa (pv 0) ah)) (aR _)) (aA (aT (i:=2) iX.nd rfl (Or.inl rfl) (aJ cN (pv 0) (pv 1) (fun _ _=>rfl)))) bw)
   (aA (aM (au iS.ok (hr.mono (by first | decide | omega)) rfl iS.mm iS.kp iS.b .nil aB (aa (pv 2) (aa (bN gx aj (pv 1)) ah))))))),?_⟩
  refine (cV rfl (cV rfl ⟨a,cV rfl ⟨.inl hS,_,cV rfl ⟨rfl,cV rfl ?_⟩⟩⟩))
  refine rM (fun hc=>?_) (fun hc=>?_)
  ·have hc:=of_decide_eq_true hc
   rw [List.length_map] at hc
   have hk:(ns.map V.int)[kk]?=some (V.int (ns[kk]'(by omega))):=by rw [List.getElem?_map,List.getElem?_eq_getElem (by omega)];rfl
   refine (cV rfl (cV rfl ⟨a,_,_,cV rfl ⟨rfl,hS,bI hk,?_⟩⟩))
   exact (cV rfl (cV rfl ⟨_,cV rfl ⟨rfl,_,cV rfl (fun r _ _=>k r)⟩⟩))
  ·exact (cV rfl (cV rfl ⟨_,cV rfl ⟨rfl,_,cV rfl (fun r _ _=>k r)⟩⟩))
abbrev tH:Stmt:=top 32
theorem xG:aQ ["_law_draw","_law_size"] ["_law_draw","_law_size"] (ak tH):=⟨rfl,rfl,rfl,by decide +kernel,rfl,by decide +kernel,by decide +kernel⟩
theorem J7 {f:Addr} {fd:FuncData} {Y:Cy} {fS:Addr} {n:Nat} (F:dX K "_law_next" "_law_next" tH f fd) (T:Txt K mg Y.z.s) (U:dW K mg Y.z) (J:eW K mg Y fS) (iS:Dn P w K mg base 1 "_law_mixed" ["_law_cell","_law_k"] rW):bH P w K mg base dg 2 f fd ["_law_draw","_law_size"] dJ:=by
 refine F.ok xG (fun vs H Q E h=>?_) (fun cdv A outer s H vs Q E hr h=>?_)
 ·obtain ⟨d,n,rfl,hd,hn,k⟩:=h
  rfl
 ·obtain ⟨d,n,rfl,hd,hn,k⟩:=h
  have hu:=bh hr
  rw [show av tH=[_,_] from rfl]
  refine ⟨_,(ai (J2 (pv 0) aj I8 aj Iz set_list)
   (aA (aM (bN iK (bN oM (au iS.ok (hr.mono (by first | decide | omega)) rfl iS.mm iS.kp iS.b .nil aB (aa (aJ cN (pv 0) aj (fun _ _=>rfl)) (aa (aJ cN (pv 0) aj (fun _ _=>rfl)) ah))) aj) (pv 1))))),?_⟩
  obtain ⟨x,y,hd⟩:=hd
  refine ⟨_,rfl,d,_,1,_,rfl,rfl,bS.of hd,rfl,_,_,rfl,rfl,d,_,_,1,rfl,rfl,hd,rfl,?_⟩
  refine ⟨_,rfl,d,_,_,_,rfl,rfl,bS.of af,rfl,_,rfl,d,_,_,_,rfl,rfl,bS.of af,rfl,_,_,rfl,fun r h0 h1=>?_⟩
  refine ⟨_,_,rfl,rfl,⟨by decide,by decide⟩,_,rfl,_,_,rfl,rfl,hn,?_⟩
  have e0:=Int.emod_nonneg (r / 7) (Int.ne_of_gt hn)
  have e1:=Int.emod_lt_of_pos (r / 7) hn
  have e:=Int.toNat_of_nonneg e0
  rw [←e] at e1
  show Q (V.int (r / 7 % n)) _
  rw [←e]
  exact k _ _ e1 bz.upd ⟨_,_,af⟩
abbrev oA:Stmt:=top 34
theorem qS:aQ ["_law_words"] [] (ak oA):=⟨rfl,rfl,rfl,by decide +kernel,rfl,by decide +kernel,by decide +kernel⟩
abbrev eA:Expr:=Ot ((av oA).getD 0 (.Pass ⟨0,0,0,0⟩))
abbrev eB:Expr:=MF (Xa ((av oA).getD 1 (.Pass ⟨0,0,0,0⟩)))
theorem kA1:xX eA=some HY:=rfl
theorem kB1:xX eB=some HX:=rfl
theorem J9 {f:Addr} {fd:FuncData} {Y:Cy} {fS:Addr} {n:Nat} (F:dX K "_law_kept" "_law_kept" oA f fd) (T:Txt K mg Y.z.s) (U:dW K mg Y.z) (J:eW K mg Y fS) :bH P w K mg base dg 1 f fd [] vQ:=by
 refine F.ok qS (fun vs H Q E h=>?_) (fun cdv A outer s H vs Q E hr h=>?_)
 ·obtain ⟨rfl,k⟩:=h
  rfl
 ·obtain ⟨rfl,k⟩:=h
  have hu:=bh hr
  have ha:=kA1
  have hb:=kB1
  rw [show av oA=[.Assign [.Name "_law_words" _] eA _,.Return (some (.BinOp (.Name "_law_words" _) .Add eB _)) _] from rfl]
  generalize eA=qa at ha ⊢
  generalize eB=qb at hb ⊢
  refine ⟨_,(ai (aT (i:=0) qS.nd rfl (Or.inl rfl) (v9 ha) (BP ha))
   (aA (aM (bN tW (pv 0) (v9 hb))))),?_⟩
  refine ⟨(szl 13),fun l1 n1=>?_⟩
  refine (cV rfl ⟨(szl 8),fun l2 n2=>?_⟩)
  have ne:l1≠l2:=aE af n2
  refine ⟨l1,l2,_,cV rfl ⟨rfl,(by rw [aY ne];exact af),af,(by show 13+8≤sizeLine;exact Nat.le_of_lt (line 21 (by decide))),fun p hp=>?_⟩⟩
  refine k p _ (aH.new (aH.new (new n1) n2) hp) ((aH.new (new n1) n2).free hp) ?_
  rw [af]
  rw [show gj.map V.str=HY.map V.str++HX.map V.str from List.map_append]
abbrev kU:Stmt:=top 33
theorem cD:aQ ["_law_draw","_law_many","_law_some","_law_size","_law_place","_law_base","_law_shift","_law_kept_here","_law_alike","_law_names_here","_law_k","_law_word","_law_turn"] ["_law_draw","_law_many"] (ak kU):=⟨rfl,rfl,rfl,by decide +kernel,rfl,by decide +kernel,by decide +kernel⟩
abbrev eH:Expr:=Ot ((av kU).getD 5 (.Pass ⟨0,0,0,0⟩))
theorem kH1:xX eH=some jP:=rfl
theorem GP {f:Addr} {fd:FuncData} {Y:Cy} {fS:Addr} {n:Nat} (F:dX K "_law_names" "_law_names" kU f fd) (T:Txt K mg Y.z.s) (U:dW K mg Y.z) (J:eW K mg Y fS) (aq:Dn P w K mg base 2 "_law_next" ["_law_draw","_law_size"] dJ) (w5:Dn P w K mg base 1 "_law_kept" [] vQ):bH P w K mg base dg 3 f fd ["_law_draw","_law_many"] sU:=by
 refine F.ok cD (fun vs H Q E h=>?_) (fun cdv A outer s H vs Q E hr h=>?_)
 ·obtain ⟨d,m,rfl,hd,hm,k⟩:=h
  rfl
 ·obtain ⟨d,m,rfl,hd,hm,k⟩:=h
  have hu:=bh hr
  have hh:=kH1
  rw [show av kU=[_,_,_,_,_,.Assign [.Name "_law_kept_here" _] eH _,_,_,_,_] from rfl]
  generalize eH=qh at hh ⊢
  refine ⟨_,(ai (aT (i:=2) cD.nd rfl (Or.inr rfl) bf)
   (ai (aT (i:=3) cD.nd rfl (Or.inl rfl) (bN gx aj (au aq.ok (hr.mono (by first | decide | omega)) rfl aq.mm aq.kp aq.b .nil aB (aa (pv 0) (aa aj ah)))))
   (ai (aT (i:=4) cD.nd rfl (Or.inl rfl) (au aq.ok (hr.mono (by first | decide | omega)) rfl aq.mm aq.kp aq.b .nil aB (aa (pv 0) (aa (pv 3) ah))))
   (ai (jx (i:=5) cD.nd rfl (Or.inl rfl) (br ["_law_k"] ["_law_some","_law_draw"] [2,0] rfl (by decide +kernel) (by decide +kernel) (by with_unfolding_all rfl) (by exact ⟨rfl,rfl,trivial⟩) (by rfl) rfl (by rfl)) rfl (fq rfl T.range (aa (pv 3) ah)) (fun _ _ _ _=>(aP (i:=0) (show List.Nodup (["_law_k","_law_some","_law_draw"]:List Str) by decide +kernel) rfl (Or.inl rfl) (Or.inr rfl))) (fun _ _ _ _=>cy) (fun _ _ _ _=>(aJ qC (pv 1) (au aq.ok (hr.mono (by first | decide | omega)) rfl aq.mm aq.kp aq.b .nil aB (aa (pv 2) (aa aj ah))) (fun _ _=>rfl))))
   (ai (aT (i:=6) cD.nd rfl (Or.inl rfl) (au aq.ok (hr.mono (by first | decide | omega)) rfl aq.mm aq.kp aq.b .nil aB (aa (pv 0) (aa aj ah))))
   (ai (aT (i:=7) cD.nd rfl (Or.inl rfl) (v9 hh) (BP hh))
   (ai (aT (i:=8) cD.nd rfl (Or.inl rfl) (eF cS (au aq.ok (hr.mono (by first | decide | omega)) rfl aq.mm aq.kp aq.b .nil aB (aa (pv 0) (aa aj ah))) aj (aR _)))
   (ai (aT (i:=9) cD.nd rfl (Or.inl rfl) (cP ah))
   (ai (kc PassesOwn.never rfl (fq rfl T.range (aa (pv 1) ah)) (aP (i:=10) cD.nd rfl (Or.inl rfl)) (ai (tS (aJ qC (pv 2) (bN iK (bN gx (pv 6) (bN nc aj (pv 10))) aj) (fun _ _=>rfl)) (MM (pv 5) (pv 4) set_list))
   (ai (aT (i:=11) cD.nd rfl (Or.inl rfl) (m6 PySem.F.plainAttrs_str PySem.F.slot_str_join PySem.F.type_str_join Kg bf (aa (pv 5) ah)))
   (ai (cH (PW.pt (iJ (m5 (pv 8)) (gF (aN Gw (pv 10) aj (aR _))))) (aA (aT (i:=11) cD.nd rfl (Or.inl rfl) (aJ cN (pv 7) (bN iK (bN gx (pv 10) (pv 6)) aj) (fun _ _=>rfl)))) bw)
   (ai (aT (i:=12) cD.nd rfl (Or.inl rfl) aj)
   (ai (Fl PassesOwn.never (PW.pt (kE (aN iV (pv 11) (pv 9) (by rfl)) (ja (aN iV (pv 11) (Gu w5.ok (hr.mono (by first | decide | omega)) rfl w5.mm w5.kp w5.b .nil aB) (by rfl))))) (ai (MK (i:=12) cD.nd rfl (Or.inl rfl) aj Iz)
   (aA (aT (i:=11) cD.nd rfl (Or.inl rfl) (bN ic (bN ic bf (aJ qC (pv 2) (bN iK (pv 12) aj) (fun _ _=>rfl))) (aJ qC (pv 2) (bN iK (bN gx (pv 10) (pv 12)) aj) (fun _ _=>rfl)))))))
   (aA (fh (m6 PySem.F.plainAttrs_list PySem.F.slot_list_append PySem.F.type_list_append iW (pv 9) (aa (pv 11) ah))))))))))
   (aA (aM (pv 9)))))))))))),?_⟩
  refine ⟨_,rfl,d,8,rfl,hd,(by decide),fun r1 H1 h1 b1 d1=>⟨_,_,rfl,rfl,?_⟩⟩
  refine ⟨_,rfl,_,rfl,d,_,rfl,d1,(by omega),fun r2 H2 h2 b2 d2=>?_⟩
  refine ⟨_,rfl,_,rfl,(by omega),(by omega),iu (n:=(1+(r1:Int)).toNat) (fun i ys H'=>bz d H2 H'∧Dr H' d∧∃ss:List Str,ys=ss.map V.str∧ss.length=i∧∀x∈ss,O0 x) ⟨fun _ _ e _=>e,d2,[],rfl,rfl,fun _ h=>nomatch h⟩ ?_ ?_⟩
  ·rintro i ys H' hi ⟨b,dr,ss,rfl,hl,hs⟩
   refine ⟨Ext.one,gk ⟨_,rfl,_,rfl,d,26,rfl,dr,(by decide),fun r3 H3 h3 b3 d3=>⟨uC,_,_,rfl,rfl,fR,Jr (by omega),?_,b.trans b3,d3,ss++[yw (97+r3)],?_,?_,?_⟩⟩⟩
   ·rw [List.length_map,hl]
    exact line _ (by omega)
   ·rw [List.map_append]
    rfl
   ·rw [List.length_append,hl]
    rfl
   ·intro x hx
    rcases List.mem_append.mp hx with h | h
    ·exact hs x h
    ·rw [List.mem_singleton.mp h]
     exact ⟨_,rfl,Nat.le_add_right _ _⟩
  rintro ys H3 ⟨b3,d3,ss,rfl,hl,hs⟩ B hB
  have d4:Dr (upd H3 B (.lst (ss.map V.str))) d:=d3.same (new hB)
  refine ⟨_,rfl,d,26,rfl,d4,(by decide),fun r4 H5 h4 b5 d5=>?_⟩
  refine ⟨(by rw [List.length_map];exact Nat.le_of_lt (line _ (by decide))),fun kl UH=>?_⟩
  have d6:Dr (upd H5 kl (.lst (jP.map V.str))) d:=d5.same (new UH)
  refine ⟨_,rfl,d,3,rfl,d6,(by decide),fun r5 H7 h5 b7 d7=>⟨rfl,?_⟩⟩
  generalize decide (V.int (r5:Int)=V.int 1)=al
  refine ⟨(Nat.zero_le _),fun nl hnl=>?_⟩
  have nBd:B≠d:=d3.ne hB
  have nkd:kl≠d:=d5.ne UH
  have nnd:nl≠d:=d7.ne hnl
  have f3:bz d H H3:=(b1.trans b2).trans b3
  have f7:bz d H H7:=((f3.new hB).trans b5 |>.new UH).trans b7
  have f8:bz d H (upd H7 nl (.lst [])):=f7.new hnl
  have hB5:H5 B=some (.lst (ss.map V.str)):=b5 _ _ af nBd
  have nBk:B≠kl:=aE hB5 UH
  have hB7:H7 B=some (.lst (ss.map V.str)):=b7 _ _ (by rw [aY nBk];exact hB5) nBd
  have hk7:H7 kl=some (.lst (jP.map V.str)):=b7 _ _ af nkd
  have P8:B≠nl:=aE hB7 hnl
  have nkn:kl≠nl:=aE hk7 hnl
  have sz:(1+(r1:Int)).toNat≤8:=by omega
  have pl:r2<(1+(r1:Int)).toNat:=by omega
  clear hd d1 b1 d2 b2 b3 d3 d4 d6 b5 d5 b7 hB5
  refine ⟨_,rfl,_,rfl,(by omega),(by omega),jR (n:=(m:Int).toNat) (fun i σ H'=>∃(xs bs:List Str) (kk w t:Option V),σ=[some (.ref d),some (.int m),some (.str uC),some (.int (1+r1)),some (.int r2),some (.ref B),some (.int r4),some (.ref kl),some (.bl al),some (.ref nl),kk,w,t]∧Tf B nl (upd H7 nl (.lst [])) H'∧H' B=some (.lst (bs.map V.str))∧bs.length=(1+(r1:Int)).toNat∧(∀x∈bs,O0 x)∧H' nl=some (.lst (xs.map V.str))∧xs.length=i∧(∀x∈xs,nS x)∧xs.Nodup)
   ⟨[],ss,none,none,none,rfl,fun _ _ e _ _=>e,(by rw [aY P8];exact hB7),hl,hs,af,rfl,(fun _ h=>nomatch h),List.nodup_nil⟩ ?_ ?_⟩
  ·rintro i σ H' hi ⟨xs,bs,kk,w,t,rfl,bt,eB,lB,sB,eN,lN,sN,O4⟩
   have im:i<12:=by omega
   refine ⟨_,rfl,_,rfl,_,rfl,_,_,rfl,rfl,.inl ⟨by decide,by decide⟩,_,_,rfl,rfl,_,_,rfl,rfl,(by show (0:Int)<26;decide),uC,_,_,rfl,rfl,fR,gi _,_,rfl,_,rfl,B,_,_,r2,rfl,rfl,eB,Ko (by rw [List.length_map,lB];exact pl),?_⟩
   have h97:97≤(97+(((r4:Int)+5*(0+(i:Int))) % 26).toNat):=Nat.le_add_right _ _
   generalize (97+(((r4:Int)+5*(0+(i:Int))) % 26).toNat)=c at h97 ⊢
   have OU:upd H' B (.lst ((bs.map V.str).set r2 (V.str ⟨#[c]⟩))) B=some (.lst ((bs.set r2 (yw c)).map V.str)):=by rw [af,List.map_set]
   have Oa:upd H' B (.lst ((bs.map V.str).set r2 (V.str ⟨#[c]⟩))) nl=some (.lst (xs.map V.str)):=by rw [aY P8.symm];exact eN
   have Qi:(bs.set r2 (yw c)).length=(1+(r1:Int)).toNat:=by rw [List.length_set];exact lB
   have sB':∀x∈bs.set r2 (yw c),O0 x:=fun x hx=>by
    rcases List.mem_or_eq_of_mem_set hx with h | h
    ·exact sB x h
    ·rw [h]
     exact ⟨c,rfl,h97⟩
   have SA:Tf B nl (upd H7 nl (.lst [])) (upd H' B (.lst ((bs.map V.str).set r2 (V.str ⟨#[c]⟩)))):=fun b o e n1 n2=>by
    rw [aY n1]
    exact bt b o e n1 n2
   have hk':upd H' B (.lst ((bs.map V.str).set r2 (V.str ⟨#[c]⟩))) kl=some (.lst (jP.map V.str)):=SA _ _ (by rw [aY nkn];exact hk7) nBk.symm nkn
   generalize bs.set r2 (yw c)=cs at OU Qi sB'
   refine ⟨rfl,_,rfl,_,B,cs,rfl,rfl,OU,?_,?_⟩
   ·rw [xx cs (fun x hx=>(sB' x hx).len),Qi]
    show _+_*0≤_
    omega
   generalize upd H' B (.lst ((bs.map V.str).set r2 (V.str ⟨#[c]⟩)))=Hb at OU Oa SA hk'
   have hw0:nS (Txt.join (Str.ofString "") cs):=Kf sB' (by omega) (by omega)
   generalize Txt.join (Str.ofString "") cs=w0 at hw0
   obtain ⟨kx,JF,kat⟩:=Dl (0+(i:Int)+r4)
   refine ⟨_,rfl,_,rfl,?_⟩
   cases al
   ·refine fB (fB ?_)
    refine sM (fun σ H2=>∃(t:Nat) (wd:Str),σ=[some (.ref d),some (.int m),some (.str uC),some (.int (1+r1)),some (.int r2),some (.ref B),some (.int r4),some (.ref kl),some (.bl false),some (.ref nl), some (.int (0+(i:Int))),some (.str wd),some (.int (t:Int))]∧nS wd∧(1≤t→wd=zt (0+(i:Int)) t)∧(∀s,s+1<t→zt (0+(i:Int)) (s+1)∈xs)∧t≤14∧aH Hb H2) Nq ⟨0,_,rfl,(by first | exact hw0 | exact ur JF),fun h=>absurd h (by decide),fun s h=>absurd h (by omega),by decide,aH.refl _⟩ ?_ (wK (lZ (gH _) (gH _)) (lZ (gH _) qy))
    rintro σ H2 ⟨t,wd,rfl,hw,e1,e2,e3,sm⟩
    have turn:∀H3,aH H2 H3→(wd∈xs∨wd∈gj)→t+1≤14∧∀s,s+1<t+1→zt (0+(i:Int)) (s+1)∈xs:=fun H3 s3 hc=>by
     have q:∀s,s<t→zt (0+(i:Int)) (s+1)∈xs:=fun s hs=>by
      by_cases hs':s+1<t
      ·exact e2 s hs'
      ·have e:t=s+1:=by omega
       have e':=e1 (by omega)
       rw [e] at e'
       rw [←e']
       rcases hc with h | h
       ·exact h
       ·exact absurd (e'▸h) (mO _ _)
     have:=yL (by omega) q
     exact ⟨by omega,fun s hs=>q s (by omega)⟩
    have i1:(if false=true then !oS (.str wd) (xs.map V.str) else oS (.str wd) (xs.map V.str))=decide (wd∈xs):=gI wd xs
    have i2:(if false=true then !oS (.str wd) (gj.map V.str) else oS (.str wd) (gj.map V.str))=decide (wd∈gj):=gI wd gj
    refine ⟨_,rfl,_,rfl,nl,_,rfl,.inl (bS.of (sm _ _ Oa)),rfl,fZ _,decide (wd∈xs),congrArg V.bl i1,?_⟩
    refine rM (fun hc=>?_) (fun hc=>?_)
    ·obtain ⟨t1,t2⟩:=turn H2 (aH.refl _) (.inl (of_decide_eq_true hc))
     refine qD ?_
     refine ⟨_,rfl,_,_,rfl,rfl,?_⟩
     refine ⟨_,rfl,_,rfl,_,_,rfl,rfl,(by show (0:Int)<26;decide),uC,_,_,rfl,rfl,fR,gi _,_,_,rfl,rfl,(by show 1+1≤sizeLine;exact Nat.le_of_lt (line 2 (by decide))),?_⟩
     refine ⟨_,rfl,_,rfl,_,rfl,_,_,rfl,rfl,_,_,rfl,rfl,(by show (0:Int)<26;decide),uC,_,_,rfl,rfl,fR,gi _,_,_,rfl,rfl,(by rw [iT];show 1+1+1≤sizeLine;exact Nat.le_of_lt (line 3 (by decide))),?_⟩
     refine ⟨⟨t+1,zt (0+(i:Int)) (t+1),rfl,uZ _ _,fun _=>rfl,t2,t1,sm.trans (aH.refl _)⟩,?_⟩
     show 20-(((t:Int)+1).toNat)<20-((t:Int)).toNat
     omega
    refine ⟨_,rfl,rfl,fun l H3 s3 n3 KG=>⟨l,_,rfl,.inl (bS.of KG),rfl,fZ _,decide (wd∈gj),congrArg V.bl i2,?_⟩⟩
    refine rM (fun hc2=>?_) (fun hc2=>?_)
    ·obtain ⟨t1,t2⟩:=turn H3 s3 (.inr (of_decide_eq_true hc2))
     refine ⟨_,rfl,_,_,rfl,rfl,?_⟩
     refine ⟨_,rfl,_,rfl,_,_,rfl,rfl,(by show (0:Int)<26;decide),uC,_,_,rfl,rfl,fR,gi _,_,_,rfl,rfl,(by show 1+1≤sizeLine;exact Nat.le_of_lt (line 2 (by decide))),?_⟩
     refine ⟨_,rfl,_,rfl,_,rfl,_,_,rfl,rfl,_,_,rfl,rfl,(by show (0:Int)<26;decide),uC,_,_,rfl,rfl,fR,gi _,_,_,rfl,rfl,(by rw [iT];show 1+1+1≤sizeLine;exact Nat.le_of_lt (line 3 (by decide))),?_⟩
     refine ⟨⟨t+1,zt (0+(i:Int)) (t+1),rfl,uZ _ _,fun _=>rfl,t2,t1,sm.trans (s3)⟩,?_⟩
     show 20-(((t:Int)+1).toNat)<20-((t:Int)).toNat
     omega
    have LK:H3 nl=some (.lst (xs.map V.str)):=s3 _ _ (sm _ _ Oa)
    refine ⟨_,rfl,.inl ⟨rfl,_,bS.of LK⟩,_,rfl,nl,_,_,rfl,rfl,LK,(by rw [List.length_map,lN];exact line _ (by omega)),?_⟩
    refine ⟨xs++[wd],cs,_,_,_,rfl,fun b o e n1 n2=>by rw [aY n2];exact s3 _ _ (sm _ _ (SA b o e n1 n2)),(by rw [aY P8];exact s3 _ _ (sm _ _ OU)),Qi,sB',(by rw [af,List.map_append];rfl),(by rw [List.length_append,lN];rfl),fun x hx=>?_,ng O4 (fun h=>hc (decide_eq_true h))⟩
    rcases List.mem_append.mp hx with h | h
    ·exact sN x h
    ·rw [List.mem_singleton.mp h]
     exact hw
   ·refine qD ⟨_,rfl,_,_,rfl,rfl,_,rfl,rM (fun hk=>?_) fun hk=>?_⟩
    ·refine ⟨_,rfl,_,rfl,_,rfl,_,_,rfl,rfl,_,_,rfl,rfl,(by show (0:Int)<12;decide),kl,_,_,_,rfl,rfl,bS.of hk',kat,?_⟩
     refine sM (fun σ H2=>∃(t:Nat) (wd:Str),σ=[some (.ref d),some (.int m),some (.str uC),some (.int (1+r1)),some (.int r2),some (.ref B),some (.int r4),some (.ref kl),some (.bl true),some (.ref nl), some (.int (0+(i:Int))),some (.str wd),some (.int (t:Int))]∧nS wd∧(1≤t→wd=zt (0+(i:Int)) t)∧(∀s,s+1<t→zt (0+(i:Int)) (s+1)∈xs)∧t≤14∧aH Hb H2) Nq ⟨0,_,rfl,(by first | exact hw0 | exact ur JF),fun h=>absurd h (by decide),fun s h=>absurd h (by omega),by decide,aH.refl _⟩ ?_ (wK (lZ (gH _) (gH _)) (lZ (gH _) qy))
     rintro σ H2 ⟨t,wd,rfl,hw,e1,e2,e3,sm⟩
     have turn:∀H3,aH H2 H3→(wd∈xs∨wd∈gj)→t+1≤14∧∀s,s+1<t+1→zt (0+(i:Int)) (s+1)∈xs:=fun H3 s3 hc=>by
      have q:∀s,s<t→zt (0+(i:Int)) (s+1)∈xs:=fun s hs=>by
       by_cases hs':s+1<t
       ·exact e2 s hs'
       ·have e:t=s+1:=by omega
        have e':=e1 (by omega)
        rw [e] at e'
        rw [←e']
        rcases hc with h | h
        ·exact h
        ·exact absurd (e'▸h) (mO _ _)
      have:=yL (by omega) q
      exact ⟨by omega,fun s hs=>q s (by omega)⟩
     have i1:(if false=true then !oS (.str wd) (xs.map V.str) else oS (.str wd) (xs.map V.str))=decide (wd∈xs):=gI wd xs
     have i2:(if false=true then !oS (.str wd) (gj.map V.str) else oS (.str wd) (gj.map V.str))=decide (wd∈gj):=gI wd gj
     refine ⟨_,rfl,_,rfl,nl,_,rfl,.inl (bS.of (sm _ _ Oa)),rfl,fZ _,decide (wd∈xs),congrArg V.bl i1,?_⟩
     refine rM (fun hc=>?_) (fun hc=>?_)
     ·obtain ⟨t1,t2⟩:=turn H2 (aH.refl _) (.inl (of_decide_eq_true hc))
      refine qD ?_
      refine ⟨_,rfl,_,_,rfl,rfl,?_⟩
      refine ⟨_,rfl,_,rfl,_,_,rfl,rfl,(by show (0:Int)<26;decide),uC,_,_,rfl,rfl,fR,gi _,_,_,rfl,rfl,(by show 1+1≤sizeLine;exact Nat.le_of_lt (line 2 (by decide))),?_⟩
      refine ⟨_,rfl,_,rfl,_,rfl,_,_,rfl,rfl,_,_,rfl,rfl,(by show (0:Int)<26;decide),uC,_,_,rfl,rfl,fR,gi _,_,_,rfl,rfl,(by rw [iT];show 1+1+1≤sizeLine;exact Nat.le_of_lt (line 3 (by decide))),?_⟩
      refine ⟨⟨t+1,zt (0+(i:Int)) (t+1),rfl,uZ _ _,fun _=>rfl,t2,t1,sm.trans (aH.refl _)⟩,?_⟩
      show 20-(((t:Int)+1).toNat)<20-((t:Int)).toNat
      omega
     refine ⟨_,rfl,rfl,fun l H3 s3 n3 KG=>⟨l,_,rfl,.inl (bS.of KG),rfl,fZ _,decide (wd∈gj),congrArg V.bl i2,?_⟩⟩
     refine rM (fun hc2=>?_) (fun hc2=>?_)
     ·obtain ⟨t1,t2⟩:=turn H3 s3 (.inr (of_decide_eq_true hc2))
      refine ⟨_,rfl,_,_,rfl,rfl,?_⟩
      refine ⟨_,rfl,_,rfl,_,_,rfl,rfl,(by show (0:Int)<26;decide),uC,_,_,rfl,rfl,fR,gi _,_,_,rfl,rfl,(by show 1+1≤sizeLine;exact Nat.le_of_lt (line 2 (by decide))),?_⟩
      refine ⟨_,rfl,_,rfl,_,rfl,_,_,rfl,rfl,_,_,rfl,rfl,(by show (0:Int)<26;decide),uC,_,_,rfl,rfl,fR,gi _,_,_,rfl,rfl,(by rw [iT];show 1+1+1≤sizeLine;exact Nat.le_of_lt (line 3 (by decide))),?_⟩
      refine ⟨⟨t+1,zt (0+(i:Int)) (t+1),rfl,uZ _ _,fun _=>rfl,t2,t1,sm.trans (s3)⟩,?_⟩
      show 20-(((t:Int)+1).toNat)<20-((t:Int)).toNat
      omega
     have LK:H3 nl=some (.lst (xs.map V.str)):=s3 _ _ (sm _ _ Oa)
     refine ⟨_,rfl,.inl ⟨rfl,_,bS.of LK⟩,_,rfl,nl,_,_,rfl,rfl,LK,(by rw [List.length_map,lN];exact line _ (by omega)),?_⟩
     refine ⟨xs++[wd],cs,_,_,_,rfl,fun b o e n1 n2=>by rw [aY n2];exact s3 _ _ (sm _ _ (SA b o e n1 n2)),(by rw [aY P8];exact s3 _ _ (sm _ _ OU)),Qi,sB',(by rw [af,List.map_append];rfl),(by rw [List.length_append,lN];rfl),fun x hx=>?_,ng O4 (fun h=>hc (decide_eq_true h))⟩
     rcases List.mem_append.mp hx with h | h
     ·exact sN x h
     ·rw [List.mem_singleton.mp h]
      exact hw
    ·refine sM (fun σ H2=>∃(t:Nat) (wd:Str),σ=[some (.ref d),some (.int m),some (.str uC),some (.int (1+r1)),some (.int r2),some (.ref B),some (.int r4),some (.ref kl),some (.bl true),some (.ref nl), some (.int (0+(i:Int))),some (.str wd),some (.int (t:Int))]∧nS wd∧(1≤t→wd=zt (0+(i:Int)) t)∧(∀s,s+1<t→zt (0+(i:Int)) (s+1)∈xs)∧t≤14∧aH Hb H2) Nq ⟨0,_,rfl,(by first | exact hw0 | exact ur JF),fun h=>absurd h (by decide),fun s h=>absurd h (by omega),by decide,aH.refl _⟩ ?_ (wK (lZ (gH _) (gH _)) (lZ (gH _) qy))
     rintro σ H2 ⟨t,wd,rfl,hw,e1,e2,e3,sm⟩
     have turn:∀H3,aH H2 H3→(wd∈xs∨wd∈gj)→t+1≤14∧∀s,s+1<t+1→zt (0+(i:Int)) (s+1)∈xs:=fun H3 s3 hc=>by
      have q:∀s,s<t→zt (0+(i:Int)) (s+1)∈xs:=fun s hs=>by
       by_cases hs':s+1<t
       ·exact e2 s hs'
       ·have e:t=s+1:=by omega
        have e':=e1 (by omega)
        rw [e] at e'
        rw [←e']
        rcases hc with h | h
        ·exact h
        ·exact absurd (e'▸h) (mO _ _)
      have:=yL (by omega) q
      exact ⟨by omega,fun s hs=>q s (by omega)⟩
     have i1:(if false=true then !oS (.str wd) (xs.map V.str) else oS (.str wd) (xs.map V.str))=decide (wd∈xs):=gI wd xs
     have i2:(if false=true then !oS (.str wd) (gj.map V.str) else oS (.str wd) (gj.map V.str))=decide (wd∈gj):=gI wd gj
     refine ⟨_,rfl,_,rfl,nl,_,rfl,.inl (bS.of (sm _ _ Oa)),rfl,fZ _,decide (wd∈xs),congrArg V.bl i1,?_⟩
     refine rM (fun hc=>?_) (fun hc=>?_)
     ·obtain ⟨t1,t2⟩:=turn H2 (aH.refl _) (.inl (of_decide_eq_true hc))
      refine qD ?_
      refine ⟨_,rfl,_,_,rfl,rfl,?_⟩
      refine ⟨_,rfl,_,rfl,_,_,rfl,rfl,(by show (0:Int)<26;decide),uC,_,_,rfl,rfl,fR,gi _,_,_,rfl,rfl,(by show 1+1≤sizeLine;exact Nat.le_of_lt (line 2 (by decide))),?_⟩
      refine ⟨_,rfl,_,rfl,_,rfl,_,_,rfl,rfl,_,_,rfl,rfl,(by show (0:Int)<26;decide),uC,_,_,rfl,rfl,fR,gi _,_,_,rfl,rfl,(by rw [iT];show 1+1+1≤sizeLine;exact Nat.le_of_lt (line 3 (by decide))),?_⟩
      refine ⟨⟨t+1,zt (0+(i:Int)) (t+1),rfl,uZ _ _,fun _=>rfl,t2,t1,sm.trans (aH.refl _)⟩,?_⟩
      show 20-(((t:Int)+1).toNat)<20-((t:Int)).toNat
      omega
     refine ⟨_,rfl,rfl,fun l H3 s3 n3 KG=>⟨l,_,rfl,.inl (bS.of KG),rfl,fZ _,decide (wd∈gj),congrArg V.bl i2,?_⟩⟩
     refine rM (fun hc2=>?_) (fun hc2=>?_)
     ·obtain ⟨t1,t2⟩:=turn H3 s3 (.inr (of_decide_eq_true hc2))
      refine ⟨_,rfl,_,_,rfl,rfl,?_⟩
      refine ⟨_,rfl,_,rfl,_,_,rfl,rfl,(by show (0:Int)<26;decide),uC,_,_,rfl,rfl,fR,gi _,_,_,rfl,rfl,(by show 1+1≤sizeLine;exact Nat.le_of_lt (line 2 (by decide))),?_⟩
      refine ⟨_,rfl,_,rfl,_,rfl,_,_,rfl,rfl,_,_,rfl,rfl,(by show (0:Int)<26;decide),uC,_,_,rfl,rfl,fR,gi _,_,_,rfl,rfl,(by rw [iT];show 1+1+1≤sizeLine;exact Nat.le_of_lt (line 3 (by decide))),?_⟩
      refine ⟨⟨t+1,zt (0+(i:Int)) (t+1),rfl,uZ _ _,fun _=>rfl,t2,t1,sm.trans (s3)⟩,?_⟩
      show 20-(((t:Int)+1).toNat)<20-((t:Int)).toNat
      omega
     have LK:H3 nl=some (.lst (xs.map V.str)):=s3 _ _ (sm _ _ Oa)
     refine ⟨_,rfl,.inl ⟨rfl,_,bS.of LK⟩,_,rfl,nl,_,_,rfl,rfl,LK,(by rw [List.length_map,lN];exact line _ (by omega)),?_⟩
     refine ⟨xs++[wd],cs,_,_,_,rfl,fun b o e n1 n2=>by rw [aY n2];exact s3 _ _ (sm _ _ (SA b o e n1 n2)),(by rw [aY P8];exact s3 _ _ (sm _ _ OU)),Qi,sB',(by rw [af,List.map_append];rfl),(by rw [List.length_append,lN];rfl),fun x hx=>?_,ng O4 (fun h=>hc (decide_eq_true h))⟩
     rcases List.mem_append.mp hx with h | h
     ·exact sN x h
     ·rw [List.mem_singleton.mp h]
      exact hw
  ·rintro σ H' ⟨xs,bs,kk,w,t,rfl,bt,eB,lB,sB,eN,lN,sN,O4⟩
   obtain ⟨x7,y7,e7⟩:=d7
   refine ⟨_,rfl,k nl xs H' (fun b o e n=>bt b o (f8 b o e n) (aE (f3 b o e n) hB) (aE (f7 b o e n) hnl)) ⟨x7,y7,bt d _ (by rw [aY nnd.symm];exact e7) nBd.symm nnd.symm⟩ (f7.free hnl nnd) eN (by rw [lN];rfl) sN O4⟩
abbrev tK:Stmt:=top 35
theorem jY:aQ ["_law_draw","_law_things","_law_found","_law_k","_law_number"] ["_law_draw","_law_things"] (ak tK):=⟨rfl,rfl,rfl,by decide +kernel,rfl,by decide +kernel,by decide +kernel⟩
theorem J8 {f:Addr} {fd:FuncData} {Y:Cy} {fS:Addr} {n:Nat} (F:dX K "_law_sum" "_law_sum" tK f fd) (T:Txt K mg Y.z.s) (U:dW K mg Y.z) (J:eW K mg Y fS) (aq:Dn P w K mg base 2 "_law_next" ["_law_draw","_law_size"] dJ):bH P w K mg base dg 3 f fd ["_law_draw","_law_things"] fM:=by
 refine F.ok jY (fun vs H Q E h=>?_) (fun cdv A outer s H vs Q E hr h=>?_)
 ·obtain ⟨d,l,xs,rfl,hd,hl,hx,JG,k⟩:=h
  rfl
 ·obtain ⟨d,l,xs,rfl,hd,hl,hx,JG,k⟩:=h
  have hu:=bh hr
  rw [show av tK=[_,_,_,_] from rfl]
  refine ⟨_,(ai (aT (i:=2) jY.nd rfl (Or.inr rfl) xQ)
   (ai (kc PassesOwn.never rfl (fq rfl T.range (aa (bN nc (aJ cN (cP (aa aj (aa aj (aa aj (aa aj (aa aj (aa aj (aa aj ah)))))))) (au aq.ok (hr.mono (by first | decide | omega)) rfl aq.mm aq.kp aq.b .nil aB (aa (pv 0) (aa aj ah))) (fun _ _=>rfl)) (aU qH (by rfl) T.int boot_int (aa (eF (jO (uN hr)) (pv 1) (cP ah) (aR _)) ah))) ah)) (aP (i:=3) jY.nd rfl (Or.inl rfl)) (aA (Cg hu (pv 2) (aJ cN (pv 1) (au aq.ok (hr.mono (by first | decide | omega)) rfl aq.mm aq.kp aq.b .nil aB (aa (pv 0) (aa (bA bR (by rfl) T.len PySem.boot_len (aa (pv 1) ah)) ah))) (fun _ _=>rfl)) (aJ cN (cP (aa aj (aa aj (aa aj (aa (vf pP aj) (aa (vf pP aj) (aa aj (aa (vf pP aj) (aa aj ah))))))))) (au aq.ok (hr.mono (by first | decide | omega)) rfl aq.mm aq.kp aq.b .nil aB (aa (pv 0) (aa aj ah))) (fun _ _=>rfl)) rfl)))
   (ai (aT (i:=4) jY.nd rfl (Or.inl rfl) (aJ cN (cP (aa aj (aa aj (aa aj (aa (vf pP aj) (aa (bN m8 (au aq.ok (hr.mono (by first | decide | omega)) rfl aq.mm aq.kp aq.b .nil aB (aa (pv 0) (aa aj ah))) aj) (aa (au aq.ok (hr.mono (by first | decide | omega)) rfl aq.mm aq.kp aq.b .nil aB (aa (pv 0) (aa aj ah))) ah))))))) (bN iK (au aq.ok (hr.mono (by first | decide | omega)) rfl aq.mm aq.kp aq.b .nil aB (aa (pv 0) (aa aj ah))) aj) (fun _ _=>rfl)))
   (aA (aM (aS (aa (aU aK (by rfl) T.tuple boot_tuple (aa (cK (br ["_law_thing"] ["_law_found"] [2] rfl (by decide +kernel) (by decide +kernel) (by with_unfolding_all rfl) (by exact ⟨rfl,trivial⟩) (by rfl) rfl (by rfl)) rfl (gp (bA (pF rfl) (by rfl) T.sorted boot_sorted (aa (pv 2) ah))) (fun _ _ _ _=>(aP (i:=0) (show List.Nodup (["_law_thing","_law_found"]:List Str) by decide +kernel) rfl (Or.inl rfl) (Or.inr rfl))) (fun _ _ _ _=>cy) (fun _ _ _ _=>(aS (aa (pv 0) (aa (wg hu (pv 1) (pv 0) (fun _ _=>rfl)) ah))))) ah)) (aa (pv 4) ah)))))))),?_⟩
  have two:2≤sizeLine:=Nat.le_of_lt (line 2 (by decide))
  have Hr:l≠d:=by
   obtain ⟨x,y,ed⟩:=hd
   refine vq hl ed fun z=>?_
   cases xs with
   | nil=>cases z
   | cons a b=>cases z
  intro fd hfd
  have Np:fd≠d:=hd.ne hfd
  have d1:Dr (upd H fd (.dK [])) d:=hd.same (new hfd)
  refine ⟨(szl 7),fun q0 Bt=>?_⟩
  have PN:q0≠d:=d1.ne Bt
  refine (cV rfl ⟨d,7,rfl,d1.same (new Bt),(by decide),fun r0 H1 h0 b1 d2=>?_⟩)
  obtain ⟨w0,hw0,w1,w2⟩:=MD (r:=r0) (by omega)
  refine (cL (bS.of (b1 _ _ af PN)) (bI hw0) ?_)
  have JL:H1 l=some (.lst (xs.map V.str)):=b1 _ _ (new Bt _ _ (new hfd _ _ hl)) Hr
  have ef1:H1 fd=some (.dK (enc [])):=b1 _ _ (new Bt _ _ af) Np
  have F1:bz d H H1:=(((bz.of (new hfd)).new Bt).trans b1)
  refine (cV rfl ⟨(Nat.zero_le _),fun e0 Qz=>?_⟩)
  refine ⟨l,e0,cV rfl ⟨rfl,bS.of (new Qz _ _ JL),bS.of af,?_⟩⟩
  generalize hb:(!decide (xs.map V.str=[]))=bb
  refine .inr ⟨bb,rfl,_,cV rfl ⟨rfl,.inl ⟨by omega,by omega⟩,?_⟩⟩
  obtain ⟨w9,e01,w9a,w9b,w9c⟩:∃w9:Int,w0*(if bb=true then 1 else 0)=w9∧0≤w9∧w9≤3∧(0<w9→1≤xs.length):=by
   cases bb
   ·exact ⟨0,by simp,by decide,by decide,fun h=>absurd h (by decide)⟩
   ·refine ⟨w0,by simp,by omega,by omega,fun _=>?_⟩
    cases xs with
    | nil=>cases hb
    | cons a b=>show 1≤b.length+1;omega
  refine ⟨w9,congrArg (fun z=>[V.int z]) e01,by omega,by omega,jR (n:=w9.toNat) (fun i σ H'=>∃(e:Ps) (k:Option V),σ=[some (.ref d),some (.ref l),some (.ref fd),k,none]∧bz d H H'∧Dr H' d∧H' l=some (.lst (xs.map V.str))∧H' fd=some (.dK (enc e))∧e.length≤i∧Tb e∧∀p∈e,p.1∈xs) ⟨[],none,rfl,F1.new Qz,d2.same (new Qz),new Qz _ _ JL,new Qz _ _ ef1,Nat.le_refl _,Tb.nil,fun _ h=>nomatch h⟩ ?_ ?_⟩
  ·rintro i σ H3 hi ⟨e,k3,rfl,F,D,en,ef,el,tb,em⟩
   have lz:(xs.map V.str).length=xs.length:=List.length_map ..
   have Qw:1≤xs.length:=w9c (by omega)
   refine (cV rfl (cV rfl (cV rfl ⟨(szl 8),fun q2 hq2=>?_⟩)))
   have Dh:q2≠d:=D.ne hq2
   refine (cV rfl ⟨d,8,rfl,D.same (new hq2),(by decide),fun r2 H5 h2 b5 d5=>?_⟩)
   obtain ⟨w,hw,w0',ws⟩:=N8 (r:=r2) (by omega)
   refine (cL (bS.of (b5 _ _ af Dh)) (bI hw) ?_)
   have el5:H5 l=some (.lst (xs.map V.str)):=b5 _ _ (new hq2 _ _ en) Hr
   have ef5:H5 fd=some (.dK (enc e)):=b5 _ _ (new hq2 _ _ ef) Np
   refine (cV rfl (cV rfl (cV rfl (cV rfl ⟨l,cV rfl ⟨.inl (bS.of el5),d,cV rfl ⟨d5,(by rw [lz];omega),fun r3 H6 h3 b6 d6=>?_⟩⟩⟩))))
   have hr3:r3<xs.length:=by omega
   have el6:H6 l=some (.lst (xs.map V.str)):=b6 _ _ el5 Hr
   have ef6:H6 fd=some (.dK (enc e)):=b6 _ _ ef5 Np
   have hmx:xs[r3]∈xs:=List.getElem_mem hr3
   refine (cL (bS.of el6) (bI (gC hr3)) ⟨fd,cV rfl ⟨DU.k (k:=Sum.inr xs[r3]) ef6 (by rw [sr];exact line _ (by omega)),?_⟩⟩)
   have F6:bz d H H6:=((F.new hq2).trans b5).trans b6
   have hlx:xs[r3].length≤100:=JG _ hmx
   refine ⟨put e xs[r3] w,cV rfl ⟨fun b o z n=>?_,?_,?_,?_,?_,tb.put w0' ws hlx,fun p hp=>(Cf hp).elim (em p) fun z=>z▸hmx⟩⟩
   ·rw [aY (aE z hfd)]
    exact F6 b o z n
   ·obtain ⟨x5,y5,e5⟩:=d6
    exact ⟨x5,y5,by rw [aY Np.symm];exact e5⟩
   ·rw [aY (vq el6 ef6 (by intro w;cases w))]
    exact el6
   ·rw [af]
    exact congrArg (fun z=>some (HO.dK z)) (CF e _ _)
   ·have:=Cq e xs[r3] w
    omega
  rintro σ H3 ⟨e,k3,rfl,F,D,en,ef,el,tb,em⟩
  have Q7:e.length≤3:=by omega
  refine (cV rfl (cV rfl ⟨d,19,rfl,D,(by decide),fun r4 H4 h4 b4 d4=>⟨_,cV rfl ⟨rfl,?_⟩⟩⟩))
  refine (cV rfl ⟨d,999999999,rfl,d4,(by decide),fun r5 H5 h5 b5 d5=>⟨(szl 6),fun q hq=>?_⟩⟩)
  have nq:q≠d:=d5.ne hq
  refine (cV rfl ⟨d,12,rfl,d5.same (new hq),(by decide),fun r6 H6 h6 b6 d6=>⟨_,cV rfl ⟨rfl,(by show (0:Int)<6;decide),?_⟩⟩⟩)
  obtain ⟨z,hz,zs⟩:=W4 (a:=(r4:Int)-9) (b:=(r5:Int)) ⟨by omega,by omega⟩ ⟨by omega,by omega⟩ (r6:Int)
  refine (cL (bS.of (b6 _ _ af nq)) hz ?_)
  have ef4:H6 fd=some (.dK (enc e)):=b6 _ _ (new hq _ _ (b5 _ _ (b4 _ _ ef Np) Np)) Np
  have F4:bz d H H6:=(((F.trans b4).trans b5).new hq).trans b6
  refine (cV rfl ⟨fd,_,keys e,rfl,ef4,yk e,(by rw [sr];omega),fun ll ys UE hp hso=>⟨ll,rfl,⟨_,bS.of af⟩,?_⟩⟩)
  have yl:ys.length≤3:=by
   rw [hp.length_eq]
   unfold keys
   rw [List.length_map]
   exact Q7
  refine eS (xs:=ys.map V.str) (fun i out H'=>aH (upd H6 ll (.lst (ys.map V.str))) H'∧yD H' out ((ys.take i).map fun t=>(t,get e t))) ⟨aH.refl _,.nil⟩ (fun i out H' _ q=>bS.of (q.1 _ _ af)) ?_ ?_
  ·rintro i v out H' hi ⟨sm,pr⟩
   obtain ⟨y,hy,rfl⟩:∃y,ys[i]?=some y∧v=V.str y:=by
    rw [List.getElem?_map] at hi
    cases q:ys[i]? with
    | none=>rw [q] at hi;cases hi
    | some y=>rw [q] at hi;cases hi;exact ⟨y,rfl,rfl⟩
   have hil:i<ys.length:=(List.getElem?_eq_some_iff.mp hy).1
   have hm:y∈keys e:=hp.mem_iff.mp (List.mem_of_getElem? hy)
   have LI:H' fd=some (.dK (enc e)):=sm _ _ (new UE _ _ ef4)
   refine ⟨Ext.one,gk (cV rfl (cV rfl (cV rfl ⟨fd,cV rfl ⟨tY LI hm,two,fun q hq=>⟨?_,aH.new sm hq,?_⟩⟩⟩)))⟩
   ·rw [kg pr,List.length_map,List.length_take]
    exact line _ (by omega)
   ·rw [take_snoc hy,List.map_append]
    exact rZ (pr.keep fun _ _ z=>new hq _ _ z) (oF ⟨q,rfl,af⟩)
  rintro out H' ⟨sm,pr⟩ q' hq'
  rw [List.length_map,List.take_length] at pr
  refine ⟨q',cV rfl (.inl ⟨bS.of af,fun t ht=>?_⟩)⟩
  refine (cV rfl ⟨two,fun r hr'=>?_⟩)
  have s0:aH H6 H':=fun b o z=>sm b o (new UE b o z)
  have s1:=aH.new (o:=.lst out) s0 hq'
  have s2:=aH.new (o:=.tup out) s1 ht
  have s3:=aH.new (o:=.tup [.ref t,.int z]) s2 hr'
  have sh:=tb.short hp (by omega)
  refine k r (ys.map fun t=>(t,get e t)) z _ (F4.trans (bz.of s3)) (d6.same s3) ⟨t,af,out,?_,pr.keep fun _ _ z=>new hr' _ _ (new ht _ _ (new hq' _ _ z))⟩ (tb.canon hp hso) ⟨by rw [List.length_map];exact yl,fun p hp'=>(sh.2 p hp').1⟩ (fun p hp'=>?_) zs
  ·rw [aY (aE af hr')]
   exact af
  ·obtain ⟨y,hy,rfl⟩:=List.mem_map.mp hp'
   exact em _ (get_mem (hp.mem_iff.mp hy))
abbrev kZ:Stmt:=top 36
theorem fm:aQ ["_law_draw","_law_things","_law_deep","_law_kind","_law_sign","_law_many","_law_parts"] ["_law_draw","_law_things","_law_deep"] (ak kZ):=⟨rfl,rfl,rfl,by decide +kernel,rfl,by decide +kernel,by decide +kernel⟩
theorem wk {f:Addr} {fd:FuncData} {Y:Cy} {fS:Addr} {n:Nat} (F:dX K "_law_condition" "_law_condition" kZ f fd) (T:Txt K mg Y.z.s) (U:dW K mg Y.z) (J:eW K mg Y fS) (aq:Dn P w K mg base 2 "_law_next" ["_law_draw","_law_size"] dJ) (aZ:Dn P w K mg base 3 "_law_sum" ["_law_draw","_law_things"] fM) (az:Dn P w K mg base (n+3) "_law_condition" ["_law_draw","_law_things","_law_deep"] (cU n)):bH P w K mg base dg (n+4) f fd ["_law_draw","_law_things","_law_deep"] (cU (n+1)):=by
 refine F.ok fm (fun vs H Q E h=>?_) (fun cdv A outer s H vs Q E hr h=>?_)
 ·obtain ⟨d,l,k0,xs,rfl,hk,hd,hl,hx,JG,k⟩:=h
  rfl
 ·obtain ⟨d,l,k0,xs,rfl,hk,hd,hl,hx,JG,k⟩:=h
  have hu:=bh hr
  rw [show av kZ=[_,_,_,_,_,_] from rfl]
  refine ⟨_,(ai (aT (i:=3) fm.nd rfl (Or.inl rfl) (au aq.ok (hr.mono (by first | decide | omega)) rfl aq.mm aq.kp aq.b .nil aB (aa (pv 0) (aa aj ah))))
   (ai (cH (PW.pt (kE (aN cS (pv 2) aj (aR _)) (ja (aN Gw (pv 3) aj (aR _))))) (ai (aT (i:=4) fm.nd rfl (Or.inl rfl) (aJ cN (cP (oJ (xs:=["<","<=","=","!=",">=",">"]) rfl)) (au aq.ok (hr.mono (by first | decide | omega)) rfl aq.mm aq.kp aq.b .nil aB (aa (pv 0) (aa aj ah))) (fun _ _=>rfl)))
   (aA (aM (aS (aa bf (aa (au aZ.ok (hr.mono (by first | decide | omega)) rfl aZ.mm aZ.kp aZ.b .nil aB (aa (pv 0) (aa (pv 1) ah))) (aa (pv 4) (aa (au aZ.ok (hr.mono (by first | decide | omega)) rfl aZ.mm aZ.kp aZ.b .nil aB (aa (pv 0) (aa (pv 1) ah))) ah)))))))) bw)
   (ai (cH (aN cS (pv 3) aj (aR _)) (aA (aM (aS (aa bf (aa (au az.ok (hr.mono (by first | decide | omega)) rfl az.mm az.kp az.b .nil aB (aa (pv 0) (aa (pv 1) (aa (bN m8 (pv 2) aj) ah)))) ah))))) bw)
   (ai (aT (i:=5) fm.nd rfl (Or.inl rfl) (bN gx aj (bN nc (bN oM (au aq.ok (hr.mono (by first | decide | omega)) rfl aq.mm aq.kp aq.b .nil aB (aa (pv 0) (aa aj ah))) aj) (aU qH (by rfl) T.int boot_int (aa (eF cS (pv 2) aj (aR _)) ah)))))
   (ai (jx (i:=6) fm.nd rfl (Or.inl rfl) (br ["_law_k"] ["_law_draw","_law_things","_law_deep"] [0,1,2] rfl (by decide +kernel) (by decide +kernel) (by with_unfolding_all rfl) (by exact ⟨rfl,rfl,rfl,trivial⟩) (by rfl) rfl (by rfl)) rfl (fq rfl T.range (aa (pv 5) ah)) (fun _ _ _ _=>(aP (i:=0) (show List.Nodup (["_law_k","_law_draw","_law_things","_law_deep"]:List Str) by decide +kernel) rfl (Or.inl rfl) (Or.inr rfl))) (fun _ _ _ _=>cy) (fun _ _ _ _=>(au az.ok (hr.mono (by first | decide | omega)) rfl az.mm az.kp az.b .nil aB (aa (pv 1) (aa (pv 2) (aa (bN m8 (pv 3) aj) ah))))))
   (aA (aM (bN ki (aS (aa (aJ cN (cP (aa bf (aa bf ah))) (bN iK (pv 3) aj) (fun _ _=>rfl)) ah)) (aU aK (by rfl) T.tuple boot_tuple (aa (pv 6) ah)))))))))),?_⟩
  have Hr:l≠d:=by
   obtain ⟨x,y,ed⟩:=hd
   refine vq hl ed fun z=>?_
   cases xs with
   | nil=>cases z
   | cons a b=>cases z
  refine (cV rfl ⟨d,8,rfl,hd,(by decide),fun r0 H1 h0 b1 d1=>?_⟩)
  have JL:H1 l=some (.lst (xs.map V.str)):=b1 _ _ hl Hr
  by_cases hz:k0=0
  ·refine (cV rfl ⟨rfl,cV rfl (cW (by rw [hz];rfl) (qD ?_))⟩)
   refine ⟨(szl 6),fun q0 Bt=>?_⟩
   have PN:q0≠d:=d1.ne Bt
   refine (cV rfl ⟨d,6,rfl,d1.same (new Bt),(by decide),fun r2 H2 h2 b2 d2=>?_⟩)
   obtain ⟨sg,hsg,hs⟩:=signs_at (r:=r2) (by omega)
   refine (cL (bS.of (b2 _ _ af PN)) (bI hsg) ?_)
   have Eb:H2 l=some (.lst (xs.map V.str)):=b2 _ _ (new Bt _ _ JL) Hr
   refine (cV rfl (cV rfl ⟨d,l,xs,rfl,d2,Eb,hx,JG,fun ra a n1 H3 b3 d3 Da Ca La Ia Sa=>?_⟩))
   have Q7:H3 l=some (.lst (xs.map V.str)):=b3 _ _ Eb Hr
   refine (cV rfl (cV rfl (cV rfl ⟨d,l,xs,rfl,d3,Q7,hx,JG,fun rb b m1 H4 b4 d4 Db Cb Lb Ib Sb=>?_⟩)))
   refine ⟨(szl 4),fun r hr'=>?_⟩
   refine k (.ref r) (.cmp a n1 sg b m1) _ (((((b1.new Bt).trans b2).trans b3).trans b4).new hr') (d4.same (new hr')) ?_ (by unfold Cd.dep;omega) (by unfold Gd;exact ⟨⟨Ca,La,Ia,Sa⟩,hs,⟨Cb,Lb,Ib,Sb⟩⟩)
   unfold bg
   exact ⟨r,ra,rb,rfl,af,(Da.ao (d3.soft b4)).ao (ay.of (new hr')),Db.ao (ay.of (new hr'))⟩
  refine (cV rfl ⟨rfl,cV rfl (bC (fun e=>hz (by have:=V.int.inj e;omega)) ?_)⟩)
  by_cases h5:r0<5
  ·refine (cV rfl ⟨_,cV rfl ⟨rfl,cV rfl (cW (by omega) ?_)⟩⟩)
   refine ⟨(szl 6),fun q0 Bt=>?_⟩
   have PN:q0≠d:=d1.ne Bt
   refine (cV rfl ⟨d,6,rfl,d1.same (new Bt),(by decide),fun r2 H2 h2 b2 d2=>?_⟩)
   obtain ⟨sg,hsg,hs⟩:=signs_at (r:=r2) (by omega)
   refine (cL (bS.of (b2 _ _ af PN)) (bI hsg) ?_)
   have Eb:H2 l=some (.lst (xs.map V.str)):=b2 _ _ (new Bt _ _ JL) Hr
   refine (cV rfl (cV rfl ⟨d,l,xs,rfl,d2,Eb,hx,JG,fun ra a n1 H3 b3 d3 Da Ca La Ia Sa=>?_⟩))
   have Q7:H3 l=some (.lst (xs.map V.str)):=b3 _ _ Eb Hr
   refine (cV rfl (cV rfl (cV rfl ⟨d,l,xs,rfl,d3,Q7,hx,JG,fun rb b m1 H4 b4 d4 Db Cb Lb Ib Sb=>?_⟩)))
   refine ⟨(szl 4),fun r hr'=>?_⟩
   refine k (.ref r) (.cmp a n1 sg b m1) _ (((((b1.new Bt).trans b2).trans b3).trans b4).new hr') (d4.same (new hr')) ?_ (by unfold Cd.dep;omega) (by unfold Gd;exact ⟨⟨Ca,La,Ia,Sa⟩,hs,⟨Cb,Lb,Ib,Sb⟩⟩)
   unfold bg
   exact ⟨r,ra,rb,rfl,af,(Da.ao (d3.soft b4)).ao (ay.of (new hr')),Db.ao (ay.of (new hr'))⟩
  refine (cV rfl ⟨_,cV rfl ⟨rfl,cV rfl (bC (by omega) ?_)⟩⟩)
  have ek:∀j:Int,j=(k0:Int)-1→[V.ref d,V.ref l,V.int j]=[V.ref d,V.ref l,V.int ((k0-1:Nat):Int)]:=fun j e=>by rw [e,show ((k0:Int)-1)=((k0-1:Nat):Int) by omega]
  by_cases h6:r0=5
  ·refine (cV rfl ⟨rfl,cV rfl (cW (by rw [h6];rfl) ?_)⟩)
   refine (cV rfl (cV rfl (cV rfl ⟨_,cV rfl ⟨rfl,d,l,k0-1,xs,ek _ rfl,by omega,d1,JL,hx,JG,fun v c H2 b2 d2 ht ID hg=>?_⟩⟩)))
   refine ⟨(szl 2),fun r hr'=>?_⟩
   refine k (.ref r) (.neg c) _ ((b1.trans b2).new hr') (d2.same (new hr')) ?_ (by unfold Cd.dep;omega) (by unfold Gd;exact hg)
   unfold bg
   exact ⟨r,v,rfl,af,ht.ao (ay.of (new hr'))⟩
  refine (cV rfl ⟨rfl,cV rfl (bC (fun e=>h6 (by have:=V.int.inj e;omega)) ?_)⟩)
  refine (cV rfl ⟨d,4,rfl,d1,(by decide),fun r3 H2 h3 b2 d2=>⟨_,cV rfl ⟨rfl,⟨by decide,by decide⟩,?_⟩⟩⟩)
  refine (cV rfl ⟨rfl,.inr ⟨decide (V.int (k0:Int)=V.int 1),rfl,_,cV rfl ⟨rfl,.inl ⟨by omega,by omega⟩,?_⟩⟩⟩)
  have Eb:H2 l=some (.lst (xs.map V.str)):=b2 _ _ JL Hr
  refine ⟨_,cV rfl ⟨rfl,?_⟩⟩
  obtain ⟨m,em,m1,m2,m3⟩:∃m:Nat,(2:Int)+(r3:Int) / 3*(if decide (V.int (k0:Int)=V.int 1)=true then 1 else 0)=(m:Int)∧1≤m∧m≤3∧(k0=1∨m≤2):=by
   by_cases q:decide (V.int (k0:Int)=V.int 1)=true
   ·rw [if_pos q]
    exact ⟨(2+(r3:Int) / 3*1).toNat,by omega,by omega,by omega,.inl (by have:=V.int.inj (of_decide_eq_true q);omega)⟩
   ·rw [if_neg q]
    exact ⟨2,by omega,by omega,by omega,.inr (by omega)⟩
  refine (cV rfl ⟨(m:Int),congrArg (fun z=>[V.int z]) em,by omega,by omega,iu (n:=(m:Int).toNat) (fun i ys H'=>bz d H H'∧Dr H' d∧H' l=some (.lst (xs.map V.str))∧∃cs,dB H' cs ys∧cs.length=i∧oX cs≤k0∧DR xs cs) ⟨b1.trans b2,d2,Eb,[],(by unfold dB;rfl),rfl,Nat.zero_le _,(by unfold DR;trivial)⟩ ?_ ?_⟩)
  ·rintro i ys H' hi ⟨F,D,en,cs,ht,lc,dc,gc⟩
   have mH:ys.length=i:=by rw [aD (cC.mp ht),lc]
   refine ⟨Ext.one,gk (cV rfl (cV rfl (cV rfl ⟨_,cV rfl ⟨rfl,d,l,k0-1,xs,ek _ rfl,by omega,D,en,hx,JG,fun v c H5 b5 d5 Kr ID hg=>⟨line _ (by omega),F.trans b5,d5,b5 _ _ en Hr,cs++[c],?_,?_,?_,ye gc hg⟩⟩⟩)))⟩
   ·exact cC.mpr (bx (cC.mp (ht.ao (D.soft b5))) Kr)
   ·rw [List.length_append,lc];rfl
   ·rw [vB];omega
  rintro ys H' ⟨F,D,en,cs,ht,lc,dc,gc⟩ q hq
  have mH:ys.length=cs.length:=aD (cC.mp ht)
  have lc3:cs.length≤3:=by omega
  have two:2≤sizeLine:=Nat.le_of_lt (line 2 (by decide))
  refine ⟨two,fun q1 hq1=>?_⟩
  obtain ⟨b,hb⟩:=MQ (r0:Int)
  refine (cV rfl ⟨_,cV rfl ⟨rfl,(by show (0:Int)<2;decide),cL (bS.of af) hb ⟨Nat.le_of_lt (line 1 (by decide)),fun r1 hr1=>?_⟩⟩⟩)
  have s1:=(new (o:=.lst ys) hq).trans ((new (o:=.lst [V.str "and",.str "or"]) hq1).trans (new (o:=.tup [V.str (DY b)]) hr1))
  have eq':upd (upd (upd H' q (.lst ys)) q1 (.lst [V.str "and",.str "or"])) r1 (.tup [V.str (DY b)]) q=some (.lst ys):=new hr1 _ _ (new hq1 _ _ af)
  refine (cV rfl ⟨q,cV rfl (.inl ⟨bS.of eq',fun r2 hr2=>?_⟩)⟩)
  have s2:=s1.trans (new (o:=.tup ys) hr2)
  refine ⟨r1,r2,_,cV rfl ⟨rfl,aW.of (new hr2 _ _ af),aW.of af,(by show 1+ys.length≤sizeLine;exact Nat.le_of_lt (line _ (by omega))),?_,?_,?_⟩⟩
  ·intro z;cases z
  ·intro _ z
   exfalso
   rw [z] at mH
   have:(0:Nat)=cs.length:=mH
   omega
  ·intro _ _ r hr'
   refine k (.ref r) (.con b cs) _ ((F.trans (bz.of s2)).new hr') ((D.same s2).same (new hr')) ?_ (by unfold Cd.dep;omega) (by unfold Gd;exact ⟨lc3,gc⟩)
   unfold bg
   exact ⟨r,ys,rfl,af,(ht.ao (ay.of s2)).ao (ay.of (new hr'))⟩
abbrev tN:Stmt:=top 44
theorem mC:aQ ["_law_conditions","_law_draw"] ["_law_conditions","_law_draw"] (ak tN):=⟨rfl,rfl,rfl,by decide +kernel,rfl,by decide +kernel,by decide +kernel⟩
theorem MZ {f:Addr} {fd:FuncData} {Y:Cy} {fS:Addr} {n:Nat} (F:dX K "_law_pairs_placed" "_law_pairs_placed" tN f fd) (T:Txt K mg Y.z.s) (U:dW K mg Y.z) (J:eW K mg Y fS) (aq:Dn P w K mg base 2 "_law_next" ["_law_draw","_law_size"] dJ):bH P w K mg base dg 3 f fd ["_law_conditions","_law_draw"] xF:=by
 refine F.ok mC (fun vs H Q E h=>?_) (fun cdv A outer s H vs Q E hr h=>?_)
 ·obtain ⟨v,d,hs,rfl,hR,hd,hl,k⟩:=h
  rfl
 ·obtain ⟨v,d,hs,rfl,hR,hd,hl,k⟩:=h
  have hu:=bh hr
  rw [show av tN=[_] from rfl]
  refine ⟨_,(aA (aM (aU aK (by rfl) T.tuple boot_tuple (aa (cK (br ["_law_one"] ["_law_draw"] [1] rfl (by decide +kernel) (by decide +kernel) (by with_unfolding_all rfl) (by exact ⟨rfl,trivial⟩) (by rfl) rfl (by rfl)) rfl (eX (pv 0)) (fun _ _ _ _=>(aP (i:=0) (show List.Nodup (["_law_one","_law_draw"]:List Str) by decide +kernel) rfl (Or.inl rfl) (Or.inr rfl))) (fun _ _ _ _=>cy) (fun _ _ _ _=>(aS (aa (au aq.ok (hr.mono (by first | decide | omega)) rfl aq.mm aq.kp aq.b .nil aB (aa (pv 1) (aa aj ah))) (aa (pv 0) ah))))) ah)))),?_⟩
  obtain ⟨t,us,rfl,et,hp⟩:=hR
  have nJ:=aD hp
  have ntd:t≠d:=fun z=>by obtain ⟨x,y,e⟩:=hd;rw [z,e] at et;cases et
  refine (cV rfl ⟨t,rfl,⟨us,aW.of et⟩,cT (xs:=us) (fun i ys H'=>bz d H H'∧Dr H' d∧∃hs':List (Int×Cd),Paired (fun u (q:Int×Cd)=>∃r w,u=V.ref r∧H' r=some (.tup [.int q.1,w])∧bg H' q.2 w) ys hs'∧hs'.map (·.2)=(hs.take i).map (·.2)) ⟨fun _ _ z _=>z,hd,[],.nil,rfl⟩ (fun i ys H' _ q=>aW.of (q.1 _ _ et ntd)) ?_ ?_⟩)
  ·rintro i x ys H' hix ⟨F,D,hs',py,em⟩
   obtain ⟨c,fK,hx⟩:=bB hp hix
   have wR:=(List.getElem?_eq_some_iff.mp fK).1
   have mH:ys.length≤i:=by
    have z:=congrArg List.length em
    rw [List.length_map,List.length_map,List.length_take] at z
    rw [aD py]
    omega
   refine ⟨Ext.one,gk (cV rfl ⟨d,200,rfl,D,(by decide),fun r1 H1 h1 b1 d1=>(cV rfl ⟨(szl 2),fun q hq=>⟨line _ (by omega),(F.trans b1).new hq,d1.same (new hq),hs'++[((r1:Int),c.2)],?_,?_⟩⟩)⟩)⟩
   ·have k1:ay H' H1:=D.soft b1
    exact bx (L2.Paired.cQ py fun _ _ ⟨r,w,e,er,d'⟩=>⟨r,w,e,new hq _ _ (k1.t _ _ er),(d'.ao k1).ao (ay.of (new hq))⟩) ⟨q,x,rfl,af,((bg.ao (hd.soft F) hx).ao k1).ao (ay.of (new hq))⟩
   ·rw [List.map_append,em,take_snoc fK,List.map_append]
    rfl
  rintro ys H' ⟨F,D,hs',py,em⟩ q hq
  rw [nJ,List.take_length] at em
  refine ⟨q,cV rfl (.inl ⟨bS.of af,fun r hr'=>?_⟩)⟩
  have s3:aH H' (upd (upd H' q (.lst ys)) r (.tup ys)):=aH.new (new hq) hr'
  refine k (.ref r) hs' _ ((F.new hq).new hr') (D.same s3) ⟨r,ys,rfl,af,L2.Paired.cQ py fun _ _ ⟨r',w',e,e',d'⟩=>⟨r',w',e,s3 _ _ e',d'.ao (ay.of s3)⟩⟩ ?_ fun hc q hq=>?_
  ·have z:=congrArg List.length em
   rw [List.length_map,List.length_map] at z
   exact z
  ·have m:q.2∈hs.map (·.2):=em▸List.mem_map.mpr ⟨q,hq,rfl⟩
   obtain ⟨q',hq',e⟩:=List.mem_map.mp m
   rw [←e]
   exact hc q' hq'
abbrev qU:Stmt:=top 43
theorem ou:aQ ["_law_steps_here","_law_draw"] ["_law_steps_here","_law_draw"] (ak qU):=⟨rfl,rfl,rfl,by decide +kernel,rfl,by decide +kernel,by decide +kernel⟩
theorem GK {f:Addr} {fd:FuncData} {Y:Cy} {fS:Addr} {n:Nat} (F:dX K "_law_all_placed" "_law_all_placed" qU f fd) (T:Txt K mg Y.z.s) (U:dW K mg Y.z) (J:eW K mg Y fS) (oZ:Dn P w K mg base (2*n+5) "_law_placed" ["_law_step_here","_law_draw"] (EK n)):bH P w K mg base dg (2*n+6) f fd ["_law_steps_here","_law_draw"] (BU n):=by
 refine F.ok ou (fun vs H Q E h=>?_) (fun cdv A outer s H vs Q E hr h=>?_)
 ·obtain ⟨t,d,us,l,rfl,et,hR,ho,ID,hl,hd,k⟩:=h
  rfl
 ·obtain ⟨t,d,us,l,rfl,et,hR,ho,ID,hl,hd,k⟩:=h
  have hu:=bh hr
  rw [show av qU=[_] from rfl]
  refine ⟨_,(aA (aM (aU aK (by rfl) T.tuple boot_tuple (aa (cK (br ["_law_step_here"] ["_law_draw"] [1] rfl (by decide +kernel) (by decide +kernel) (by with_unfolding_all rfl) (by exact ⟨rfl,trivial⟩) (by rfl) rfl (by rfl)) rfl (eX (pv 0)) (fun _ _ _ _=>(aP (i:=0) (show List.Nodup (["_law_step_here","_law_draw"]:List Str) by decide +kernel) rfl (Or.inl rfl) (Or.inr rfl))) (fun _ _ _ _=>cy) (fun _ _ _ _=>(au oZ.ok (hr.mono (by first | decide | omega)) rfl oZ.mm oZ.kp oZ.b .nil aB (aa (pv 0) (aa (pv 1) ah))))) ah)))),?_⟩
  have hp:=gY.mp hR
  have nJ:=aD hp
  have ntd:t≠d:=fun z=>by obtain ⟨x,y,e⟩:=hd;rw [z,e] at et;cases et
  refine (cV rfl ⟨t,rfl,⟨us,aW.of et⟩,cT (xs:=us) (fun i ys H'=>bz d H H'∧Dr H' d∧∃l':List cO,gA H' l' ys∧qW l'∧ir l'=ir (l.take i)∧l'.length=i) ⟨fun _ _ z _=>z,hd,[],(by unfold gA;rfl),(by unfold qW;trivial),rfl,rfl⟩ (fun i ys H' _ q=>aW.of (q.1 _ _ et ntd)) ?_ ?_⟩)
  ·rintro i x ys H' hix ⟨F,D,l',py,ok',Vl,ll⟩
   obtain ⟨c,fK,hx⟩:=bB hp hix
   have oU:=List.mem_of_getElem? fK
   have wR:=(List.getElem?_eq_some_iff.mp fK).1
   have mH:=aD (fY.mp py)
   have dd:=lT oU
   refine ⟨Ext.one,gk (cV rfl (cV rfl ⟨x,d,c,rfl,lV.ao (hd.soft F) hx,oN ho oU,by omega,D,fun v' s' H1 b1 d1 hv o1 e1=>⟨line _ (by omega),F.trans b1,d1,l'++[s'],?_,tX ok' o1,?_,?_⟩⟩))⟩
   ·exact fY.mpr (bx (fY.mp (gA.ao (D.soft b1) py)) hv)
   ·rw [take_snoc fK,mh,mh,Vl,e1]
   ·rw [List.length_append,ll];rfl
  rintro ys H' ⟨F,D,l',py,ok',Vl,ll⟩ q hq
  rw [nJ,List.take_length] at Vl
  refine ⟨q,cV rfl (.inl ⟨bS.of af,fun r hr'=>?_⟩)⟩
  have s3:aH H' (upd (upd H' q (.lst ys)) r (.tup ys)):=aH.new (new hq) hr'
  exact k r ys l' _ ((F.new hq).new hr') (D.same s3) af (gA.ao (ay.of s3) py) ok' Vl (by omega)
abbrev xN:Stmt:=top 45
theorem iw:aQ ["_law_step_here","_law_draw","_law_at","_law_falls"] ["_law_step_here","_law_draw"] (ak xN):=⟨rfl,rfl,rfl,by decide +kernel,rfl,by decide +kernel,by decide +kernel⟩
theorem PK {f:Addr} {fd:FuncData} {Y:Cy} {fS:Addr} {n:Nat} (F:dX K "_law_placed" "_law_placed" xN f fd) (T:Txt K mg Y.z.s) (U:dW K mg Y.z) (J:eW K mg Y fS) (aq:Dn P w K mg base 2 "_law_next" ["_law_draw","_law_size"] dJ) (bQ:Dn P w K mg base 3 "_law_pairs_placed" ["_law_conditions","_law_draw"] xF) (bW:Dn P w K mg base (2*n+6) "_law_all_placed" ["_law_steps_here","_law_draw"] (BU n)):bH P w K mg base dg (2*n+7) f fd ["_law_step_here","_law_draw"] (EK (n+1)):=by
 refine F.ok iw (fun vs H Q E h=>?_) (fun cdv A outer s H vs Q E hr h=>?_)
 ·obtain ⟨v,d,s,rfl,hR,ho,ID,hd,k⟩:=h
  rfl
 ·obtain ⟨v,d,s,rfl,hR,ho,ID,hd,k⟩:=h
  have hu:=bh hr
  rw [show av xN=[_,_,_,_] from rfl]
  refine ⟨_,(ai (aT (i:=2) iw.nd rfl (Or.inl rfl) (au aq.ok (hr.mono (by first | decide | omega)) rfl aq.mm aq.kp aq.b .nil aB (aa (pv 1) (aa aj ah))))
   (ai (cH (aN cS (aJ aI (pv 0) aj (fun _ _=>rfl)) bf (aR _)) (aA (aM (aS (aa bf (aa (pv 2) (aa (aJ aI (pv 0) aj (fun _ _=>rfl)) (aa (au bW.ok (hr.mono (by first | decide | omega)) rfl bW.mm bW.kp bW.b .nil aB (aa (aJ aI (pv 0) aj (fun _ _=>rfl)) (aa (pv 1) ah))) (aa (au bW.ok (hr.mono (by first | decide | omega)) rfl bW.mm bW.kp bW.b .nil aB (aa (aJ aI (pv 0) aj (fun _ _=>rfl)) (aa (pv 1) ah))) ah)))))))) bw)
   (ai (cH (aN cS (aJ aI (pv 0) aj (fun _ _=>rfl)) bf (aR _)) (ai (aT (i:=3) iw.nd rfl (Or.inl rfl) gZ)
   (ai (cH (aN oK (aJ aI (pv 0) aj (fun _ _=>rfl)) gZ (aR _)) (aA (aT (i:=3) iw.nd rfl (Or.inl rfl) (aS (aa (au aq.ok (hr.mono (by first | decide | omega)) rfl aq.mm aq.kp aq.b .nil aB (aa (pv 1) (aa aj ah))) (aa (aJ aI (pv 0) aj (fun _ _=>rfl)) ah))))) bw)
   (aA (aM (aS (aa bf (aa (pv 2) (aa (aJ aI (pv 0) aj (fun _ _=>rfl)) (aa (au bQ.ok (hr.mono (by first | decide | omega)) rfl bQ.mm bQ.kp bQ.b .nil aB (aa (aJ aI (pv 0) aj (fun _ _=>rfl)) (aa (pv 1) ah))) (aa (pv 3) (aa (au bW.ok (hr.mono (by first | decide | omega)) rfl bW.mm bW.kp bW.b .nil aB (aa (aJ aI (pv 0) aj (fun _ _=>rfl)) (aa (pv 1) ah))) ah))))))))))) bw)
   (aA (aM (bN ki (aS (aa (aJ aI (pv 0) aj (fun _ _=>rfl)) (aa (pv 2) ah))) (eu kN (pv 0) (dO aj) iy))))))),?_⟩
  refine (cV rfl ⟨d,200,rfl,hd,(by decide),fun r0 H1 h0 b1 d1=>?_⟩)
  have k1:ay H H1:=hd.soft b1
  cases s with
  | flat kk at_ as =>
   unfold lV at hR
   obtain ⟨r,us,rfl,er,pa⟩:=hR
   have rA:=k1.t _ _ er
   have lpa:=aD pa
   have la:as.length≤4:=by
    unfold cO.ok at ho
    match kk,ho.1 with
    | 0,⟨_,_,_,e⟩=>rw [e];simp
    | 1,⟨_,_,_,_,_,_,e⟩=>rw [e];simp
    | 2,⟨_,_,_,_,e⟩=>rw [e];simp
    | 3,⟨_,_,_,_,_,e⟩=>rw [e];simp
    | 4,⟨_,_,_,e⟩=>rw [e];simp
    | 5,⟨_,e⟩=>rw [e];simp
    | 6,⟨_,_,_,e⟩=>rw [e];simp
   refine (cV rfl (cI (aW.of rA) (yK _ _) ⟨rfl,cV rfl (bC (bE (LC kk).1) ?_)⟩))
   refine (cV rfl (cI (aW.of rA) (yK _ _) ⟨rfl,cV rfl (bC (bE (LC kk).2) ?_)⟩))
   refine (cV rfl (cI (aW.of rA) (yK _ _) (cV rfl ⟨(szl 2),fun r1 hr1=>?_⟩)))
   have s1:=new (o:=.tup [.str (kw kk),.int (r0:Int)]) hr1
   refine (cV rfl (cV rfl ⟨r,cV rfl ⟨aW.of (s1 _ _ rA),Jk _ _,fun t qE=>?_⟩⟩))
   rw [Oi]
   have s2:=s1.trans (new (o:=.tup us) qE)
   have fin:∀(q:Addr) (H2:Hp),aH H1 H2→H2 q=some (.tup (.str (kw kk)::.int (r0:Int)::us))→Q (.ref q) H2:=fun q H2 s3 eq=>by
    refine k (.ref q) (.flat kk (r0:Int) as) H2 (b1.trans (bz.of s3)) (d1.same s3) ?_ (by unfold cO.ok at ho ⊢;exact ho) rfl
    unfold fE
    exact ⟨q,us,rfl,eq,L2.Paired.cQ pa fun _ _ z=>Jz.ao (ay.of s3) (Jz.ao k1 z)⟩
   refine ⟨r1,t,_,cV rfl ⟨rfl,aW.of (new qE _ _ af),aW.of af,(by show 2+us.length≤sizeLine;exact Nat.le_of_lt (line _ (by omega))),(fun z=>by cases z),fun _ z=>?_,fun _ _ q hq=>?_⟩⟩
   ·subst z
    exact fin r1 _ s2 (new qE _ _ af)
   ·exact fin q _ (s2.trans (new hq)) af
  | jD at_ c t e =>
   unfold lV at hR
   unfold cO.ok at ho
   unfold cO.dep at ID
   obtain ⟨r,uc,t1,t2,us,ws,rfl,er,hc,e1,h1,e2,h2⟩:=hR
   have rA:=k1.t _ _ er
   refine (cV rfl (cI (aW.of rA) rfl ⟨rfl,cV rfl (cW rfl ?_)⟩))
   refine (cV rfl (cV rfl (cI (aW.of rA) rfl ?_)))
   refine (cV rfl (cI (aW.of rA) rfl (cV rfl ⟨t1,d,us,t,rfl,k1.t _ _ e1,h1.ao k1,ho.2.2.2.1,by omega,ho.2.1,d1,fun q1 xr l1 H2 b2 d2 E1 P1 o1 dp1 TQ=>?_⟩)))
   have k2:ay H1 H2:=d1.soft b2
   refine (cV rfl (cI (aW.of (k2.t _ _ rA)) rfl (cV rfl ⟨t2,d,ws,e,rfl,k2.t _ _ (k1.t _ _ e2),(h2.ao k1).ao k2,ho.2.2.2.2,by omega,ho.2.2.1,d2,fun q2 pN l2 H3 b3 d3 E2 P2 o2 Rc TN=>?_⟩)))
   have k3:ay H2 H3:=d2.soft b3
   refine ⟨(szl 5),fun q hq=>?_⟩
   refine k (.ref q) (.jD (r0:Int) c l1 l2) _ (((b1.trans b2).trans b3).new hq) (d3.same (new hq)) ?_ (by unfold cO.ok;exact ⟨ho.1,by omega,by omega,o1,o2⟩) (by unfold cO.dep;rw [dp1,Rc])
   unfold fE
   exact ⟨q,uc,q1,q2,xr,pN,rfl,af,(((hc.ao k1).ao k2).ao k3).ao (ay.of (new hq)),new hq _ _ (k3.t _ _ E1),(P1.ao k3).ao (ay.of (new hq)),new hq _ _ E2,P2.ao (ay.of (new hq))⟩
  | rep at_ c hs f b =>
   unfold lV at hR
   unfold cO.ok at ho
   unfold cO.dep at ID
   obtain ⟨r,uc,uh,uf,t2,ws,rfl,er,hc,hh,hf,e2,h2⟩:=hR
   have rA:=k1.t _ _ er
   refine (cV rfl (cI (aW.of rA) rfl ⟨rfl,cV rfl (bC (bE (by decide +kernel)) ?_)⟩))
   refine (cV rfl (cI (aW.of rA) rfl ⟨rfl,cV rfl (cW rfl ?_)⟩))
   cases f with
   | none =>
    have hf:uf=V.dM:=hf
    subst hf
    refine (cV rfl (cI (aW.of rA) rfl ⟨rfl,cV rfl (jz rfl ?_)⟩))
    refine (cV rfl (cV rfl (cI (aW.of rA) rfl ?_)))
    refine (cV rfl (cI (aW.of rA) rfl (cV rfl ⟨uh,d,hs,rfl,hh.ao k1,d1,ho.2.1,fun v1 hs' H2 b2 d2 P1 TQ cg=>?_⟩)))
    have k2:ay H1 H2:=d1.soft b2
    refine (cV rfl ?_)
    refine (cV rfl (cI (aW.of (k2.t _ _ rA)) rfl (cV rfl ⟨t2,d,ws,b,rfl,k2.t _ _ (k1.t _ _ e2),(h2.ao k1).ao k2,ho.2.2.2.2.2,by omega,ho.2.2.2.2.1,d2,fun q2 pN l2 H3 b3 d3 E2 P2 o2 Rc TN=>?_⟩)))
    have k3:ay H2 H3:=d2.soft b3
    refine ⟨(szl 6),fun qq hq=>?_⟩
    refine k (.ref qq) (.rep (r0:Int) c hs' none l2) _ (((b1.trans b2).trans b3).new hq) (d3.same (new hq)) ?_ (by unfold cO.ok;exact ⟨ho.1,by omega,cg ho.2.2.1,(fun _ z=>nomatch z),by omega,o2⟩) (by unfold cO.dep;rw [Rc])
    unfold fE
    exact ⟨qq,uc,v1,.dM,q2,pN,rfl,af,(((hc.ao k1).ao k2).ao k3).ao (ay.of (new hq)),(P1.ao k3).ao (ay.of (new hq)),rfl,new hq _ _ E2,P2.ao (ay.of (new hq))⟩
   | some q =>
    obtain ⟨df,rfl,Df⟩:=hf
    refine (cV rfl (cI (aW.of rA) rfl ⟨rfl,cV rfl (lQ (fun z=>by cases z) ?_)⟩))
    refine (cV rfl ⟨d,200,rfl,d1,(by decide),fun r9 H9 h9 b9 d9=>?_⟩)
    have k9:ay H1 H9:=d1.soft b9
    refine (cV rfl (cI (aW.of (k9.t _ _ rA)) rfl ⟨(szl 2),fun qf NG=>?_⟩))
    have b1:=(b1.trans b9).new (o:=.tup [.int (r9:Int),.ref df]) NG
    have d1:=d9.same (new (o:=.tup [.int (r9:Int),.ref df]) NG)
    have Df:=((Df.ao k1).ao k9).ao (ay.of (new (o:=.tup [.int (r9:Int),.ref df]) NG))
    have rA:=new (o:=.tup [.int (r9:Int),.ref df]) NG _ _ (k9.t _ _ rA)
    have k1:ay H (upd H9 qf (.tup [.int (r9:Int),.ref df])):=hd.soft b1
    have Q3:upd H9 qf (.tup [.int (r9:Int),.ref df]) qf=some (.tup [.int (r9:Int),.ref df]):=af
    generalize upd H9 qf (.tup [.int (r9:Int),.ref df])=H1 at b1 d1 Df rA k1 Q3 ⊢
    refine (cV rfl (cV rfl (cI (aW.of rA) rfl ?_)))
    refine (cV rfl (cI (aW.of rA) rfl (cV rfl ⟨uh,d,hs,rfl,hh.ao k1,d1,ho.2.1,fun v1 hs' H2 b2 d2 P1 TQ cg=>?_⟩)))
    have k2:ay H1 H2:=d1.soft b2
    refine (cV rfl ?_)
    refine (cV rfl (cI (aW.of (k2.t _ _ rA)) rfl (cV rfl ⟨t2,d,ws,b,rfl,k2.t _ _ (k1.t _ _ e2),(h2.ao k1).ao k2,ho.2.2.2.2.2,by omega,ho.2.2.2.2.1,d2,fun q2 pN l2 H3 b3 d3 E2 P2 o2 Rc TN=>?_⟩)))
    have k3:ay H2 H3:=d2.soft b3
    refine ⟨(szl 6),fun qq hq=>?_⟩
    refine k (.ref qq) (.rep (r0:Int) c hs' (some ((r9:Int),q.2)) l2) _ (((b1.trans b2).trans b3).new hq) (d3.same (new hq)) ?_ (by unfold cO.ok;exact ⟨ho.1,by omega,cg ho.2.2.1,(fun q' z=>by cases z;exact ho.2.2.2.1 q rfl),by omega,o2⟩) (by unfold cO.dep;rw [Rc])
    unfold fE
    exact ⟨qq,uc,v1,(.ref qf),q2,pN,rfl,af,(((hc.ao k1).ao k2).ao k3).ao (ay.of (new hq)),(P1.ao k3).ao (ay.of (new hq)),⟨qf,df,rfl,new hq _ _ (k3.t _ _ (k2.t _ _ Q3)),((Df.ao k2).ao k3).ao (ay.of (new hq))⟩,new hq _ _ E2,P2.ao (ay.of (new hq))⟩
abbrev tO:Stmt:=top 46
theorem bU:aQ ["_law_helper_here","_law_draw","_law_name","_law_params","_law_answers","_law_needs","_law_gives","_law_steps_here","_law_ahead"] ["_law_helper_here","_law_draw"] (ak tO):=⟨rfl,rfl,rfl,by decide +kernel,rfl,by decide +kernel,by decide +kernel⟩
theorem M0 {f:Addr} {fd:FuncData} {Y:Cy} {fS:Addr} {n:Nat} (F:dX K "_law_helper_placed" "_law_helper_placed" tO f fd) (T:Txt K mg Y.z.s) (U:dW K mg Y.z) (J:eW K mg Y fS) (aq:Dn P w K mg base 2 "_law_next" ["_law_draw","_law_size"] dJ) (bQ:Dn P w K mg base 3 "_law_pairs_placed" ["_law_conditions","_law_draw"] xF) (bW:Dn P w K mg base 12 "_law_all_placed" ["_law_steps_here","_law_draw"] (BU 3)):bH P w K mg base dg 13 f fd ["_law_helper_here","_law_draw"] qM:=by
 refine F.ok bU (fun vs H Q E h=>?_) (fun cdv A outer s H vs Q E hr h=>?_)
 ·obtain ⟨v,d,h,rfl,hR,ho,hd,k⟩:=h
  rfl
 ·obtain ⟨v,d,h,rfl,hR,ho,hd,k⟩:=h
  have hu:=bh hr
  rw [show av tO=[_,_,_,_] from rfl]
  refine ⟨_,(ai (tS (pv 0) (pZ rfl (bZ (aP (i:=2) bU.nd rfl (Or.inl rfl)) (bZ (aP (i:=3) bU.nd rfl (Or.inl rfl)) (bZ (aP (i:=4) bU.nd rfl (Or.inl rfl)) (bZ (aP (i:=5) bU.nd rfl (Or.inl rfl)) (bZ (aP (i:=6) bU.nd rfl (Or.inl rfl)) (bZ (aP (i:=7) bU.nd rfl (Or.inl rfl)) iz))))))))
   (ai (aT (i:=8) bU.nd rfl (Or.inl rfl) (aS (aa bf (aa (au aq.ok (hr.mono (by first | decide | omega)) rfl aq.mm aq.kp aq.b .nil aB (aa (pv 1) (aa aj ah))) (aa (pv 2) (aa (pv 3) (aa (pv 4) ah)))))))
   (ai (aT (i:=8) bU.nd rfl (Or.inl rfl) (bN ki (pv 8) (aS (aa (au bQ.ok (hr.mono (by first | decide | omega)) rfl bQ.mm bQ.kp bQ.b .nil aB (aa (pv 5) (aa (pv 1) ah))) (aa (au bQ.ok (hr.mono (by first | decide | omega)) rfl bQ.mm bQ.kp bQ.b .nil aB (aa (pv 6) (aa (pv 1) ah))) ah)))))
   (aA (aM (bN ki (pv 8) (aS (aa (au bW.ok (hr.mono (by first | decide | omega)) rfl bW.mm bW.kp bW.b .nil aB (aa (pv 7) (aa (pv 1) ah))) ah)))))))),?_⟩
  obtain ⟨r,t1,t2,v1,v2,t3,us,rfl,er,e1,e2,h1,h2,e3,h3⟩:=hR
  refine (cV rfl ⟨r,cV rfl ⟨aW.of er,rfl,_,cV rfl ⟨_,cV rfl ⟨_,cV rfl ⟨_,cV rfl ⟨_,cV rfl ⟨_,cV rfl ⟨rfl,?_⟩⟩⟩⟩⟩⟩⟩⟩)
  refine (cV rfl ⟨d,200,rfl,hd,(by decide),fun r0 H1 h0 b1 d1=>?_⟩)
  have k1:ay H H1:=hd.soft b1
  refine (cV rfl (cV rfl (cV rfl ⟨(szl 5),fun q1 hq1=>?_⟩)))
  have s1:=new (o:=.tup [.str "helper",.int (r0:Int),.str h.nm,.ref t1,.ref t2]) hq1
  have KI:=d1.same s1
  have k1':ay H (upd H1 q1 (.tup [.str "helper",.int (r0:Int),.str h.nm,.ref t1,.ref t2])):=hd.soft (b1.new hq1)
  have eq1:upd H1 q1 (.tup [.str "helper",.int (r0:Int),.str h.nm,.ref t1,.ref t2]) q1=some (.tup [.str "helper",.int (r0:Int),.str h.nm,.ref t1,.ref t2]):=af
  have b1':=b1.new (o:=.tup [.str "helper",.int (r0:Int),.str h.nm,.ref t1,.ref t2]) hq1
  generalize upd H1 q1 (.tup [.str "helper",.int (r0:Int),.str h.nm,.ref t1,.ref t2])=G1 at s1 KI k1' eq1 b1' ⊢
  refine (cV rfl (cV rfl (cV rfl ⟨v1,d,h.nd,rfl,h1.ao k1',KI,ho.nl,fun w1 JC G2 b2 d2 P1 TQ cg1=>?_⟩)))
  have k2:ay G1 G2:=KI.soft b2
  refine (cV rfl (cV rfl ⟨v2,d,h.gv,rfl,(h2.ao k1').ao k2,d2,ho.gl,fun w2 gv' G3 b3 d3 P2 TN cg2=>?_⟩))
  have k3:ay G2 G3:=d2.soft b3
  refine ⟨(szl 2),fun q2 hq2=>?_⟩
  have a4v:=new (o:=.tup [w1,w2]) hq2 _ _ (k3.t _ _ (k2.t _ _ eq1))
  refine ⟨q1,q2,_,cV rfl ⟨rfl,aW.of a4v,aW.of af,Nat.le_of_lt (line 7 (by decide)),(fun z=>by cases z),(fun _ z=>by cases z),fun _ _ q3 yG=>?_⟩⟩
  have s4:aH G3 (upd (upd G3 q2 (.tup [w1,w2])) q3 (.tup [.str "helper",.int (r0:Int),.str h.nm,.ref t1,.ref t2,w1,w2])):=aH.new (new hq2) yG
  have d4:=d3.same s4
  have eq3:upd (upd G3 q2 (.tup [w1,w2])) q3 (.tup [.str "helper",.int (r0:Int),.str h.nm,.ref t1,.ref t2,w1,w2]) q3=some (.tup [.str "helper",.int (r0:Int),.str h.nm,.ref t1,.ref t2,w1,w2]):=af
  have b4:=(((b1'.trans b2).trans b3).trans (bz.of s4))
  have k4:=hd.soft b4
  refine (cV rfl (cV rfl (cV rfl ⟨t3,d,us,h.st,rfl,k4.t _ _ e3,h3.ao k4,ho.st,ho.dp,ho.sl,d4,fun q5 O1 st' G5 b5 d5 E5 P5 o5 OV ll5=>?_⟩)))
  have k5:=d4.soft b5
  refine ⟨Nat.le_of_lt (line 1 (by decide)),fun q6 OO=>?_⟩
  refine ⟨q3,q6,_,cV rfl ⟨rfl,aW.of (new OO _ _ (k5.t _ _ eq3)),aW.of af,Nat.le_of_lt (line 8 (by decide)),(fun z=>by cases z),(fun _ z=>by cases z),fun _ _ q7 hq7=>?_⟩⟩
  have s6:aH G5 (upd (upd G5 q6 (.tup [.ref q5])) q7 (.tup [.str "helper",.int (r0:Int),.str h.nm,.ref t1,.ref t2,w1,w2,.ref q5])):=aH.new (new OO) hq7
  have NB:ay H (upd (upd G5 q6 (.tup [.ref q5])) q7 (.tup [.str "helper",.int (r0:Int),.str h.nm,.ref t1,.ref t2,w1,w2,.ref q5])):=hd.soft ((b4.trans b5).trans (bz.of s6))
  have kk:ay G3 (upd (upd G5 q6 (.tup [.ref q5])) q7 (.tup [.str "helper",.int (r0:Int),.str h.nm,.ref t1,.ref t2,w1,w2,.ref q5])):=d3.soft (((bz.of s4).trans b5).trans (bz.of s6))
  refine k (.ref q7) ⟨(r0:Int),h.nm,h.ps,h.an,JC,gv',st'⟩ _ ((b4.trans b5).trans (bz.of s6)) (d5.same s6) ⟨q7,t1,t2,w1,w2,q5,O1,rfl,af,NB.t _ _ e1,NB.t _ _ e2,(P1.ao k3).ao kk,P2.ao kk,s6 _ _ E5,P5.ao (ay.of s6)⟩ ⟨ho.ps,ho.an,?_,cg1 ho.nd,?_,cg2 ho.gv,?_,o5,?_⟩ rfl
  ·show JC.length≤10
   have:=ho.nl;omega
  ·show gv'.length≤10
   have:=ho.gl;omega
  ·show st'.length≤10
   have:=ho.sl;omega
  ·show ir st'≤3
   have:=ho.dp;omega
abbrev j4:Stmt:=top 47
theorem rE:aQ ["_law_one"] ["_law_one"] (ak j4):=⟨rfl,rfl,rfl,by decide +kernel,rfl,by decide +kernel,by decide +kernel⟩
theorem GH {f:Addr} {fd:FuncData} {Y:Cy} {fS:Addr} {n:Nat} (F:dX K "_law_sum_made" "_law_sum_made" j4 f fd) (T:Txt K mg Y.z.s) (U:dW K mg Y.z) (J:eW K mg Y fS) (CN:Dn P w K mg base 3 "sum_of" ["pairs","number"] (vP Y.z.s)):bH P w K mg base dg 4 f fd ["_law_one"] (lX Y.z):=by
 refine F.ok rE (fun vs H Q E h=>?_) (fun cdv A outer s H vs Q E hr h=>?_)
 ·obtain ⟨p,a,m,rfl,D,g,k⟩:=h
  rfl
 ·obtain ⟨p,a,m,rfl,D,g,k⟩:=h
  have hu:=bh hr
  rw [show av j4=[_] from rfl]
  refine ⟨_,(aA (aM (au CN.ok (hr.mono (by first | decide | omega)) rfl CN.mm CN.kp CN.b .nil aB (aa (aJ aI (pv 0) aj (fun _ _=>rfl)) (aa (aJ aI (pv 0) aj (fun _ _=>rfl)) ah))))),?_⟩
  obtain ⟨t,hp,ht⟩:=id D
  refine (cV rfl (cI (aW.of hp) rfl (cV rfl (cI (aW.of hp) rfl ⟨t,m,a,rfl,.inr ht,(by have:=g.2.1.1;omega),fun r ts H' sm gt l S=>?_⟩))))
  rw [DB g.1 gt] at S
  exact k r H' sm S
abbrev jt:Stmt:=top 48
theorem gU:aQ ["_law_told","_law_inner"] ["_law_told"] (ak jt):=⟨rfl,rfl,rfl,by decide +kernel,rfl,by decide +kernel,by decide +kernel⟩
theorem GI {f:Addr} {fd:FuncData} {Y:Cy} {fS:Addr} {n:Nat} (F:dX K "_law_condition_made" "_law_condition_made" jt f fd) (T:Txt K mg Y.z.s) (U:dW K mg Y.z) (J:eW K mg Y fS) (aL:Dn P w K mg base 4 "_law_sum_made" ["_law_one"] (lX Y.z)) (pA:Mr P w K mg base 1 Y.z.c ["self","one","sign","other"] (rY Y.z)) (oY:Mr P w K mg base 1 Y.z.t ["self","condition"] (rV Y.z)) (o8:Mr P w K mg base 1 Y.z.e ["self","conditions"] (jk Y.z.e)) (o4:Mr P w K mg base 1 Y.z.o ["self","conditions"] (jk Y.z.o)) (aF:Dn P w K mg base (n+5) "_law_condition_made" ["_law_told"] (fP Y.z n)):bH P w K mg base dg (n+6) f fd ["_law_told"] (fP Y.z (n+1)):=by
 refine F.ok gU (fun vs H Q E h=>?_) (fun cdv A outer s H vs Q E hr h=>?_)
 ·obtain ⟨v,c,xs,rfl,ht,hd,hg,k⟩:=h
  rfl
 ·obtain ⟨v,c,xs,rfl,ht,hd,hg,k⟩:=h
  have hu:=bh hr
  rw [show av jt=[_,_,_,_,_] from rfl]
  refine ⟨_,(ai (cH (aN cS (aJ aI (pv 0) aj (fun _ _=>rfl)) bf (aR _)) (aA (aM (dh pA.me pA.ok (hr.mono (by first | decide | omega)) rfl U.mgC pA.b .nil aB (aa (au aL.ok (hr.mono (by first | decide | omega)) rfl aL.mm aL.kp aL.b .nil aB (aa (aJ aI (pv 0) aj (fun _ _=>rfl)) ah)) (aa (aJ aI (pv 0) aj (fun _ _=>rfl)) (aa (au aL.ok (hr.mono (by first | decide | omega)) rfl aL.mm aL.kp aL.b .nil aB (aa (aJ aI (pv 0) aj (fun _ _=>rfl)) ah)) ah)))))) bw)
   (ai (jx (i:=1) gU.nd rfl (Or.inl rfl) (br ["_law_one"] [] [] rfl (by decide +kernel) (by decide +kernel) (by with_unfolding_all rfl) (by exact trivial) (by rfl) rfl (by rfl)) rfl (eX (eu kN (pv 0) (dO aj) iy)) (fun _ _ _ _=>(aP (i:=0) (show List.Nodup (["_law_one"]:List Str) by decide +kernel) rfl (Or.inl rfl) (Or.inr rfl))) (fun _ _ _ _=>cy) (fun _ _ _ _=>(au aF.ok (hr.mono (by first | decide | omega)) rfl aF.mm aF.kp aF.b .nil aB (aa (pv 0) ah))))
   (ai (cH (aN cS (aJ aI (pv 0) aj (fun _ _=>rfl)) bf (aR _)) (aA (aM (dh oY.me oY.ok (hr.mono (by first | decide | omega)) rfl U.mgT oY.b .nil aB (aa (aJ cN (pv 1) aj (fun _ _=>rfl)) ah)))) bw)
   (ai (cH (aN cS (aJ aI (pv 0) aj (fun _ _=>rfl)) bf (aR _)) (aA (aM (dh o8.me o8.ok (hr.mono (by first | decide | omega)) rfl U.mgE o8.b .nil aB (aa (pv 1) ah)))) bw)
   (aA (aM (dh o4.me o4.ok (hr.mono (by first | decide | omega)) rfl U.mgO o4.b .nil aB (aa (pv 1) ah)))))))),?_⟩
  cases c with
  | cmp a i s b m =>
   unfold bg at ht
   unfold Gd at hg
   obtain ⟨r,u,w,rfl,er,D1,D2⟩:=ht
   refine (cV rfl (cI (aW.of er) rfl ⟨rfl,cV rfl (cW rfl ?_)⟩))
   refine (cV rfl (cI (aW.of er) rfl ⟨u,a,i,rfl,D1,⟨hg.1.1,hg.1.2.1,hg.1.2.2.2⟩,fun x H1 s1 S1=>?_⟩))
   refine (cV rfl (cI (aW.of (s1 _ _ er)) rfl ?_))
   refine (cV rfl (cI (aW.of (s1 _ _ er)) rfl ⟨w,b,m,rfl,D2.same s1,⟨hg.2.2.1,hg.2.2.2.1,hg.2.2.2.2.2⟩,fun y H2 s2 S2=>?_⟩))
   refine fun z dz hz kH ne3=>?_
   have g3:=cM (o:=.own z) (o':=.ins Y.z.c dz []) hz kH
   refine ⟨z,dz,x,y,s,rfl,af,fun H3 a7Q e3=>⟨rfl,?_⟩⟩
   have s3:aH H2 H3:=fun b' o q=>a7Q b' o (g3 _ _ q) (aE q hz)
   refine k (.ref z) H3 ((s1.trans s2).trans s3) ?_
   unfold cJ
   exact ⟨z,dz,x,y,rfl,e3,(S1.same s2).same s3,S2.same s3⟩
  | neg c =>
   unfold bg at ht
   unfold Gd at hg
   obtain ⟨r,u,rfl,er,ht⟩:=ht
   refine (cV rfl (cI (aW.of er) rfl ⟨rfl,cV rfl (bC (bE (by decide +kernel)) ?_)⟩))
   refine (cV rfl (cV rfl ⟨r,cV rfl ⟨aW.of er,Jk _ _,fun t qE=>?_⟩⟩))
   rw [Oi]
   have s1:=new (o:=.tup [u]) qE
   refine ⟨t,rfl,⟨[u],aW.of af⟩,cT (xs:=[u]) (fun i ys H'=>aH (upd H t (.tup [u])) H'∧eK Y.z H' ([c].take i) ys) ⟨fun _ _ z=>z,(by unfold eK;rfl)⟩ (fun i ys H' _ q=>aW.of (q.1 _ _ af)) ?_ ?_⟩
   ·rintro i x ys H' hix ⟨sm,hc⟩
    have yH:Paired (fun u c=>bg H c u) [u] [c]:=.cons ht .nil
    obtain ⟨c',fK,Kw⟩:=bB yH hix
    have e:c'=c:=List.mem_singleton.mp (List.mem_of_getElem? fK)
    subst e
    have mH:ys.length≤i:=by
     have z:=aD (dj.mp hc)
     rw [List.length_take] at z
     omega
    have il:i<1:=(List.getElem?_eq_some_iff.mp fK).1
    refine ⟨Ext.one,gk (cV rfl ⟨x,c',xs,rfl,Kw.ao (ay.of (s1.trans sm)),(by unfold Cd.dep at hd;omega),hg,fun v' H1 ve hv=>⟨line _ (by omega),sm.trans ve,?_⟩⟩)⟩
    rw [take_snoc fK]
    exact dj.mpr (bx (dj.mp (hc.ao (ay.of ve))) hv)
   rintro ys H' ⟨sm,hc⟩ q hq
   have sq:=new (o:=.lst ys) hq
   have jU:=sq _ _ (sm _ _ (s1 _ _ er))
   unfold eK at hc
   obtain ⟨v',rr,rfl,hv,hc⟩:=hc
   unfold eK at hc
   subst hc
   refine (cV rfl (cI (aW.of jU) rfl ⟨rfl,cV rfl (cW rfl ?_)⟩))
   refine (cV rfl (cL (bS.of af) rfl (fun x dx hx hdx ne=>?_)))
   have g1:=cM (o:=.own x) (o':=.ins Y.z.t dx []) hx hdx
   refine ⟨x,dx,v',rfl,af,fun H3 but e1=>⟨rfl,?_⟩⟩
   have s3:aH H' H3:=fun b' o z=>but b' o (g1 _ _ (sq _ _ z)) (aE (sq _ _ z) hx)
   refine k (.ref x) H3 ((s1.trans sm).trans s3) ?_
   unfold cJ
   exact ⟨x,dx,v',rfl,e1,hv.ao (ay.of s3)⟩
  | con b cs =>
   unfold bg at ht
   unfold Gd at hg
   obtain ⟨r,us,rfl,er,ht⟩:=ht
   have yH:=cC.mp ht
   have nJ:us.length=cs.length:=aD yH
   have lc3:=hg.1
   refine (cV rfl (cI (aW.of er) (yK _ _) ⟨rfl,cV rfl (bC (bE (s:=DY b) (by cases b<;>decide +kernel)) ?_)⟩))
   refine (cV rfl (cV rfl ⟨r,cV rfl ⟨aW.of er,Jk _ _,fun t qE=>?_⟩⟩))
   rw [Oi]
   have s1:=new (o:=.tup us) qE
   refine ⟨t,rfl,⟨us,aW.of af⟩,cT (xs:=us) (fun i ys H'=>aH (upd H t (.tup us)) H'∧eK Y.z H' (cs.take i) ys) ⟨fun _ _ z=>z,(by unfold eK;rfl)⟩ (fun i ys H' _ q=>aW.of (q.1 _ _ af)) ?_ ?_⟩
   ·rintro i x ys H' hix ⟨sm,hc⟩
    obtain ⟨c,fK,Kw⟩:=bB yH hix
    have wR:=(List.getElem?_eq_some_iff.mp fK).1
    have oU:=List.mem_of_getElem? fK
    have dd:c.dep≤n:=by
     have z:=su oU
     unfold Cd.dep at hd
     omega
    have mH:ys.length≤i:=by
     have z:=aD (dj.mp hc)
     rw [List.length_take] at z
     omega
    refine ⟨Ext.one,gk (cV rfl ⟨x,c,xs,rfl,Kw.ao (ay.of (s1.trans sm)),dd,CC hg.2 oU,fun v' H1 ve hv=>⟨line _ (by omega),sm.trans ve,?_⟩⟩)⟩
    rw [take_snoc fK]
    exact dj.mpr (bx (dj.mp (hc.ao (ay.of ve))) hv)
   rintro ys H' ⟨sm,hc⟩ q hq
   rw [nJ,List.take_length] at hc
   have mH:ys.length=cs.length:=aD (dj.mp hc)
   have sq:=new (o:=.lst ys) hq
   have jU:=sq _ _ (sm _ _ (s1 _ _ er))
   cases b with
   | true =>
    refine (cV rfl (cI (aW.of jU) (yK _ _) ⟨rfl,cV rfl (bC (bE (s:=DY true) (by decide +kernel)) ?_)⟩))
    refine (cV rfl (cI (aW.of jU) (yK _ _) ⟨rfl,cV rfl (cW rfl ?_)⟩))
    refine (cV rfl (fun x dx hx hdx ne=>?_))
    have g1:=cM (o:=.own x) (o':=.ins Y.z.e dx []) hx hdx
    refine ⟨x,dx,q,ys,rfl,af,g1 _ _ af,fun t' H2 but e1 e2=>⟨rfl,?_⟩⟩
    have s2:aH H' H2:=fun b' o z=>but b' o (g1 _ _ (sq _ _ z)) (aE (sq _ _ z) hx)
    refine k (.ref x) H2 ((s1.trans sm).trans s2) ?_
    unfold cJ
    exact ⟨x,dx,t',ys,rfl,e1,e2,by omega,hc.ao (ay.of s2)⟩
   | false =>
    refine (cV rfl (cI (aW.of jU) (yK _ _) ⟨rfl,cV rfl (bC (bE (s:=DY false) (by decide +kernel)) ?_)⟩))
    refine (cV rfl (cI (aW.of jU) (yK _ _) ⟨rfl,cV rfl (bC (bE (s:=DY false) (by decide +kernel)) ?_)⟩))
    refine (cV rfl (fun x dx hx hdx ne=>?_))
    have g1:=cM (o:=.own x) (o':=.ins Y.z.o dx []) hx hdx
    refine ⟨x,dx,q,ys,rfl,af,g1 _ _ af,fun t' H2 but e1 e2=>⟨rfl,?_⟩⟩
    have s2:aH H' H2:=fun b' o z=>but b' o (g1 _ _ (sq _ _ z)) (aE (sq _ _ z) hx)
    refine k (.ref x) H2 ((s1.trans sm).trans s2) ?_
    unfold cJ
    exact ⟨x,dx,t',ys,rfl,e1,e2,by omega,hc.ao (ay.of s2)⟩
abbrev tM:Stmt:=top 49
theorem oj:aQ ["_law_pairs"] ["_law_pairs"] (ak tM):=⟨rfl,rfl,rfl,by decide +kernel,rfl,by decide +kernel,by decide +kernel⟩
theorem MY {f:Addr} {fd:FuncData} {Y:Cy} {fS:Addr} {n:Nat} (F:dX K "_law_pairs_made" "_law_pairs_made" tM f fd) (T:Txt K mg Y.z.s) (U:dW K mg Y.z) (J:eW K mg Y fS) (aF:Dn P w K mg base 8 "_law_condition_made" ["_law_told"] (fP Y.z 3)):bH P w K mg base dg 9 f fd ["_law_pairs"] (n9 Y.z):=by
 refine F.ok oj (fun vs H Q E h=>?_) (fun cdv A outer s H vs Q E hr h=>?_)
 ·obtain ⟨v,hs,rfl,hP,hl,hg,k⟩:=h
  rfl
 ·obtain ⟨v,hs,rfl,hP,hl,hg,k⟩:=h
  have hu:=bh hr
  rw [show av tM=[_] from rfl]
  refine ⟨_,(aA (aM (cK (br ["_law_at","_law_one"] [] [] rfl (by decide +kernel) (by decide +kernel) (by with_unfolding_all rfl) (by exact trivial) (by rfl) rfl (by rfl)) rfl (eX (pv 0)) (fun _ _ _ _=>(oH (K:=K) (n:=2) rfl rfl (bZ (aP (i:=0) (show List.Nodup (["_law_at","_law_one"]:List Str) by decide +kernel) rfl (Or.inl rfl) (Or.inr rfl)) (bZ (aP (i:=1) (show List.Nodup (["_law_at","_law_one"]:List Str) by decide +kernel) rfl (Or.inl rfl) (Or.inr rfl)) iz)))) (fun _ _ _ _=>cy) (fun _ _ _ _=>(aS (aa (pv 0) (aa (au aF.ok (hr.mono (by first | decide | omega)) rfl aF.mm aF.kp aF.b .nil aB (aa (pv 1) ah)) ah))))))),?_⟩
  obtain ⟨t,us,rfl,et,hp⟩:=hP
  have nJ:=aD hp
  refine (cV rfl ⟨t,rfl,⟨us,aW.of et⟩,cT (xs:=us) (fun i ys H'=>aH H H'∧Paired (fun u (q:Int×Cd)=>∃r w,u=V.ref r∧H' r=some (.tup [.int q.1,w])∧cJ Y.z H' q.2 w) ys (hs.take i)) ⟨aH.refl _,.nil⟩ (fun i ys H' _ q=>aW.of (q.1 _ _ et)) ?_ ?_⟩)
  ·rintro i x ys H' hix ⟨sm,py⟩
   obtain ⟨c,fK,r,w,rfl,er,hc⟩:=bB hp hix
   have oU:=List.mem_of_getElem? fK
   have wR:=(List.getElem?_eq_some_iff.mp fK).1
   have mH:ys.length≤i:=by
    rw [aD py,List.length_take]
    omega
   obtain ⟨⟨xs,hx⟩,hd⟩:=hg c oU
   refine ⟨r,cV rfl ⟨aW.of (sm _ _ er),rfl,_,cV rfl ⟨_,cV rfl ⟨rfl,Ext.two,gk (cV rfl (cV rfl ⟨w,c.2,xs,rfl,hc.ao (ay.of sm),hd,hx,fun v H1 s1 d=>⟨(szl 2),fun q hq=>⟨line _ (by omega),(sm.trans s1).trans (new hq),?_⟩⟩⟩))⟩⟩⟩⟩
   rw [take_snoc fK]
   exact bx (L2.Paired.cQ py fun _ _ ⟨r',w',e,e',d'⟩=>⟨r',w',e,new hq _ _ (s1 _ _ e'),(d'.ao (ay.of s1)).ao (ay.of (new hq))⟩) ⟨q,v,rfl,af,d.ao (ay.of (new hq))⟩
  ·rintro ys H' ⟨sm,py⟩ q hq
   rw [nJ,List.take_length] at py
   exact k q ys _ (sm.trans (new hq)) (sm.free hq) af (L2.Paired.cQ py fun _ _ ⟨r',w',e,e',d'⟩=>⟨r',w',e,new hq _ _ e',d'.ao (ay.of (new hq))⟩)
abbrev kY:Stmt:=top 50
theorem oi:aQ ["_law_steps_here"] ["_law_steps_here"] (ak kY):=⟨rfl,rfl,rfl,by decide +kernel,rfl,by decide +kernel,by decide +kernel⟩
theorem Cm {f:Addr} {fd:FuncData} {Y:Cy} {fS:Addr} {n:Nat} (F:dX K "_law_steps_made" "_law_steps_made" kY f fd) (T:Txt K mg Y.z.s) (U:dW K mg Y.z) (J:eW K mg Y fS) (jB:Dn P w K mg base (2*n+9) "_law_step_made" ["_law_told"] (xE Y n)):bH P w K mg base dg (2*n+10) f fd ["_law_steps_here"] (jE Y n):=by
 refine F.ok oi (fun vs H Q E h=>?_) (fun cdv A outer s H vs Q E hr h=>?_)
 ·obtain ⟨t,us,l,rfl,et,hP,ho,hd,hl,k⟩:=h
  rfl
 ·obtain ⟨t,us,l,rfl,et,hP,ho,hd,hl,k⟩:=h
  have hu:=bh hr
  rw [show av kY=[_] from rfl]
  refine ⟨_,(aA (aM (cK (br ["_law_step_here"] [] [] rfl (by decide +kernel) (by decide +kernel) (by with_unfolding_all rfl) (by exact trivial) (by rfl) rfl (by rfl)) rfl (eX (pv 0)) (fun _ _ _ _=>(aP (i:=0) (show List.Nodup (["_law_step_here"]:List Str) by decide +kernel) rfl (Or.inl rfl) (Or.inr rfl))) (fun _ _ _ _=>cy) (fun _ _ _ _=>(au jB.ok (hr.mono (by first | decide | omega)) rfl jB.mm jB.kp jB.b .nil aB (aa (pv 0) ah)))))),?_⟩
  have hp:=fY.mp hP
  have nJ:=aD hp
  refine (cV rfl ⟨t,rfl,⟨us,aW.of et⟩,cT (xs:=us) (fun i ys H'=>aH H H'∧fT Y H' (l.take i) ys) ⟨aH.refl _,(by unfold fT;rfl)⟩ (fun i ys H' _ q=>aW.of (q.1 _ _ et)) ?_ ?_⟩)
  ·rintro i x ys H' hix ⟨sm,py⟩
   obtain ⟨c,fK,hx⟩:=bB hp hix
   have oU:=List.mem_of_getElem? fK
   have wR:=(List.getElem?_eq_some_iff.mp fK).1
   have dd:=lT oU
   have mH:ys.length≤i:=by
    rw [aD (dF.mp py),List.length_take]
    omega
   refine ⟨Ext.one,gk (cV rfl ⟨x,c,rfl,fE.ao (ay.of sm) hx,oN ho oU,by omega,fun v H1 s1 hv=>⟨line _ (by omega),sm.trans s1,?_⟩⟩)⟩
   rw [take_snoc fK]
   exact dF.mpr (bx (dF.mp (fT.ao (ay.of s1) py)) hv)
  ·rintro ys H' ⟨sm,py⟩ q hq
   rw [nJ,List.take_length] at py
   exact k q ys _ (sm.trans (new hq)) (sm.free hq) af (fT.ao (ay.of (new hq)) py)
abbrev qT:Stmt:=top 51
theorem dY:aQ ["_law_told","_law_kind","_law_at","_law_condition_here","_law_falls"] ["_law_told"] (ak qT):=⟨rfl,rfl,rfl,by decide +kernel,rfl,by decide +kernel,by decide +kernel⟩
theorem MU {f:Addr} {fd:FuncData} {Y:Cy} {fS:Addr} {n:Nat} (F:dX K "_law_step_made" "_law_step_made" qT f fd) (T:Txt K mg Y.z.s) (U:dW K mg Y.z) (J:eW K mg Y fS) (aL:Dn P w K mg base 4 "_law_sum_made" ["_law_one"] (lX Y.z)) (aF:Dn P w K mg base 8 "_law_condition_made" ["_law_told"] (fP Y.z 3)) (cG:Dn P w K mg base 9 "_law_pairs_made" ["_law_pairs"] (n9 Y.z)) (aV:Dn P w K mg base (2*n+10) "_law_steps_made" ["_law_steps_here"] (jE Y n)) (yr:Mr P w K mg base 2 Y.lt ["self","at","name","total"] (qQ Y 0)) (yu:Mr P w K mg base 2 Y.dv ["self","at","name","word","total","by"] (BW Y 1)) (yt:Mr P w K mg base 2 Y.ft ["self","at","name","row","place"] (qP Y 2)) (yp:Mr P w K mg base 2 Y.pt ["self","at","row","place","total"] (qP Y 3)) (yq:Mr P w K mg base 2 Y.mq ["self","at","row","size"] (qQ Y 4)) (gM:Mr P w K mg base 2 Y.cm ["self","at","condition"] (mE Y 5)) (yv:Mr P w K mg base 2 Y.cl ["self","at","names","helper","given"] (BX Y)) (gO:Mr P w K mg base 2 Y.ch ["self","at","condition","then","other"] (mF Y)) (gK:Mr P w K mg base 2 Y.rp ["self","at","condition","keeps","falls","body"] (mD Y)):bH P w K mg base dg (2*n+11) f fd ["_law_told"] (xE Y (n+1)):=by
 refine F.ok dY (fun vs H Q E h=>?_) (fun cdv A outer s H vs Q E hr h=>?_)
 ·obtain ⟨v,s,rfl,hP,ho,hd,k⟩:=h
  rfl
 ·obtain ⟨v,s,rfl,hP,ho,hd,k⟩:=h
  have hu:=bh hr
  rw [show av qT=[_,_,_,_,_,_,_,_,_,_,_,_,_] from rfl]
  refine ⟨_,(ai (tS (eu kN (pv 0) iy (dO aj)) (pZ rfl (bZ (aP (i:=1) dY.nd rfl (Or.inl rfl)) (bZ (aP (i:=2) dY.nd rfl (Or.inl rfl)) iz))))
   (ai (cH (aN cS (pv 1) bf (aR _)) (aA (aM (dh yr.me yr.ok (hr.mono (by first | decide | omega)) rfl J.mg0 yr.b .nil aB (aa (pv 2) (aa (aJ aI (pv 0) aj (fun _ _=>rfl)) (aa (au aL.ok (hr.mono (by first | decide | omega)) rfl aL.mm aL.kp aL.b .nil aB (aa (aJ aI (pv 0) aj (fun _ _=>rfl)) ah)) ah)))))) bw)
   (ai (cH (aN cS (pv 1) bf (aR _)) (aA (aM (dh yu.me yu.ok (hr.mono (by first | decide | omega)) rfl J.mg1 yu.b .nil aB (aa (pv 2) (aa (aJ aI (pv 0) aj (fun _ _=>rfl)) (aa (aJ aI (pv 0) aj (fun _ _=>rfl)) (aa (au aL.ok (hr.mono (by first | decide | omega)) rfl aL.mm aL.kp aL.b .nil aB (aa (aJ aI (pv 0) aj (fun _ _=>rfl)) ah)) (aa (au aL.ok (hr.mono (by first | decide | omega)) rfl aL.mm aL.kp aL.b .nil aB (aa (aJ aI (pv 0) aj (fun _ _=>rfl)) ah)) ah)))))))) bw)
   (ai (cH (aN cS (pv 1) bf (aR _)) (aA (aM (dh yt.me yt.ok (hr.mono (by first | decide | omega)) rfl J.mg2 yt.b .nil aB (aa (pv 2) (aa (aJ aI (pv 0) aj (fun _ _=>rfl)) (aa (aJ aI (pv 0) aj (fun _ _=>rfl)) (aa (au aL.ok (hr.mono (by first | decide | omega)) rfl aL.mm aL.kp aL.b .nil aB (aa (aJ aI (pv 0) aj (fun _ _=>rfl)) ah)) ah))))))) bw)
   (ai (cH (aN cS (pv 1) bf (aR _)) (aA (aM (dh yp.me yp.ok (hr.mono (by first | decide | omega)) rfl J.mg3 yp.b .nil aB (aa (pv 2) (aa (aJ aI (pv 0) aj (fun _ _=>rfl)) (aa (au aL.ok (hr.mono (by first | decide | omega)) rfl aL.mm aL.kp aL.b .nil aB (aa (aJ aI (pv 0) aj (fun _ _=>rfl)) ah)) (aa (au aL.ok (hr.mono (by first | decide | omega)) rfl aL.mm aL.kp aL.b .nil aB (aa (aJ aI (pv 0) aj (fun _ _=>rfl)) ah)) ah))))))) bw)
   (ai (cH (aN cS (pv 1) bf (aR _)) (aA (aM (dh yq.me yq.ok (hr.mono (by first | decide | omega)) rfl J.mg4 yq.b .nil aB (aa (pv 2) (aa (aJ aI (pv 0) aj (fun _ _=>rfl)) (aa (au aL.ok (hr.mono (by first | decide | omega)) rfl aL.mm aL.kp aL.b .nil aB (aa (aJ aI (pv 0) aj (fun _ _=>rfl)) ah)) ah)))))) bw)
   (ai (cH (aN cS (pv 1) bf (aR _)) (aA (aM (dh gM.me gM.ok (hr.mono (by first | decide | omega)) rfl J.mg5 gM.b .nil aB (aa (pv 2) (aa (au aF.ok (hr.mono (by first | decide | omega)) rfl aF.mm aF.kp aF.b .nil aB (aa (aJ aI (pv 0) aj (fun _ _=>rfl)) ah)) ah))))) bw)
   (ai (cH (aN cS (pv 1) bf (aR _)) (aA (aM (dh yv.me yv.ok (hr.mono (by first | decide | omega)) rfl J.mg6 yv.b .nil aB (aa (pv 2) (aa (aU gh (by rfl) T.list boot_list (aa (aJ aI (pv 0) aj (fun _ _=>rfl)) ah)) (aa (aJ aI (pv 0) aj (fun _ _=>rfl)) (aa (cK (br ["_law_one"] [] [] rfl (by decide +kernel) (by decide +kernel) (by with_unfolding_all rfl) (by exact trivial) (by rfl) rfl (by rfl)) rfl (eX (aJ aI (pv 0) aj (fun _ _=>rfl))) (fun _ _ _ _=>(aP (i:=0) (show List.Nodup (["_law_one"]:List Str) by decide +kernel) rfl (Or.inl rfl) (Or.inr rfl))) (fun _ _ _ _=>cy) (fun _ _ _ _=>(au aL.ok (hr.mono (by first | decide | omega)) rfl aL.mm aL.kp aL.b .nil aB (aa (pv 0) ah)))) ah))))))) bw)
   (ai (aT (i:=3) dY.nd rfl (Or.inl rfl) (au aF.ok (hr.mono (by first | decide | omega)) rfl aF.mm aF.kp aF.b .nil aB (aa (aJ aI (pv 0) aj (fun _ _=>rfl)) ah)))
   (ai (cH (aN cS (pv 1) bf (aR _)) (aA (aM (dh gO.me gO.ok (hr.mono (by first | decide | omega)) rfl J.mg7 gO.b .nil aB (aa (pv 2) (aa (pv 3) (aa (au aV.ok (hr.mono (by first | decide | omega)) rfl aV.mm aV.kp aV.b .nil aB (aa (aJ aI (pv 0) aj (fun _ _=>rfl)) ah)) (aa (au aV.ok (hr.mono (by first | decide | omega)) rfl aV.mm aV.kp aV.b .nil aB (aa (aJ aI (pv 0) aj (fun _ _=>rfl)) ah)) ah))))))) bw)
   (ai (aT (i:=4) dY.nd rfl (Or.inl rfl) gZ)
   (ai (cH (aN oK (aJ aI (pv 0) aj (fun _ _=>rfl)) gZ (aR _)) (aA (aT (i:=4) dY.nd rfl (Or.inl rfl) (aS (aa (aJ aI (aJ aI (pv 0) aj (fun _ _=>rfl)) aj (fun _ _=>rfl)) (aa (au aL.ok (hr.mono (by first | decide | omega)) rfl aL.mm aL.kp aL.b .nil aB (aa (aJ aI (aJ aI (pv 0) aj (fun _ _=>rfl)) aj (fun _ _=>rfl)) ah)) ah))))) bw)
   (aA (aM (dh gK.me gK.ok (hr.mono (by first | decide | omega)) rfl J.mg8 gK.b .nil aB (aa (pv 2) (aa (pv 3) (aa (au cG.ok (hr.mono (by first | decide | omega)) rfl cG.mm cG.kp cG.b .nil aB (aa (aJ aI (pv 0) aj (fun _ _=>rfl)) ah)) (aa (pv 4) (aa (au aV.ok (hr.mono (by first | decide | omega)) rfl aV.mm aV.kp aV.b .nil aB (aa (aJ aI (pv 0) aj (fun _ _=>rfl)) ah)) ah)))))))))))))))))))),?_⟩
  cases s with
  | flat kk at_ as =>
   unfold fE at hP
   unfold cO.ok at ho
   obtain ⟨r,us,rfl,er,pp⟩:=hP
   have sh:=ho.1
   match kk,sh,er,ho with
   | 0,sh,er,ho =>
    obtain ⟨x0,a1,m1,rfl⟩:=sh
    cases pp with
    | cons h0 pp =>
     cases pp with
     | cons h1 pp =>
     cases pp
     have hok:=ho.2
     have h0:_=V.str x0:=h0
     subst h0
     obtain ⟨r1,rfl,D1⟩:=h1
     have g1:uD a1 m1:=hok (.sm a1 m1) (by simp)
     refine (cV rfl (cV rfl ⟨r,cV rfl ⟨aW.of er,pB (by simp),fun t qE=>?_⟩⟩))
     rw [xg]
     have s0:=new (o:=.tup [.str (kw 0),.int at_]) qE
     refine ⟨t,cV rfl ⟨aW.of af,rfl,_,cV rfl ⟨_,cV rfl ⟨rfl,?_⟩⟩⟩⟩
     refine (cV rfl ⟨rfl,cV rfl (cW rfl ?_)⟩)
     refine (cV rfl ?_)
     refine (cV rfl (cI (aW.of (s0 _ _ er)) rfl ?_))
     refine (cV rfl (cI (aW.of (s0 _ _ er)) rfl ⟨r1,a1,m1,rfl,D1.same s0,g1,fun u1 H1 s1 S1=>?_⟩))
     refine fun z dz hz kH ne=>?_
     have g9:=cM (o:=.own z) (o':=.ins (eY Y 0) dz []) hz kH
     refine ⟨z,dz,at_,.str x0,.ref u1,rfl,af,fun H9 but e9=>⟨rfl,?_⟩⟩
     have s9:aH H1 H9:=fun b' o q=>but b' o (g9 _ _ q) (aE q hz)
     refine k (.ref z) H9 ((s0.trans s1).trans s9) ?_
     unfold cj
     exact ⟨z,dz,cV rfl ⟨ho.1,e9,(.cons (rfl) (.cons (⟨u1,rfl,S1.same (s9)⟩) .nil))⟩⟩
   | 1,sh,er,ho =>
    obtain ⟨x0,x1,a2,m2,a3,m3,rfl⟩:=sh
    cases pp with
    | cons h0 pp =>
     cases pp with
     | cons h1 pp =>
      cases pp with
      | cons h2 pp =>
       cases pp with
       | cons h3 pp =>
       cases pp
       have hok:=ho.2
       have h0:_=V.str x0:=h0
       subst h0
       have h1:_=V.str x1:=h1
       subst h1
       obtain ⟨r2,rfl,D2⟩:=h2
       have g2:uD a2 m2:=hok (.sm a2 m2) (by simp)
       obtain ⟨r3,rfl,D3⟩:=h3
       have g3:uD a3 m3:=hok (.sm a3 m3) (by simp)
       refine (cV rfl (cV rfl ⟨r,cV rfl ⟨aW.of er,pB (by simp),fun t qE=>?_⟩⟩))
       rw [xg]
       have s0:=new (o:=.tup [.str (kw 1),.int at_]) qE
       refine ⟨t,cV rfl ⟨aW.of af,rfl,_,cV rfl ⟨_,cV rfl ⟨rfl,?_⟩⟩⟩⟩
       refine (cV rfl ⟨rfl,cV rfl (bC (bE (by decide +kernel)) ?_)⟩)
       refine (cV rfl ⟨rfl,cV rfl (cW rfl ?_)⟩)
       refine (cV rfl ?_)
       refine (cV rfl (cI (aW.of (s0 _ _ er)) rfl ?_))
       refine (cV rfl (cI (aW.of (s0 _ _ er)) rfl ?_))
       refine (cV rfl (cI (aW.of (s0 _ _ er)) rfl ⟨r2,a2,m2,rfl,D2.same s0,g2,fun u2 H1 s1 S2=>?_⟩))
       refine (cV rfl (cI (aW.of ((s0.trans s1) _ _ er)) rfl ⟨r3,a3,m3,rfl,D3.same (s0.trans s1),g3,fun u3 H2 s2 S3=>?_⟩))
       refine fun z dz hz kH ne=>?_
       have g9:=cM (o:=.own z) (o':=.ins (eY Y 1) dz []) hz kH
       refine ⟨z,dz,at_,.str x0,.str x1,.ref u2,.ref u3,rfl,af,fun H9 but e9=>⟨rfl,?_⟩⟩
       have s9:aH H2 H9:=fun b' o q=>but b' o (g9 _ _ q) (aE q hz)
       refine k (.ref z) H9 (((s0.trans s1).trans s2).trans s9) ?_
       unfold cj
       exact ⟨z,dz,cV rfl ⟨ho.1,e9,(.cons (rfl) (.cons (rfl) (.cons (⟨u2,rfl,S2.same (s2.trans (s9))⟩) (.cons (⟨u3,rfl,S3.same (s9)⟩) .nil))))⟩⟩
   | 2,sh,er,ho =>
    obtain ⟨x0,x1,a2,m2,rfl⟩:=sh
    cases pp with
    | cons h0 pp =>
     cases pp with
     | cons h1 pp =>
      cases pp with
      | cons h2 pp =>
      cases pp
      have hok:=ho.2
      have h0:_=V.str x0:=h0
      subst h0
      have h1:_=V.str x1:=h1
      subst h1
      obtain ⟨r2,rfl,D2⟩:=h2
      have g2:uD a2 m2:=hok (.sm a2 m2) (by simp)
      refine (cV rfl (cV rfl ⟨r,cV rfl ⟨aW.of er,pB (by simp),fun t qE=>?_⟩⟩))
      rw [xg]
      have s0:=new (o:=.tup [.str (kw 2),.int at_]) qE
      refine ⟨t,cV rfl ⟨aW.of af,rfl,_,cV rfl ⟨_,cV rfl ⟨rfl,?_⟩⟩⟩⟩
      refine (cV rfl ⟨rfl,cV rfl (bC (bE (by decide +kernel)) ?_)⟩)
      refine (cV rfl ⟨rfl,cV rfl (bC (bE (by decide +kernel)) ?_)⟩)
      refine (cV rfl ⟨rfl,cV rfl (cW rfl ?_)⟩)
      refine (cV rfl ?_)
      refine (cV rfl (cI (aW.of (s0 _ _ er)) rfl ?_))
      refine (cV rfl (cI (aW.of (s0 _ _ er)) rfl ?_))
      refine (cV rfl (cI (aW.of (s0 _ _ er)) rfl ⟨r2,a2,m2,rfl,D2.same s0,g2,fun u2 H1 s1 S2=>?_⟩))
      refine fun z dz hz kH ne=>?_
      have g9:=cM (o:=.own z) (o':=.ins (eY Y 2) dz []) hz kH
      refine ⟨z,dz,at_,.str x0,.str x1,.ref u2,rfl,af,fun H9 but e9=>⟨rfl,?_⟩⟩
      have s9:aH H1 H9:=fun b' o q=>but b' o (g9 _ _ q) (aE q hz)
      refine k (.ref z) H9 ((s0.trans s1).trans s9) ?_
      unfold cj
      exact ⟨z,dz,cV rfl ⟨ho.1,e9,(.cons (rfl) (.cons (rfl) (.cons (⟨u2,rfl,S2.same (s9)⟩) .nil)))⟩⟩
   | 3,sh,er,ho =>
    obtain ⟨x0,a1,m1,a2,m2,rfl⟩:=sh
    cases pp with
    | cons h0 pp =>
     cases pp with
     | cons h1 pp =>
      cases pp with
      | cons h2 pp =>
      cases pp
      have hok:=ho.2
      have h0:_=V.str x0:=h0
      subst h0
      obtain ⟨r1,rfl,D1⟩:=h1
      have g1:uD a1 m1:=hok (.sm a1 m1) (by simp)
      obtain ⟨r2,rfl,D2⟩:=h2
      have g2:uD a2 m2:=hok (.sm a2 m2) (by simp)
      refine (cV rfl (cV rfl ⟨r,cV rfl ⟨aW.of er,pB (by simp),fun t qE=>?_⟩⟩))
      rw [xg]
      have s0:=new (o:=.tup [.str (kw 3),.int at_]) qE
      refine ⟨t,cV rfl ⟨aW.of af,rfl,_,cV rfl ⟨_,cV rfl ⟨rfl,?_⟩⟩⟩⟩
      refine (cV rfl ⟨rfl,cV rfl (bC (bE (by decide +kernel)) ?_)⟩)
      refine (cV rfl ⟨rfl,cV rfl (bC (bE (by decide +kernel)) ?_)⟩)
      refine (cV rfl ⟨rfl,cV rfl (bC (bE (by decide +kernel)) ?_)⟩)
      refine (cV rfl ⟨rfl,cV rfl (cW rfl ?_)⟩)
      refine (cV rfl ?_)
      refine (cV rfl (cI (aW.of (s0 _ _ er)) rfl ?_))
      refine (cV rfl (cI (aW.of (s0 _ _ er)) rfl ⟨r1,a1,m1,rfl,D1.same s0,g1,fun u1 H1 s1 S1=>?_⟩))
      refine (cV rfl (cI (aW.of ((s0.trans s1) _ _ er)) rfl ⟨r2,a2,m2,rfl,D2.same (s0.trans s1),g2,fun u2 H2 s2 S2=>?_⟩))
      refine fun z dz hz kH ne=>?_
      have g9:=cM (o:=.own z) (o':=.ins (eY Y 3) dz []) hz kH
      refine ⟨z,dz,at_,.str x0,.ref u1,.ref u2,rfl,af,fun H9 but e9=>⟨rfl,?_⟩⟩
      have s9:aH H2 H9:=fun b' o q=>but b' o (g9 _ _ q) (aE q hz)
      refine k (.ref z) H9 (((s0.trans s1).trans s2).trans s9) ?_
      unfold cj
      exact ⟨z,dz,cV rfl ⟨ho.1,e9,(.cons (rfl) (.cons (⟨u1,rfl,S1.same (s2.trans (s9))⟩) (.cons (⟨u2,rfl,S2.same (s9)⟩) .nil)))⟩⟩
   | 4,sh,er,ho =>
    obtain ⟨x0,a1,m1,rfl⟩:=sh
    cases pp with
    | cons h0 pp =>
     cases pp with
     | cons h1 pp =>
     cases pp
     have hok:=ho.2
     have h0:_=V.str x0:=h0
     subst h0
     obtain ⟨r1,rfl,D1⟩:=h1
     have g1:uD a1 m1:=hok (.sm a1 m1) (by simp)
     refine (cV rfl (cV rfl ⟨r,cV rfl ⟨aW.of er,pB (by simp),fun t qE=>?_⟩⟩))
     rw [xg]
     have s0:=new (o:=.tup [.str (kw 4),.int at_]) qE
     refine ⟨t,cV rfl ⟨aW.of af,rfl,_,cV rfl ⟨_,cV rfl ⟨rfl,?_⟩⟩⟩⟩
     refine (cV rfl ⟨rfl,cV rfl (bC (bE (by decide +kernel)) ?_)⟩)
     refine (cV rfl ⟨rfl,cV rfl (bC (bE (by decide +kernel)) ?_)⟩)
     refine (cV rfl ⟨rfl,cV rfl (bC (bE (by decide +kernel)) ?_)⟩)
     refine (cV rfl ⟨rfl,cV rfl (bC (bE (by decide +kernel)) ?_)⟩)
     refine (cV rfl ⟨rfl,cV rfl (cW rfl ?_)⟩)
     refine (cV rfl ?_)
     refine (cV rfl (cI (aW.of (s0 _ _ er)) rfl ?_))
     refine (cV rfl (cI (aW.of (s0 _ _ er)) rfl ⟨r1,a1,m1,rfl,D1.same s0,g1,fun u1 H1 s1 S1=>?_⟩))
     refine fun z dz hz kH ne=>?_
     have g9:=cM (o:=.own z) (o':=.ins (eY Y 4) dz []) hz kH
     refine ⟨z,dz,at_,.str x0,.ref u1,rfl,af,fun H9 but e9=>⟨rfl,?_⟩⟩
     have s9:aH H1 H9:=fun b' o q=>but b' o (g9 _ _ q) (aE q hz)
     refine k (.ref z) H9 ((s0.trans s1).trans s9) ?_
     unfold cj
     exact ⟨z,dz,cV rfl ⟨ho.1,e9,(.cons (rfl) (.cons (⟨u1,rfl,S1.same (s9)⟩) .nil))⟩⟩
   | 5,sh,er,ho =>
    obtain ⟨c0,rfl⟩:=sh
    cases pp with
    | cons h0 pp =>
    cases pp
    have hok:=ho.2
    have h0:bg H c0 _:=h0
    have gc0:BJ c0:=hok (.cd c0) (by simp)
    refine (cV rfl (cV rfl ⟨r,cV rfl ⟨aW.of er,pB (by simp),fun t qE=>?_⟩⟩))
    rw [xg]
    have s0:=new (o:=.tup [.str (kw 5),.int at_]) qE
    refine ⟨t,cV rfl ⟨aW.of af,rfl,_,cV rfl ⟨_,cV rfl ⟨rfl,?_⟩⟩⟩⟩
    refine (cV rfl ⟨rfl,cV rfl (bC (bE (by decide +kernel)) ?_)⟩)
    refine (cV rfl ⟨rfl,cV rfl (bC (bE (by decide +kernel)) ?_)⟩)
    refine (cV rfl ⟨rfl,cV rfl (bC (bE (by decide +kernel)) ?_)⟩)
    refine (cV rfl ⟨rfl,cV rfl (bC (bE (by decide +kernel)) ?_)⟩)
    refine (cV rfl ⟨rfl,cV rfl (bC (bE (by decide +kernel)) ?_)⟩)
    refine (cV rfl ⟨rfl,cV rfl (cW rfl ?_)⟩)
    refine (cV rfl ?_)
    obtain ⟨⟨xs0,hx0⟩,hd0⟩:=gc0
    refine (cV rfl (cI (aW.of (s0 _ _ er)) rfl ⟨_,c0,xs0,rfl,h0.ao (ay.of s0),hd0,hx0,fun u0 H1 s1 S0=>?_⟩))
    refine fun z dz hz kH ne=>?_
    have g9:=cM (o:=.own z) (o':=.ins (eY Y 5) dz []) hz kH
    refine ⟨z,dz,at_,u0,rfl,af,fun H9 but e9=>⟨rfl,?_⟩⟩
    have s9:aH H1 H9:=fun b' o q=>but b' o (g9 _ _ q) (aE q hz)
    refine k (.ref z) H9 ((s0.trans s1).trans s9) ?_
    unfold cj
    exact ⟨z,dz,cV rfl ⟨ho.1,e9,(.cons (S0.ao (ay.of (s9))) .nil)⟩⟩
   | 6,sh,er,ho =>
    obtain ⟨l0,x1,q2,rfl⟩:=sh
    cases pp with
    | cons h0 pp =>
     cases pp with
     | cons h1 pp =>
      cases pp with
      | cons h2 pp =>
      cases pp
      have hok:=ho.2
      obtain ⟨r0,rfl,Q0⟩:=h0
      have gl0:l0.length≤20:=hok (.JP l0) (by simp)
      have h1:_=V.str x1:=h1
      subst h1
      obtain ⟨r2,Lk,rfl,JK,ML⟩:=h2
      have gq2:q2.length≤20∧∀q∈q2,uD q.1 q.2:=hok (.JY q2) (by simp)
      refine (cV rfl (cV rfl ⟨r,cV rfl ⟨aW.of er,pB (by simp),fun t qE=>?_⟩⟩))
      rw [xg]
      have s0:=new (o:=.tup [.str (kw 6),.int at_]) qE
      refine ⟨t,cV rfl ⟨aW.of af,rfl,_,cV rfl ⟨_,cV rfl ⟨rfl,?_⟩⟩⟩⟩
      refine (cV rfl ⟨rfl,cV rfl (bC (bE (by decide +kernel)) ?_)⟩)
      refine (cV rfl ⟨rfl,cV rfl (bC (bE (by decide +kernel)) ?_)⟩)
      refine (cV rfl ⟨rfl,cV rfl (bC (bE (by decide +kernel)) ?_)⟩)
      refine (cV rfl ⟨rfl,cV rfl (bC (bE (by decide +kernel)) ?_)⟩)
      refine (cV rfl ⟨rfl,cV rfl (bC (bE (by decide +kernel)) ?_)⟩)
      refine (cV rfl ⟨rfl,cV rfl (bC (bE (by decide +kernel)) ?_)⟩)
      refine (cV rfl ⟨rfl,cV rfl (cW rfl ?_)⟩)
      refine (cV rfl ?_)
      refine (cV rfl (cI (aW.of (s0 _ _ er)) rfl ⟨r0,cV rfl ⟨.inr (aW.of (s0 _ _ Q0)),fun ll UE=>?_⟩⟩))
      have s1:=s0.trans (new (o:=.lst (l0.map V.str)) UE)
      refine (cV rfl (cI (aW.of (s1 _ _ er)) rfl ?_))
      have lz:=aD ML
      refine (cV rfl (cI (aW.of (s1 _ _ er)) rfl ⟨r2,rfl,⟨Lk,aW.of (s1 _ _ JK)⟩,cT (xs:=Lk) (fun i ys H'=>aH (upd (upd H t (.tup [.str (kw 6),.int at_])) ll (.lst (l0.map V.str))) H'∧Paired (DO Y.z H') ys (q2.take i)) ⟨aH.refl _,.nil⟩ (fun i ys H' _ q=>aW.of (q.1 _ _ (s1 _ _ JK))) ?_ ?_⟩))
      ·rintro i x ys H' hix ⟨sm,py⟩
       obtain ⟨c,fK,px,rfl,hx⟩:=bB ML hix
       have oU:=List.mem_of_getElem? fK
       have wR:=(List.getElem?_eq_some_iff.mp fK).1
       have mH:ys.length≤i:=by
        rw [aD py,List.length_take]
        omega
       refine ⟨Ext.one,gk (cV rfl ⟨px,c.1,c.2,rfl,hx.same (s1.trans sm),gq2.2 c oU,fun u H1 ve S=>⟨line _ (by omega),sm.trans ve,?_⟩⟩)⟩
       rw [take_snoc fK]
       exact bx (L2.Paired.cQ py fun _ _ z=>z.ao (ay.of ve)) ⟨u,rfl,S⟩
      rintro ys H' ⟨sm,py⟩ q hq
      rw [lz,List.take_length] at py
      have mH:=aD py
      have s2:=(s1.trans sm).trans (new (o:=.lst ys) hq)
      have Eb:=new (o:=.lst ys) hq _ _ (sm _ _ (show upd (upd H t (.tup [.str (kw 6),.int at_])) ll (.lst (l0.map V.str)) ll=some (.lst (l0.map V.str)) from af))
      refine fun z dz hz kH ne=>?_
      have g9:=cM (o:=.own z) (o':=.ins (eY Y 6) dz []) hz kH
      refine ⟨z,dz,ll,q,at_,.str x1,l0.map V.str,ys,rfl,af,g9 _ _ Eb,g9 _ _ af,fun t1 t2 H9 but e9 E1 E2=>⟨rfl,?_⟩⟩
      have s9:aH (upd H' q (.lst ys)) H9:=fun b' o q=>but b' o (g9 _ _ q) (aE q hz)
      refine k (.ref z) H9 (s2.trans s9) ?_
      unfold cj
      exact ⟨z,dz,cV rfl ⟨ho.1,e9,.cons ⟨t1,rfl,E1⟩ (.cons rfl (.cons ⟨t2,ys,rfl,E2,by omega,L2.Paired.cQ py fun _ _ z=>z.ao (ay.of ((new hq).trans s9))⟩ .nil))⟩⟩
  | jD at_ c t e =>
   unfold fE at hP
   unfold cO.ok at ho
   unfold cO.dep at hd
   obtain ⟨r,uc,t1,t2,us,ws,rfl,er,hc,e1,h1,e2,h2⟩:=hP
   refine (cV rfl (cV rfl ⟨r,cV rfl ⟨aW.of er,pB (by simp),fun tt qE=>?_⟩⟩))
   rw [xg]
   have s0:=new (o:=.tup [.str "choose",.int at_]) qE
   refine ⟨tt,cV rfl ⟨aW.of af,rfl,_,cV rfl ⟨_,cV rfl ⟨rfl,?_⟩⟩⟩⟩
   refine (cV rfl ⟨rfl,cV rfl (bC (bE (by decide +kernel)) ?_)⟩)
   refine (cV rfl ⟨rfl,cV rfl (bC (bE (by decide +kernel)) ?_)⟩)
   refine (cV rfl ⟨rfl,cV rfl (bC (bE (by decide +kernel)) ?_)⟩)
   refine (cV rfl ⟨rfl,cV rfl (bC (bE (by decide +kernel)) ?_)⟩)
   refine (cV rfl ⟨rfl,cV rfl (bC (bE (by decide +kernel)) ?_)⟩)
   refine (cV rfl ⟨rfl,cV rfl (bC (bE (by decide +kernel)) ?_)⟩)
   refine (cV rfl ⟨rfl,cV rfl (bC (bE (by decide +kernel)) ?_)⟩)
   obtain ⟨⟨xs,hx⟩,hcd⟩:=ho.1
   refine (cV rfl (cI (aW.of (s0 _ _ er)) rfl ⟨uc,c,xs,rfl,hc.ao (ay.of s0),hcd,hx,fun vc H1 s1 C1=>?_⟩))
   have sA:=s0.trans s1
   refine (cV rfl ⟨rfl,cV rfl (cW rfl ?_)⟩)
   refine (cV rfl (cV rfl (cV rfl (cI (aW.of (sA _ _ er)) rfl ⟨t1,us,t,rfl,sA _ _ e1,h1.ao (ay.of sA),ho.2.2.2.1,by omega,ho.2.1,fun q1 xr H2 s2 f2 E1 P1=>?_⟩))))
   have sB:=sA.trans s2
   refine (cV rfl (cI (aW.of (sB _ _ er)) rfl ⟨t2,ws,e,rfl,sB _ _ e2,h2.ao (ay.of sB),ho.2.2.2.2,by omega,ho.2.2.1,fun q2 pN H3 s3 f3 E2 P2=>?_⟩))
   refine fun z dz hz kH ne=>?_
   have g9:=cM (o:=.own z) (o':=.ins Y.ch dz []) hz kH
   refine ⟨z,dz,q1,q2,at_,vc,xr,pN,rfl,af,g9 _ _ (s3 _ _ E1),g9 _ _ E2,fun t1' rD H9 but e9 F1 F2=>⟨rfl,?_⟩⟩
   have s9:aH H3 H9:=fun b' o q=>but b' o (g9 _ _ q) (aE q hz)
   have l1:=aD (dF.mp P1)
   have l2:=aD (dF.mp P2)
   have m1:=ho.2.1
   have m2:=ho.2.2.1
   refine k (.ref z) H9 ((sB.trans s3).trans s9) ?_
   unfold cj
   exact ⟨z,dz,vc,t1',rD,xr,pN,rfl,e9,C1.ao (ay.of ((s2.trans s3).trans s9)),F1,by omega,P1.ao (ay.of (s3.trans s9)),F2,by omega,P2.ao (ay.of s9)⟩
  | rep at_ c hs f b =>
   unfold fE at hP
   unfold cO.ok at ho
   unfold cO.dep at hd
   obtain ⟨r,uc,uh,uf,t2,ws,rfl,er,hc,hh,hf,e2,h2⟩:=hP
   refine (cV rfl (cV rfl ⟨r,cV rfl ⟨aW.of er,pB (by simp),fun tt qE=>?_⟩⟩))
   rw [xg]
   have s0:=new (o:=.tup [.str "repeat",.int at_]) qE
   refine ⟨tt,cV rfl ⟨aW.of af,rfl,_,cV rfl ⟨_,cV rfl ⟨rfl,?_⟩⟩⟩⟩
   refine (cV rfl ⟨rfl,cV rfl (bC (bE (by decide +kernel)) ?_)⟩)
   refine (cV rfl ⟨rfl,cV rfl (bC (bE (by decide +kernel)) ?_)⟩)
   refine (cV rfl ⟨rfl,cV rfl (bC (bE (by decide +kernel)) ?_)⟩)
   refine (cV rfl ⟨rfl,cV rfl (bC (bE (by decide +kernel)) ?_)⟩)
   refine (cV rfl ⟨rfl,cV rfl (bC (bE (by decide +kernel)) ?_)⟩)
   refine (cV rfl ⟨rfl,cV rfl (bC (bE (by decide +kernel)) ?_)⟩)
   refine (cV rfl ⟨rfl,cV rfl (bC (bE (by decide +kernel)) ?_)⟩)
   obtain ⟨⟨xs,hx⟩,hcd⟩:=ho.1
   refine (cV rfl (cI (aW.of (s0 _ _ er)) rfl ⟨uc,c,xs,rfl,hc.ao (ay.of s0),hcd,hx,fun vc H1 s1 C1=>?_⟩))
   have sA:=s0.trans s1
   refine (cV rfl ⟨rfl,cV rfl (bC (bE (by decide +kernel)) ?_)⟩)
   cases f with
   | none =>
    have hf:uf=V.dM:=hf
    subst hf
    refine (cV rfl (cI (aW.of (sA _ _ er)) rfl ⟨rfl,cV rfl (jz rfl ?_)⟩))
    refine (cV rfl (cV rfl (cV rfl (cI (aW.of (sA _ _ er)) rfl ⟨uh,hs,rfl,hh.ao (ay.of sA),ho.2.1,ho.2.2.1,fun q1 xr H2 s2 f2 E1 P1=>?_⟩))))
    have sB:=sA.trans s2
    refine (cV rfl ?_)
    refine (cV rfl (cI (aW.of (sB _ _ er)) rfl ⟨t2,ws,b,rfl,sB _ _ e2,h2.ao (ay.of sB),ho.2.2.2.2.2,by omega,ho.2.2.2.2.1,fun q2 pN H3 s3 f3 E2 P2=>?_⟩))
    refine fun z dz hz kH ne=>?_
    have g9:=cM (o:=.own z) (o':=.ins Y.rp dz []) hz kH
    have l1:=aD P1
    have l2:=aD (dF.mp P2)
    have m1:=ho.2.1
    have m2:=ho.2.2.2.2.1
    have tp:∀u∈xr,∃r xs,u=V.ref r∧upd (upd H3 dz (.own z)) z (.ins Y.rp dz []) r=some (.tup xs):=fun u hu=>by
     obtain ⟨i,hi⟩:=List.mem_iff_getElem?.mp hu
     obtain ⟨c',_,r',w',e',jU,_⟩:=bB P1 hi
     exact ⟨r',_,e',g9 _ _ (s3 _ _ jU)⟩
    refine ⟨z,dz,q1,q2,at_,vc,.dM,xr,pN,rfl,af,g9 _ _ (s3 _ _ E1),by omega,tp,g9 _ _ E2,fun t1' rD H9 but e9 F1 F2=>⟨rfl,?_⟩⟩
    have s9:aH H3 H9:=fun b' o q=>but b' o (g9 _ _ q) (aE q hz)
    refine k (.ref z) H9 ((sB.trans s3).trans s9) ?_
    unfold cj
    exact ⟨z,dz,vc,.ref t1',.dM,rD,pN,rfl,e9,C1.ao (ay.of ((s2.trans s3).trans s9)),⟨t1',xr,rfl,F1,by omega,L2.Paired.cQ P1 fun _ _ ⟨r',w',e',jU,d'⟩=>⟨r',w',e',(s3.trans s9) _ _ jU,d'.ao (ay.of (s3.trans s9))⟩⟩,rfl,F2,by omega,P2.ao (ay.of s9)⟩
   | some q =>
    obtain ⟨rf,df,rfl,KA,Df⟩:=hf
    refine (cV rfl (cI (aW.of (sA _ _ er)) rfl ⟨rfl,cV rfl (lQ (fun z=>by cases z) ?_)⟩))
    refine (cV rfl (cI (aW.of (sA _ _ er)) rfl (cI (aW.of (sA _ _ KA)) rfl ?_)))
    refine (cV rfl (cI (aW.of (sA _ _ er)) rfl (cI (aW.of (sA _ _ KA)) rfl ⟨df,q.2.1,q.2.2,rfl,Df.same sA,ho.2.2.2.1 q rfl,fun uq Hq sq Sq0=>?_⟩)))
    refine ⟨(szl 2),fun qf NG=>?_⟩
    have sF:=sq.trans (new (o:=.tup [.int q.1,.ref uq]) NG)
    have C1:=C1.ao (ay.of sF)
    have sA:=sA.trans sF
    have Sf:=Sq0.same (new (o:=.tup [.int q.1,.ref uq]) NG)
    have Q3:upd Hq qf (.tup [.int q.1,.ref uq]) qf=some (.tup [.int q.1,.ref uq]):=af
    generalize upd Hq qf (.tup [.int q.1,.ref uq])=H1 at sF C1 sA Sf Q3 ⊢
    refine (cV rfl (cV rfl (cV rfl (cI (aW.of (sA _ _ er)) rfl ⟨uh,hs,rfl,hh.ao (ay.of sA),ho.2.1,ho.2.2.1,fun q1 xr H2 s2 f2 E1 P1=>?_⟩))))
    have sB:=sA.trans s2
    refine (cV rfl ?_)
    refine (cV rfl (cI (aW.of (sB _ _ er)) rfl ⟨t2,ws,b,rfl,sB _ _ e2,h2.ao (ay.of sB),ho.2.2.2.2.2,by omega,ho.2.2.2.2.1,fun q2 pN H3 s3 f3 E2 P2=>?_⟩))
    refine fun z dz hz kH ne=>?_
    have g9:=cM (o:=.own z) (o':=.ins Y.rp dz []) hz kH
    have l1:=aD P1
    have l2:=aD (dF.mp P2)
    have m1:=ho.2.1
    have m2:=ho.2.2.2.2.1
    have tp:∀u∈xr,∃r xs,u=V.ref r∧upd (upd H3 dz (.own z)) z (.ins Y.rp dz []) r=some (.tup xs):=fun u hu=>by
     obtain ⟨i,hi⟩:=List.mem_iff_getElem?.mp hu
     obtain ⟨c',_,r',w',e',jU,_⟩:=bB P1 hi
     exact ⟨r',_,e',g9 _ _ (s3 _ _ jU)⟩
    refine ⟨z,dz,q1,q2,at_,vc,(.ref qf),xr,pN,rfl,af,g9 _ _ (s3 _ _ E1),by omega,tp,g9 _ _ E2,fun t1' rD H9 but e9 F1 F2=>⟨rfl,?_⟩⟩
    have s9:aH H3 H9:=fun b' o q=>but b' o (g9 _ _ q) (aE q hz)
    refine k (.ref z) H9 ((sB.trans s3).trans s9) ?_
    unfold cj
    exact ⟨z,dz,vc,.ref t1',(.ref qf),rD,pN,rfl,e9,C1.ao (ay.of ((s2.trans s3).trans s9)),⟨t1',xr,rfl,F1,by omega,L2.Paired.cQ P1 fun _ _ ⟨r',w',e',jU,d'⟩=>⟨r',w',e',(s3.trans s9) _ _ jU,d'.ao (ay.of (s3.trans s9))⟩⟩,⟨qf,uq,rfl,((s2.trans s3).trans s9) _ _ Q3,Sf.same ((s2.trans s3).trans s9)⟩,F2,by omega,P2.ao (ay.of s9)⟩
abbrev tP:Stmt:=top 52
theorem gr:aQ ["_law_told","_law_steps_here","_law_needs"] ["_law_told"] (ak tP):=⟨rfl,rfl,rfl,by decide +kernel,rfl,by decide +kernel,by decide +kernel⟩
theorem Na {f:Addr} {fd:FuncData} {Y:Cy} {fS:Addr} {n:Nat} (F:dX K "_law_helper_made" "_law_helper_made" tP f fd) (T:Txt K mg Y.z.s) (U:dW K mg Y.z) (J:eW K mg Y fS) (aV:Dn P w K mg base 16 "_law_steps_made" ["_law_steps_here"] (jE Y 3)) (cG:Dn P w K mg base 9 "_law_pairs_made" ["_law_pairs"] (n9 Y.z)) (Ji:Mr P w K mg base 2 Y.hp ["self","at","name","params","answers","needs","gives","steps"] (EL Y)):bH P w K mg base dg 17 f fd ["_law_told"] (qO Y):=by
 refine F.ok gr (fun vs H Q E h=>?_) (fun cdv A outer s H vs Q E hr h=>?_)
 ·obtain ⟨v,h,rfl,hT,ho,k⟩:=h
  rfl
 ·obtain ⟨v,h,rfl,hT,ho,k⟩:=h
  have hu:=bh hr
  rw [show av tP=[_,_,_] from rfl]
  refine ⟨_,(ai (aT (i:=1) gr.nd rfl (Or.inl rfl) (au aV.ok (hr.mono (by first | decide | omega)) rfl aV.mm aV.kp aV.b .nil aB (aa (aJ aI (pv 0) aj (fun _ _=>rfl)) ah)))
   (ai (aT (i:=2) gr.nd rfl (Or.inl rfl) (au cG.ok (hr.mono (by first | decide | omega)) rfl cG.mm cG.kp cG.b .nil aB (aa (aJ aI (pv 0) aj (fun _ _=>rfl)) ah)))
   (aA (aM (dh Ji.me Ji.ok (hr.mono (by first | decide | omega)) rfl J.mgH Ji.b .nil aB (aa (aJ aI (pv 0) aj (fun _ _=>rfl)) (aa (aJ aI (pv 0) aj (fun _ _=>rfl)) (aa (aU gh (by rfl) T.list boot_list (aa (aJ aI (pv 0) aj (fun _ _=>rfl)) ah)) (aa (aU gh (by rfl) T.list boot_list (aa (aJ aI (pv 0) aj (fun _ _=>rfl)) ah)) (aa (pv 2) (aa (au cG.ok (hr.mono (by first | decide | omega)) rfl cG.mm cG.kp cG.b .nil aB (aa (aJ aI (pv 0) aj (fun _ _=>rfl)) ah)) (aa (pv 1) ah)))))))))))),?_⟩
  obtain ⟨r,t1,t2,v1,v2,t3,us,rfl,er,e1,e2,h1,h2,e3,h3⟩:=hT
  refine (cV rfl (cI (aW.of er) rfl ⟨t3,us,h.st,rfl,e3,h3,ho.st,ho.dp,ho.sl,fun q1 xr H1 s1 f1 E1 P1=>?_⟩))
  refine (cV rfl (cI (aW.of (s1 _ _ er)) rfl ⟨v1,h.nd,rfl,h1.ao (ay.of s1),ho.nl,ho.nd,fun q2 pN H2 s2 f2 E2 P2=>?_⟩))
  have sA:=s1.trans s2
  refine (cV rfl (cI (aW.of (sA _ _ er)) rfl ?_))
  refine (cV rfl (cI (aW.of (sA _ _ er)) rfl ?_))
  refine (cV rfl (cI (aW.of (sA _ _ er)) rfl ⟨t1,cV rfl ⟨.inr (aW.of (sA _ _ e1)),fun l1 hl1=>?_⟩⟩))
  have s3:=sA.trans (new (o:=.lst (h.ps.map V.str)) hl1)
  refine (cV rfl (cI (aW.of (s3 _ _ er)) rfl ⟨t2,cV rfl ⟨.inr (aW.of (s3 _ _ e2)),fun l2 hl2=>?_⟩⟩))
  have s4:=s3.trans (new (o:=.lst (h.an.map V.str)) hl2)
  have s24:aH H2 (upd (upd H2 l1 (.lst (h.ps.map V.str))) l2 (.lst (h.an.map V.str))):=aH.new (new hl1) hl2
  have JL:upd (upd H2 l1 (.lst (h.ps.map V.str))) l2 (.lst (h.an.map V.str)) l1=some (.lst (h.ps.map V.str)):=new hl2 _ _ af
  have Eb:upd (upd H2 l1 (.lst (h.ps.map V.str))) l2 (.lst (h.an.map V.str)) l2=some (.lst (h.an.map V.str)):=af
  generalize upd (upd H2 l1 (.lst (h.ps.map V.str))) l2 (.lst (h.an.map V.str))=H4 at s4 s24 JL Eb ⊢
  refine (cV rfl ?_)
  refine (cV rfl (cI (aW.of (s4 _ _ er)) rfl ⟨v2,h.gv,rfl,h2.ao (ay.of s4),ho.gl,ho.gv,fun q5 O1 H5 s5 f5 E5 P5=>?_⟩))
  refine (cV rfl ?_)
  refine fun z dz hz kH ne=>?_
  have g9:=cM (o:=.own z) (o':=.ins Y.hp dz []) hz kH
  have TQ:=aD (dF.mp P1)
  have TN:=aD P2
  have ll5:=aD P5
  have n1:=ho.nl
  have n2:=ho.gl
  have n3:=ho.sl
  have OG:=s24.trans s5
  have tp2:∀u∈pN,∃r xs,u=V.ref r∧upd (upd H5 dz (.own z)) z (.ins Y.hp dz []) r=some (.tup xs):=fun u hu=>by
   obtain ⟨i,hi⟩:=List.mem_iff_getElem?.mp hu
   obtain ⟨c',_,r',w',e',jU,_⟩:=bB P2 hi
   exact ⟨r',_,e',g9 _ _ (OG _ _ jU)⟩
  have tp5:∀u∈O1,∃r xs,u=V.ref r∧upd (upd H5 dz (.own z)) z (.ins Y.hp dz []) r=some (.tup xs):=fun u hu=>by
   obtain ⟨i,hi⟩:=List.mem_iff_getElem?.mp hu
   obtain ⟨c',_,r',w',e',jU,_⟩:=bB P5 hi
   exact ⟨r',_,e',g9 _ _ jU⟩
  refine ⟨z,dz,l1,l2,q2,q5,q1,h,pN,O1,xr,rfl,af,g9 _ _ (s5 _ _ JL),g9 _ _ (s5 _ _ Eb),g9 _ _ (OG _ _ E2),by omega,tp2,g9 _ _ E5,by omega,tp5,g9 _ _ (OG _ _ (s2 _ _ E1)),fun t1' rD t3' t4' t5' H9 but e9 F1 F2 F3 F4 F5=>⟨rfl,?_⟩⟩
  have s9:aH H5 H9:=fun b' o q=>but b' o (g9 _ _ q) (aE q hz)
  refine k (.ref z) H9 ((s4.trans s5).trans s9) ⟨z,dz,t1',rD,.ref t3',.ref t4',t5',xr,rfl,e9,F1,F2,⟨t3',pN,rfl,F3,by omega,L2.Paired.cQ P2 fun _ _ ⟨r',w',e',jU,d'⟩=>⟨r',w',e',(OG.trans s9) _ _ jU,d'.ao (ay.of (OG.trans s9))⟩⟩,⟨t4',O1,rfl,F4,by omega,L2.Paired.cQ P5 fun _ _ ⟨r',w',e',jU,d'⟩=>⟨r',w',e',s9 _ _ jU,d'.ao (ay.of s9)⟩⟩,F5,by omega,P1.ao (ay.of ((s2.trans OG).trans s9))⟩
abbrev j6:Stmt:=top 38
theorem vX:aQ ["_law_helpers"] ["_law_helpers"] (ak j6):=⟨rfl,rfl,rfl,by decide +kernel,rfl,by decide +kernel,by decide +kernel⟩
theorem GL {f:Addr} {fd:FuncData} {Y:Cy} {fS:Addr} {n:Nat} (F:dX K "_law_plain" "_law_plain" j6 f fd) (T:Txt K mg Y.z.s) (U:dW K mg Y.z) (J:eW K mg Y fS) :bH P w K mg base dg 1 f fd ["_law_helpers"] fF:=by
 refine F.ok vX (fun vs H Q E h=>?_) (fun cdv A outer s H vs Q E hr h=>?_)
 ·obtain ⟨p,us,hs,rfl,hH,k⟩:=h
  rfl
 ·obtain ⟨p,us,hs,rfl,hH,k⟩:=h
  have hu:=bh hr
  rw [show av j6=[_] from rfl]
  refine ⟨_,(aA (aM (cK (br ["_law_one"] [] [] rfl (by decide +kernel) (by decide +kernel) (by with_unfolding_all rfl) (by exact trivial) (by rfl) rfl (by rfl)) rfl (gp (pv 0)) (fun _ _ _ _=>(aP (i:=0) (show List.Nodup (["_law_one"]:List Str) by decide +kernel) rfl (Or.inl rfl) (Or.inr rfl))) (fun _ _ _ _=>(oE (aN (Bg (K:=K) rfl (uN hr)) (cK (br ["_law_param"] [] [] rfl (by decide +kernel) (by decide +kernel) (by with_unfolding_all rfl) (by exact trivial) (by rfl) rfl (by rfl)) rfl (J3 (K:=K) rfl (aJ (Cu (K:=K) rfl) (pv 0) aj (fun _ _=>rfl))) (fun _ _ _ _=>(aP (i:=0) (show List.Nodup (["_law_param"]:List Str) by decide +kernel) rfl (Or.inl rfl) (Or.inr rfl))) (fun _ _ _ _=>(oE (aN cS (aJ qC (pv 0) aj (fun _ _=>rfl)) bf (aR _)))) (fun _ _ _ _=>(pv 0))) (cP ah) (aR _)))) (fun _ _ _ _=>(pv 0))))),?_⟩
  obtain ⟨ep,hp,hg,hl⟩:=hH
  have nJ:=aD hp
  refine (cV rfl ⟨p,rfl,⟨us,bS.of ep⟩,eS (xs:=us) (fun i ys H'=>aH H H'∧ys.length≤i) ⟨aH.refl _,Nat.le_refl _⟩ (fun i ys H' _ q=>bS.of (q.1 _ _ ep)) ?_ ?_⟩)
  ·rintro i x ys H' hix ⟨sm,mH⟩
   obtain ⟨h,hhi,hx⟩:=bB hp hix
   have hm:=List.mem_of_getElem? hhi
   have wR:=(List.getElem?_eq_some_iff.mp hhi).1
   obtain ⟨r,t1,t2,v1,v2,t3,VE,rfl,er,e1,_⟩:=hx
   have gn:=(hg h hm).nm.ps
   have gl:=(hg h hm).ok.ps
   refine ⟨Ext.one,?_⟩
   refine (cV rfl (cI (aW.of (sm _ _ er)) rfl ⟨t1,rfl,⟨_,aW.of (sm _ _ e1)⟩,cT (xs:=h.ps.map V.str) (fun j zs H2=>aH H' H2∧zs.length≤j) ⟨aH.refl _,Nat.le_refl _⟩ (fun j zs H2 _ q=>aW.of (q.1 _ _ (sm _ _ e1))) ?_ ?_⟩))
   ·rintro j y zs H2 hj ⟨s2,lz⟩
    have hjl:j<h.ps.length:=by have:=(List.getElem?_eq_some_iff.mp hj).1;rw [List.length_map] at this;exact this
    rw [gC hjl] at hj
    cases hj
    obtain ⟨n1,n2⟩:=gn h.ps[j] (List.getElem_mem hjl)
    obtain ⟨c,hc⟩:=BQ n1
    refine ⟨Ext.one,cV rfl ⟨_,0,c,rfl,rfl,Nat.le_of_lt (line _ (by omega)),hc,rfl,cV rfl ?_⟩⟩
    refine rM (fun hb=>?_) fun hb=>?_
    ·exact (cV rfl ⟨line _ (by omega),s2,by rw [List.length_append];show zs.length+1≤j+1;omega⟩)
    ·exact ⟨s2,by omega⟩
   rintro zs H2 ⟨s2,lz⟩ q hq
   refine ⟨(Nat.zero_le _),fun q2 hq2=>?_⟩
   refine ⟨q,q2,cV rfl ⟨rfl,bS.of (new hq2 _ _ af),bS.of af,cV rfl ?_⟩⟩
   have sC:=(sm.trans (s2.trans (new (o:=.lst zs) hq))).trans (new (o:=.lst []) hq2)
   refine rM (fun hb=>?_) fun hb=>?_
   ·exact (cV rfl ⟨line _ (by omega),sC,by rw [List.length_append];show ys.length+1≤i+1;omega⟩)
   ·exact ⟨sC,by omega⟩
  rintro ys H' ⟨sm,mH⟩ q hq
  exact k q ys _ (sm.trans (new hq)) af
abbrev iC:Stmt:=top 40
theorem vW:aQ ["_law_draw","_law_own","_law_many","_law_deep","_law_helpers"] ["_law_draw","_law_own","_law_many","_law_deep","_law_helpers"] (ak iC):=⟨rfl,rfl,rfl,by decide +kernel,rfl,by decide +kernel,by decide +kernel⟩
theorem vn {f:Addr} {fd:FuncData} {Y:Cy} {fS:Addr} {n:Nat} (F:dX K "_law_steps" "_law_steps" iC f fd) (T:Txt K mg Y.z.s) (U:dW K mg Y.z) (J:eW K mg Y fS) (w4:Dn P w K mg base (2*n+6) "_law_step" ["_law_draw","_law_own","_law_deep","_law_helpers"] (oh n)):bH P w K mg base dg (2*n+7) f fd ["_law_draw","_law_own","_law_many","_law_deep","_law_helpers"] (dZ n):=by
 refine F.ok vW (fun vs H Q E h=>?_) (fun cdv A outer s H vs Q E hr h=>?_)
 ·obtain ⟨d,p,q,m,kk,o,us,hs,rfl,hk,hm,hd,hO,ho,hH,k⟩:=h
  rfl
 ·obtain ⟨d,p,q,m,kk,o,us,hs,rfl,hk,hm,hd,hO,ho,hH,k⟩:=h
  have hu:=bh hr
  rw [show av iC=[_] from rfl]
  refine ⟨_,(aA (aM (aU aK (by rfl) T.tuple boot_tuple (aa (cK (br ["_law_k"] ["_law_draw","_law_own","_law_deep","_law_helpers"] [0,1,3,4] rfl (by decide +kernel) (by decide +kernel) (by with_unfolding_all rfl) (by exact ⟨rfl,rfl,rfl,rfl,trivial⟩) (by rfl) rfl (by rfl)) rfl (fq rfl T.range (aa (pv 2) ah)) (fun _ _ _ _=>(aP (i:=0) (show List.Nodup (["_law_k","_law_draw","_law_own","_law_deep","_law_helpers"]:List Str) by decide +kernel) rfl (Or.inl rfl) (Or.inr rfl))) (fun _ _ _ _=>cy) (fun _ _ _ _=>(au w4.ok (hr.mono (by first | decide | omega)) rfl w4.mm w4.kp w4.b .nil aB (aa (pv 1) (aa (pv 2) (aa (pv 3) (aa (pv 4) ah))))))) ah)))),?_⟩
  refine (cV rfl ⟨(m:Int),rfl,by omega,by omega,iu (n:=(m:Int).toNat) (fun i ys H'=>bz d H H'∧Dr H' d∧∃l:List cO,gS H' l ys∧qW l∧ir l≤kk+1∧l.length=i) ⟨fun _ _ z _=>z,hd,[],(by unfold gS;rfl),(by unfold qW;trivial),Nat.zero_le _,rfl⟩ ?_ ?_⟩)
  ·rintro i ys H' hi ⟨F,D,l,hR,ok',dp,ll⟩
   have mH:=aD (gY.mp hR)
   refine ⟨Ext.one,gk (cV rfl (cV rfl (cV rfl (cV rfl ⟨d,p,q,kk,o,us,hs,rfl,hk,D,hO.next hd F,ho,hH.next hd F,fun v s H1 b1 d1 hv o1 e1=>⟨line _ (by omega),F.trans b1,d1,l++[s],?_,tX ok' o1,?_,?_⟩⟩))))⟩
   ·exact gY.mpr (bx (gY.mp (gS.ao (D.soft b1) hR)) hv)
   ·rw [mh];omega
   ·rw [List.length_append,ll];rfl
  rintro ys H' ⟨F,D,l,hR,ok',dp,ll⟩ q1 hq
  refine ⟨q1,cV rfl (.inl ⟨bS.of af,fun r hr'=>?_⟩)⟩
  have s3:aH H' (upd (upd H' q1 (.lst ys)) r (.tup ys)):=aH.new (new hq) hr'
  exact k r ys l _ ((F.new hq).new hr') (D.same s3) af (gS.ao (ay.of s3) hR) ok' dp (by rw [ll];omega)
abbrev j7:Stmt:=top 39
theorem fD:aQ ["_law_draw","_law_own","_law_helper_here","_law_names_here","_law_things","_law_makes","_law_uses","_law_answers","_law_given","_law_param"] ["_law_draw","_law_own","_law_helper_here"] (ak j7):=⟨rfl,rfl,rfl,by decide +kernel,rfl,by decide +kernel,by decide +kernel⟩
theorem Hg {f:Addr} {fd:FuncData} {Y:Cy} {fS:Addr} {n:Nat} (F:dX K "_law_call" "_law_call" j7 f fd) (T:Txt K mg Y.z.s) (U:dW K mg Y.z) (J:eW K mg Y fS) (aq:Dn P w K mg base 2 "_law_next" ["_law_draw","_law_size"] dJ) (aZ:Dn P w K mg base 3 "_law_sum" ["_law_draw","_law_things"] fM):bH P w K mg base dg 4 f fd ["_law_draw","_law_own","_law_helper_here"] fG:=by
 refine F.ok fD (fun vs H Q E h=>?_) (fun cdv A outer s H vs Q E hr h=>?_)
 ·obtain ⟨d,p,v,o,h,rfl,hd,hO,ho,hR,hg,k⟩:=h
  rfl
 ·obtain ⟨d,p,v,o,h,rfl,hd,hO,ho,hR,hg,k⟩:=h
  have hu:=bh hr
  rw [show av j7=[_,_,_,_,_,_] from rfl]
  refine ⟨_,(ai (tS (pv 1) (pZ rfl (bZ (aP (i:=3) fD.nd rfl (Or.inl rfl)) (bZ (aP (i:=4) fD.nd rfl (Or.inl rfl)) (bZ (aP (i:=5) fD.nd rfl (Or.inl rfl)) (bZ (aP (i:=6) fD.nd rfl (Or.inl rfl)) iz))))))
   (ai (aT (i:=7) fD.nd rfl (Or.inl rfl) (aJ aI (pv 2) aj (fun _ _=>rfl)))
   (ai (cH (aN Gx (bA bR (by rfl) T.len PySem.boot_len (aa (pv 7) ah)) (bA bR (by rfl) T.len PySem.boot_len (aa (pv 3) ah)) (aR _)) (aA (aM (aS (aa bf (aa (aJ cN (pv 3) aj (fun _ _=>rfl)) (aa (au aZ.ok (hr.mono (by first | decide | omega)) rfl aZ.mm aZ.kp aZ.b .nil aB (aa (pv 0) (aa (pv 4) ah))) ah)))))) bw)
   (ai (aT (i:=8) fD.nd rfl (Or.inl rfl) (cP ah))
   (ai (kc PassesOwn.never rfl (eX (aJ aI (pv 2) aj (fun _ _=>rfl))) (aP (i:=9) fD.nd rfl (Or.inl rfl)) (aA (cH (aN cS (aJ qC (pv 9) aj (fun _ _=>rfl)) bf (aR _)) (aA (fh (m6 PySem.F.plainAttrs_list PySem.F.slot_list_append PySem.F.type_list_append iW (pv 8) (aa (aS (aa (aS (aa (aS (aa (bN ic bf (aJ cN (pv 6) (au aq.ok (hr.mono (by first | decide | omega)) rfl aq.mm aq.kp aq.b .nil aB (aa (pv 0) (aa (bA bR (by rfl) T.len PySem.boot_len (aa (pv 6) ah)) ah))) (fun _ _=>rfl))) (aa aj ah))) ah)) (aa aj ah))) ah)))) (aA (fh (m6 PySem.F.plainAttrs_list PySem.F.slot_list_append PySem.F.type_list_append iW (pv 8) (aa (au aZ.ok (hr.mono (by first | decide | omega)) rfl aZ.mm aZ.kp aZ.b .nil aB (aa (pv 0) (aa (pv 4) ah))) ah)))))))
   (aA (aM (aS (aa bf (aa (aU aK (by rfl) T.tuple boot_tuple (aa (eu jW (pv 3) iy (dO (bA bR (by rfl) T.len PySem.boot_len (aa (pv 7) ah)))) ah)) (aa (aJ aI (pv 2) aj (fun _ _=>rfl)) (aa (aU aK (by rfl) T.tuple boot_tuple (aa (pv 8) ah)) ah)))))))))))),?_⟩
  obtain ⟨a1,a2,a3,a4,eo,ea,eb,ec,ee⟩:=id hO
  obtain ⟨r,t1,t2,v1,v2,t3,VE,rfl,er,e1,e2,_⟩:=id hR
  have two:2≤sizeLine:=Nat.le_of_lt (line 2 (by decide))
  have one:1≤sizeLine:=Nat.le_of_lt (line 1 (by decide))
  have w1:=ho.w1
  have w9:=ho.w9
  have lan:=hg.ok.an
  have lps:=hg.ok.ps
  refine (cV rfl ⟨p,cV rfl ⟨aW.of eo,rfl,_,cV rfl ⟨_,cV rfl ⟨_,cV rfl ⟨_,cV rfl ⟨rfl,?_⟩⟩⟩⟩⟩⟩)
  refine (cV rfl (cI (aW.of er) rfl ?_))
  refine (cV rfl ⟨t2,cV rfl ⟨.inr (aW.of e2),cV rfl ⟨a1,cV rfl ⟨.inl (bS.of ea),_,cV rfl ⟨rfl,cV rfl ?_⟩⟩⟩⟩⟩)
  refine rM (fun hb=>?_) fun hb=>?_
  ·refine (cV rfl (cL (bS.of ea) (bI (j:=0) (gC (by omega))) ?_))
   refine (cV rfl (cV rfl ⟨d,a2,o.th,rfl,hd,eb,(by have:=ho.t9;omega),ho.tl,fun rs ts m H1 b1 d1 D1 C1 L1 _ S1=>⟨(szl 3),fun q hq=>?_⟩⟩))
   refine k (.ref q) (.flat 0 0 [.tx o.ws[0],.sm ts m]) _ (b1.new hq) (d1.same (new hq)) ?_ (by unfold cO.ok;exact ⟨⟨_,_,_,rfl⟩,fun a ha=>by rcases List.mem_cons.mp ha with h | h;(rw [h];trivial);(rw [List.mem_singleton.mp h];exact ⟨C1,L1,S1⟩)⟩) rfl
   unfold lV
   exact ⟨q,cV rfl ⟨af,.cons rfl (.cons ⟨rs,rfl,D1.same (new hq)⟩ .nil)⟩⟩
  refine ⟨(Nat.zero_le _),fun G hG=>?_⟩
  have nGd:G≠d:=hd.ne hG
  have sG:=new (o:=.lst []) hG
  have nG4:a4≠G:=aE ee hG
  have nG2:a2≠G:=aE eb hG
  refine (cV rfl (cI (aW.of (sG _ _ er)) rfl ⟨t1,rfl,⟨_,aW.of (sG _ _ e1)⟩,wW (xs:=h.ps.map V.str) (fun i σ H'=>∃(k9:Option V) (us:List V) (qs:List (Ps×Int)),σ=[some (.ref d),some (.ref p),some (.ref r),some (.ref a1),some (.ref a2),some (.ref a3),some (.ref a4),some (.ref t2),some (.ref G),k9]∧bz d H H'∧Dr H' d∧H' G=some (.lst us)∧Paired (pH H') us qs∧(∀q∈qs,uD q.1 q.2)∧qs.length=i) ⟨none,[],[],rfl,bz.of sG,hd.same sG,af,.nil,(fun _ h=>nomatch h),rfl⟩ ?_ ?_ ?_⟩))
  ·rintro i σ H' _ ⟨k9,us,qs,rfl,F,D,eG,pq,gq,lq⟩
   exact aW.of ((hd.soft F).t _ _ e1)
  ·rintro i x σ H' hi ⟨k9,us,qs,rfl,F,D,eG,pq,gq,lq⟩
   have hil:i<h.ps.length:=by have:=(List.getElem?_eq_some_iff.mp hi).1;rw [List.length_map] at this;exact this
   rw [gC hil] at hi
   cases hi
   obtain ⟨n1,n2⟩:=hg.nm.ps h.ps[i] (List.getElem_mem hil)
   obtain ⟨c,hc⟩:=BQ n1
   have nJ:=aD pq
   have ee':=F _ _ ee (aX hd ee)
   have eb':=F _ _ eb (aX hd eb)
   have fin:∀(rq:Addr) (ts:Ps) (m:Int) (H1:Hp),bz d H H1→Dr H1 d→ay H' H1→H1 G=some (.lst us)→dN H1 rq ts m→uD ts m→∃(k9:Option V) (us':List V) (Xk:List (Ps×Int)),[some (V.ref d),some (.ref p),some (.ref r),some (.ref a1),some (.ref a2),some (.ref a3),some (.ref a4),some (.ref t2),some (.ref G),some (.str h.ps[i])]=[some (.ref d),some (.ref p),some (.ref r),some (.ref a1),some (.ref a2),some (.ref a3),some (.ref a4),some (.ref t2),some (.ref G),k9]∧bz d H (upd H1 G (.lst (us++[.ref rq])))∧Dr (upd H1 G (.lst (us++[.ref rq]))) d∧upd H1 G (.lst (us++[.ref rq])) G=some (.lst us')∧Paired (pH (upd H1 G (.lst (us++[.ref rq])))) us' Xk∧(∀q∈Xk,uD q.1 q.2)∧Xk.length=i+1:=fun rq ts m H1 F1 D1 k1 Oc Dq gg=>by
    have bG:bz G H1 (upd H1 G (.lst (us++[.ref rq]))):=bz.upd
    have kG:ay H1 (upd H1 G (.lst (us++[.ref rq]))):=ay.soft bG Oc vU
    refine ⟨_,us++[.ref rq],qs++[(ts,m)],rfl,fun b' o' e' n'=>?_,let ⟨x,y,e⟩:=D1;⟨x,y,bG _ _ e nGd.symm⟩,af,bx (L2.Paired.cQ pq fun _ _ z=>(z.ao k1).ao kG) ⟨rq,rfl,Dq.ao kG⟩,fun q hq=>?_,by rw [List.length_append,lq];rfl⟩
    ·rw [aY (aE e' hG)];exact F1 b' o' e' n'
    ·rcases List.mem_append.mp hq with z | z
     ·exact gq q z
     ·rw [List.mem_singleton.mp z];exact gg
   refine (cV rfl ⟨_,0,c,rfl,rfl,Nat.le_of_lt (line _ (by omega)),hc,rfl,cV rfl ?_⟩)
   refine rM (fun hb=>?_) fun hb=>?_
   ·have u1:=ho.u1
    have u9:=ho.u9
    refine (cV rfl ⟨.inl ⟨rfl,_,bS.of eG⟩,cV rfl (cV rfl (cV rfl ⟨a4,cV rfl ⟨.inl (bS.of ee'),d,(o.us.length:Int),(congrArg (fun z:Nat=>[V.ref d,V.int (z:Int)]) (List.length_map ..)),D,by omega,fun r1 H1 h1 b1 d1=>?_⟩⟩))⟩)
    have hr1:r1<o.us.length:=by omega
    have ul:=ho.ul _ (List.getElem_mem hr1)
    have ee1:=b1 _ _ ee' (aX D ee')
    refine (cL (bS.of ee1) (bI (gC hr1)) ⟨_,cV rfl ⟨rfl,(by show 1+_≤_;exact Nat.le_of_lt (line _ (by omega))),two,fun x1 Qw=>⟨one,fun x2 hx2=>⟨two,fun x3 hx3=>?_⟩⟩⟩⟩)
    have s3:=((new (o:=.tup [.str (("#":Str)++o.us[r1]),.int 1]) Qw).trans (new (o:=.tup [.ref x1]) hx2)).trans (new (o:=.tup [.ref x2,.int 0]) hx3)
    have Oc:=s3 _ _ (b1 _ _ eG nGd)
    refine ⟨G,us,cV rfl ⟨rfl,Oc,line _ (by omega),?_⟩⟩
    exact fin x3 [(("#":Str)++o.us[r1],1)] 0 _ ((F.trans b1).trans (bz.of s3)) (d1.same s3) (D.soft (b1.trans (bz.of s3))) Oc ⟨x2,af,[.ref x1],new hx3 _ _ af,oF ⟨x1,rfl,new hx3 _ _ (new hx2 _ _ af)⟩⟩ (Pn (by decide) EM EN)
   ·refine (cV rfl ⟨.inl ⟨rfl,_,bS.of eG⟩,cV rfl (cV rfl ⟨d,a2,o.th,rfl,D,eb',(by have:=ho.t9;omega),ho.tl,fun rs ts m H1 b1 d1 D1 C1 L1 _ S1=>?_⟩)⟩)
    have Oc:=b1 _ _ eG nGd
    refine ⟨G,us,cV rfl ⟨rfl,Oc,line _ (by omega),?_⟩⟩
    exact fin rs ts m H1 (F.trans b1) d1 (D.soft b1) Oc D1 ⟨C1,L1,S1⟩
  rintro σ H' ⟨k9,us,qs,rfl,F,D,eG,pq,gq,lq⟩
  have k1:ay H H':=hd.soft F
  have nJ:=aD pq
  have ea':=F _ _ ea (aX hd ea)
  rw [List.length_map] at lq
  refine (cV rfl (cV rfl ⟨t2,cV rfl ⟨.inr (aW.of (k1.t _ _ e2)),cV rfl ⟨a1,cV rfl ⟨bS.of ea',fun l1 hl1=>?_⟩⟩⟩⟩))
  rw [List.length_map,CO]
  refine ⟨l1,cV rfl (.inl ⟨bS.of af,fun r5 hr5=>?_⟩)⟩
  have s5:aH H' (upd (upd H' l1 (.lst ((o.ws.take h.an.length).map V.str))) r5 (.tup ((o.ws.take h.an.length).map V.str))):=aH.new (new hl1) hr5
  refine (cV rfl (cI (aW.of (s5 _ _ (k1.t _ _ er))) rfl ?_))
  refine (cV rfl ⟨G,cV rfl (.inl ⟨bS.of (s5 _ _ eG),fun r6 hr6=>⟨(szl 4),fun q hq=>?_⟩⟩)⟩)
  have s6:=(s5.trans (new (o:=.tup us) hr6)).trans (new (o:=.tup [.str "call",.ref r5,.str h.nm,.ref r6]) hq)
  refine k (.ref q) (.flat 6 0 [.JP (o.ws.take h.an.length),.tx h.nm,.JY qs]) _ (F.trans (bz.of s6)) (D.same s6) ?_ ?_ rfl
  ·unfold lV
   exact ⟨q,cV rfl ⟨af,.cons ⟨r5,rfl,new hq _ _ (new hr6 _ _ af)⟩ (.cons rfl (.cons ⟨r6,us,rfl,new hq _ _ af,L2.Paired.cQ pq fun _ _ z=>z.ao (ay.of s6)⟩ .nil))⟩⟩
  ·unfold cO.ok
   refine ⟨⟨_,_,_,rfl⟩,fun a ha=>?_⟩
   rcases List.mem_cons.mp ha with h1 | h1
   ·rw [h1];show (o.ws.take h.an.length).length≤20;rw [List.length_take];omega
   ·rcases List.mem_cons.mp h1 with h2 | h2
    ·rw [h2];trivial
    ·rw [List.mem_singleton.mp h2];exact ⟨by omega,gq⟩
abbrev cE:Stmt:=top 37
theorem cB:aQ ["_law_draw","_law_own","_law_deep","_law_helpers","_law_names_here","_law_things","_law_makes","_law_uses","_law_kind","_law_name","_law_word","_law_by","_law_thing","_law_sizes","_law_then","_law_other","_law_holds","_law_falls","_law_body","_law_some"] ["_law_draw","_law_own","_law_deep","_law_helpers"] (ak cE):=⟨rfl,rfl,rfl,by decide +kernel,rfl,by decide +kernel,by decide +kernel⟩
abbrev sD (i:Nat):Stmt:=(av cE).getD i (.Pass ⟨0,0,0,0⟩)
theorem ds4 {f:Addr} {Y:Cy} {fS:Addr} {n:Nat} (T:Txt K mg Y.z.s) (U:dW K mg Y.z) (J:eW K mg Y fS) (aq:Dn P w K mg base 2 "_law_next" ["_law_draw","_law_size"] dJ) (aZ:Dn P w K mg base 3 "_law_sum" ["_law_draw","_law_things"] fM) (az:Dn P w K mg base 5 "_law_condition" ["_law_draw","_law_things","_law_deep"] (cU 2)) (bL:Dn P w K mg base (2*n+7) "_law_steps" ["_law_draw","_law_own","_law_many","_law_deep","_law_helpers"] (dZ n)) (cz:Dn P w K mg base 1 "_law_plain" ["_law_helpers"] fF) (dm:Dn P w K mg base 4 "_law_call" ["_law_draw","_law_own","_law_helper_here"] fG) {cdv:Value} {A:Around} {outer:List Env} {s:Shared} {H0:Hp} {E:XK} (hr:dD (2*n+7) (A.deeper (envOfC "_law_step" (ak cE) s.heap.objs.size f cdv))) :
  ∃t,PS (gP dg P w K mg base ["_law_draw","_law_own","_law_deep","_law_helpers","_law_names_here","_law_things","_law_makes","_law_uses","_law_kind","_law_name","_law_word","_law_by","_law_thing","_law_sizes","_law_then","_law_other","_law_holds","_law_falls","_law_body","_law_some"] "_law_step" (ak cE) f cdv A outer s H0 E).qc (sD 4) t∧∀(D:Ends) (d p q a1 a2 a3 a4:Addr) (kk r1:Nat) (x9:Str) (o:Own) (us:List V) (hs:List Hl) (H H2:Hp),kk<n+1→o.ok→W9 H H2 d p q a1 a2 a3 a4 o us hs→(∀H3,W9 H H3 d p q a1 a2 a3 a4 o us hs→D.nx [some (.ref d),some (.ref p),some (.int (kk:Int)),some (.ref q),some (.ref a1),some (.ref a2),some (.ref a3),some (.ref a4),some (.int (r1:Int)),some (.str x9),none,none,none,none,none,none,none,none,none,none] H3)→(∀(v:V) (s:cO) (H':Hp),bz d H H'→Dr H' d→lV H' s v→s.ok→s.dep≤kk+1→D.rt v H')→t D [some (.ref d),some (.ref p),some (.int (kk:Int)),some (.ref q),some (.ref a1),some (.ref a2),some (.ref a3),some (.ref a4),some (.int (r1:Int)),some (.str x9),none,none,none,none,none,none,none,none,none,none] H2:=by
 have hu:=bh hr
 refine ⟨_,(cH (PW.pt (iJ (aN cS (pv 8) aj (aR _)) (gF (aN (jO (uN hr)) (pv 7) (cP ah) (aR _))))) (aA (aM (aS (aa bf (aa (pv 9) (aa (aJ cN (pv 7) (au aq.ok (hr.mono (by first | decide | omega)) rfl aq.mm aq.kp aq.b .nil aB (aa (pv 0) (aa (bA bR (by rfl) T.len PySem.boot_len (aa (pv 7) ah)) ah))) (fun _ _=>rfl)) (aa (au aZ.ok (hr.mono (by first | decide | omega)) rfl aZ.mm aZ.kp aZ.b .nil aB (aa (pv 0) (aa (pv 5) ah))) ah))))))) bw),fun D d p q a1 a2 a3 a4 kk r1 x9 o us hs H H2 hkn ho W nx k=>?_⟩
 refine (cV rfl ⟨rfl,cV rfl ?_⟩)
 by_cases hk:r1=1
 ·refine cW (by rw [hk];rfl) ?_
  refine (cV rfl ⟨(Nat.zero_le _),fun z1 hz1=>⟨a4,z1,cV rfl ⟨rfl,bS.of (new hz1 _ _ W.ee),bS.of af,cV rfl ?_⟩⟩⟩)
  have W:=W.same (new (o:=.lst []) hz1)
  refine lQ (wL ho.u1) ?_
  refine (cV rfl ?_)
  have Py:=ho.u1
  refine (cV rfl (cV rfl (cV rfl ⟨a4,cV rfl ⟨.inl (bS.of W.ee),d,((o.us).length:Int),(congrArg (fun z:Nat=>[V.ref d,V.int (z:Int)]) (List.length_map ..)),W.d,by omega,fun oB Eg h11 mj w6=>?_⟩⟩)))
  have Bs:oB<(o.us).length:=by omega
  have kx:=W.d.soft mj
  have W:=W.next mj w6
  refine (cL (bS.of W.ee) (bI (gC Bs)) ?_)
  refine (cV rfl (cV rfl ⟨d,a2,o.th,rfl,W.d,W.eb,(by have:=ho.t9;omega),ho.tl,fun v8 EG Qa K0 yz KH Li Te SN _ SG=>?_⟩))
  have kx:=W.d.soft yz
  have W:=W.next yz KH
  refine ⟨(szl 4),fun qq hq=>?_⟩
  refine k (.ref qq) (.flat 2 0 [.tx (x9),.tx ((o.us)[oB]),.sm EG Qa]) _ (W.f.new hq) (W.d.same (new hq)) ?_ (by unfold cO.ok;exact ⟨⟨_,_,_,_,rfl⟩,fun a ha=>by rcases List.mem_cons.mp ha with ha | ha;(rw [ha];exact trivial);(rcases List.mem_cons.mp ha with ha | ha;(rw [ha];exact trivial);(rw [List.mem_singleton.mp ha];exact ⟨Te,SN,SG⟩))⟩) (by unfold cO.dep;omega)
  unfold lV
  exact ⟨qq,cV rfl ⟨af,(.cons (rfl) (.cons (rfl) (.cons (⟨v8,rfl,Li.ao (ay.of (new hq))⟩) .nil)))⟩⟩
 exact bC (fun e=>hk (by have:=V.int.inj e;omega)) (fB (nx _ W))
theorem ds5 {f:Addr} {Y:Cy} {fS:Addr} {n:Nat} (T:Txt K mg Y.z.s) (U:dW K mg Y.z) (J:eW K mg Y fS) (aq:Dn P w K mg base 2 "_law_next" ["_law_draw","_law_size"] dJ) (aZ:Dn P w K mg base 3 "_law_sum" ["_law_draw","_law_things"] fM) (az:Dn P w K mg base 5 "_law_condition" ["_law_draw","_law_things","_law_deep"] (cU 2)) (bL:Dn P w K mg base (2*n+7) "_law_steps" ["_law_draw","_law_own","_law_many","_law_deep","_law_helpers"] (dZ n)) (cz:Dn P w K mg base 1 "_law_plain" ["_law_helpers"] fF) (dm:Dn P w K mg base 4 "_law_call" ["_law_draw","_law_own","_law_helper_here"] fG) {cdv:Value} {A:Around} {outer:List Env} {s:Shared} {H0:Hp} {E:XK} (hr:dD (2*n+7) (A.deeper (envOfC "_law_step" (ak cE) s.heap.objs.size f cdv))) :
  ∃t,PS (gP dg P w K mg base ["_law_draw","_law_own","_law_deep","_law_helpers","_law_names_here","_law_things","_law_makes","_law_uses","_law_kind","_law_name","_law_word","_law_by","_law_thing","_law_sizes","_law_then","_law_other","_law_holds","_law_falls","_law_body","_law_some"] "_law_step" (ak cE) f cdv A outer s H0 E).qc (sD 5) t∧∀(D:Ends) (d p q a1 a2 a3 a4:Addr) (kk r1:Nat) (x9:Str) (o:Own) (us:List V) (hs:List Hl) (H H2:Hp),kk<n+1→o.ok→W9 H H2 d p q a1 a2 a3 a4 o us hs→(∀H3,W9 H H3 d p q a1 a2 a3 a4 o us hs→D.nx [some (.ref d),some (.ref p),some (.int (kk:Int)),some (.ref q),some (.ref a1),some (.ref a2),some (.ref a3),some (.ref a4),some (.int (r1:Int)),some (.str x9),none,none,none,none,none,none,none,none,none,none] H3)→(∀(v:V) (s:cO) (H':Hp),bz d H H'→Dr H' d→lV H' s v→s.ok→s.dep≤kk+1→D.rt v H')→t D [some (.ref d),some (.ref p),some (.int (kk:Int)),some (.ref q),some (.ref a1),some (.ref a2),some (.ref a3),some (.ref a4),some (.int (r1:Int)),some (.str x9),none,none,none,none,none,none,none,none,none,none] H2:=by
 have hu:=bh hr
 refine ⟨_,(cH (PW.pt (iJ (aN cS (pv 8) aj (aR _)) (gF (aN (jO (uN hr)) (pv 7) (cP ah) (aR _))))) (aA (aM (aS (aa bf (aa (aJ cN (pv 7) (au aq.ok (hr.mono (by first | decide | omega)) rfl aq.mm aq.kp aq.b .nil aB (aa (pv 0) (aa (bA bR (by rfl) T.len PySem.boot_len (aa (pv 7) ah)) ah))) (fun _ _=>rfl)) (aa (au aZ.ok (hr.mono (by first | decide | omega)) rfl aZ.mm aZ.kp aZ.b .nil aB (aa (pv 0) (aa (pv 5) ah))) (aa (au aZ.ok (hr.mono (by first | decide | omega)) rfl aZ.mm aZ.kp aZ.b .nil aB (aa (pv 0) (aa (pv 5) ah))) ah))))))) bw),fun D d p q a1 a2 a3 a4 kk r1 x9 o us hs H H2 hkn ho W nx k=>?_⟩
 refine (cV rfl ⟨rfl,cV rfl ?_⟩)
 by_cases hk:r1=2
 ·refine cW (by rw [hk];rfl) ?_
  refine (cV rfl ⟨(Nat.zero_le _),fun z1 hz1=>⟨a4,z1,cV rfl ⟨rfl,bS.of (new hz1 _ _ W.ee),bS.of af,cV rfl ?_⟩⟩⟩)
  have W:=W.same (new (o:=.lst []) hz1)
  refine lQ (wL ho.u1) ?_
  have Py:=ho.u1
  refine (cV rfl (cV rfl (cV rfl ⟨a4,cV rfl ⟨.inl (bS.of W.ee),d,((o.us).length:Int),(congrArg (fun z:Nat=>[V.ref d,V.int (z:Int)]) (List.length_map ..)),W.d,by omega,fun oB Eg h11 mj w6=>?_⟩⟩)))
  have Bs:oB<(o.us).length:=by omega
  have kx:=W.d.soft mj
  have W:=W.next mj w6
  refine (cL (bS.of W.ee) (bI (gC Bs)) ?_)
  refine (cV rfl (cV rfl ⟨d,a2,o.th,rfl,W.d,W.eb,(by have:=ho.t9;omega),ho.tl,fun v8 EG Qa K0 yz KH Li Te SN _ SG=>?_⟩))
  have kx:=W.d.soft yz
  have W:=W.next yz KH
  refine (cV rfl (cV rfl ⟨d,a2,o.th,rfl,W.d,W.eb,(by have:=ho.t9;omega),ho.tl,fun W7 VJ m13 KZ Jp Rl D13 C13 L13 _ Z13=>?_⟩))
  have kx:=W.d.soft Jp
  have Li:=Li.ao kx
  have W:=W.next Jp Rl
  refine ⟨(szl 4),fun qq hq=>?_⟩
  refine k (.ref qq) (.flat 3 0 [.tx ((o.us)[oB]),.sm EG Qa,.sm VJ m13]) _ (W.f.new hq) (W.d.same (new hq)) ?_ (by unfold cO.ok;exact ⟨⟨_,_,_,_,_,rfl⟩,fun a ha=>by rcases List.mem_cons.mp ha with ha | ha;(rw [ha];exact trivial);(rcases List.mem_cons.mp ha with ha | ha;(rw [ha];exact ⟨Te,SN,SG⟩);(rw [List.mem_singleton.mp ha];exact ⟨C13,L13,Z13⟩))⟩) (by unfold cO.dep;omega)
  unfold lV
  exact ⟨qq,cV rfl ⟨af,(.cons (rfl) (.cons (⟨v8,rfl,Li.ao (ay.of (new hq))⟩) (.cons (⟨W7,rfl,D13.ao (ay.of (new hq))⟩) .nil)))⟩⟩
 exact bC (fun e=>hk (by have:=V.int.inj e;omega)) (fB (nx _ W))
theorem ds6 {f:Addr} {Y:Cy} {fS:Addr} {n:Nat} (T:Txt K mg Y.z.s) (U:dW K mg Y.z) (J:eW K mg Y fS) (aq:Dn P w K mg base 2 "_law_next" ["_law_draw","_law_size"] dJ) (aZ:Dn P w K mg base 3 "_law_sum" ["_law_draw","_law_things"] fM) (az:Dn P w K mg base 5 "_law_condition" ["_law_draw","_law_things","_law_deep"] (cU 2)) (bL:Dn P w K mg base (2*n+7) "_law_steps" ["_law_draw","_law_own","_law_many","_law_deep","_law_helpers"] (dZ n)) (cz:Dn P w K mg base 1 "_law_plain" ["_law_helpers"] fF) (dm:Dn P w K mg base 4 "_law_call" ["_law_draw","_law_own","_law_helper_here"] fG) {cdv:Value} {A:Around} {outer:List Env} {s:Shared} {H0:Hp} {E:XK} (hr:dD (2*n+7) (A.deeper (envOfC "_law_step" (ak cE) s.heap.objs.size f cdv))) :
  ∃t,PS (gP dg P w K mg base ["_law_draw","_law_own","_law_deep","_law_helpers","_law_names_here","_law_things","_law_makes","_law_uses","_law_kind","_law_name","_law_word","_law_by","_law_thing","_law_sizes","_law_then","_law_other","_law_holds","_law_falls","_law_body","_law_some"] "_law_step" (ak cE) f cdv A outer s H0 E).qc (sD 6) t∧∀(D:Ends) (d p q a1 a2 a3 a4:Addr) (kk r1:Nat) (x9:Str) (o:Own) (us:List V) (hs:List Hl) (H H2:Hp),kk<n+1→o.ok→W9 H H2 d p q a1 a2 a3 a4 o us hs→(∀H3,W9 H H3 d p q a1 a2 a3 a4 o us hs→D.nx [some (.ref d),some (.ref p),some (.int (kk:Int)),some (.ref q),some (.ref a1),some (.ref a2),some (.ref a3),some (.ref a4),some (.int (r1:Int)),some (.str x9),none,none,none,none,none,none,none,none,none,none] H3)→(∀(v:V) (s:cO) (H':Hp),bz d H H'→Dr H' d→lV H' s v→s.ok→s.dep≤kk+1→D.rt v H')→t D [some (.ref d),some (.ref p),some (.int (kk:Int)),some (.ref q),some (.ref a1),some (.ref a2),some (.ref a3),some (.ref a4),some (.int (r1:Int)),some (.str x9),none,none,none,none,none,none,none,none,none,none] H2:=by
 have hu:=bh hr
 refine ⟨_,(cH (PW.pt (iJ (aN cS (pv 8) aj (aR _)) (gF (aN (jO (uN hr)) (pv 6) (cP ah) (aR _))))) (ai (aT (i:=12) cB.nd rfl (Or.inl rfl) (aJ cN (pv 5) (au aq.ok (hr.mono (by first | decide | omega)) rfl aq.mm aq.kp aq.b .nil aB (aa (pv 0) (aa (bA bR (by rfl) T.len PySem.boot_len (aa (pv 5) ah)) ah))) (fun _ _=>rfl)))
   (ai (aT (i:=13) cB.nd rfl (Or.inl rfl) (cP (aa (aS (aa (aS ah) (aa (au aq.ok (hr.mono (by first | decide | omega)) rfl aq.mm aq.kp aq.b .nil aB (aa (pv 0) (aa aj ah))) ah))) (aa (aS (aa (aS ah) (aa (bN m8 (vf pP aj) (au aq.ok (hr.mono (by first | decide | omega)) rfl aq.mm aq.kp aq.b .nil aB (aa (pv 0) (aa aj ah)))) ah))) (aa (aS (aa (aS (aa (aS (aa (pv 12) (aa aj ah))) ah)) (aa aj ah))) ah)))))
   (aA (aM (aS (aa bf (aa (aJ cN (pv 6) (au aq.ok (hr.mono (by first | decide | omega)) rfl aq.mm aq.kp aq.b .nil aB (aa (pv 0) (aa (bA bR (by rfl) T.len PySem.boot_len (aa (pv 6) ah)) ah))) (fun _ _=>rfl)) (aa (aJ cN (pv 13) (bN oM (au aq.ok (hr.mono (by first | decide | omega)) rfl aq.mm aq.kp aq.b .nil aB (aa (pv 0) (aa aj ah))) aj) (fun _ _=>rfl)) ah)))))))) bw),fun D d p q a1 a2 a3 a4 kk r1 x9 o us hs H H2 hkn ho W nx k=>?_⟩
 refine (cV rfl ⟨rfl,cV rfl ?_⟩)
 by_cases hk:r1=3
 ·refine cW (by rw [hk];rfl) ?_
  refine (cV rfl ⟨(Nat.zero_le _),fun z1 hz1=>⟨a3,z1,cV rfl ⟨rfl,bS.of (new hz1 _ _ W.ec),bS.of af,cV rfl ?_⟩⟩⟩)
  have W:=W.same (new (o:=.lst []) hz1)
  by_cases hm:o.mr.map V.str=[]
  ·exact jz hm (nx _ W)
  refine lQ hm ?_
  have m1:1≤o.mr.length:=by
   cases hmr:o.mr with
   | nil=>rw [hmr] at hm;exact absurd rfl hm
   | cons a b=>show 1≤b.length+1;omega
  have Py:=ho.t1
  refine (cV rfl (cV rfl (cV rfl ⟨a2,cV rfl ⟨.inl (bS.of W.eb),d,((o.th).length:Int),(congrArg (fun z:Nat=>[V.ref d,V.int (z:Int)]) (List.length_map ..)),W.d,by omega,fun oB Eg h11 mj w6=>?_⟩⟩)))
  have Bs:oB<(o.th).length:=by omega
  have kx:=W.d.soft mj
  have W:=W.next mj w6
  refine (cL (bS.of W.eb) (bI (gC Bs)) ?_)
  refine ⟨(Nat.zero_le _),fun ta JH=>?_⟩
  have kx:=ay.of (new (o:=.tup []) JH)
  have W:=W.same (new (o:=.tup []) JH)
  have eta:(upd Eg ta (.tup [])) ta=some (.tup []):=af
  refine (cV rfl ⟨d,6,rfl,W.d,(by decide),fun Ly K0 h12 yz KH=>?_⟩)
  have eta:=yz _ _ eta (fun z=>by obtain ⟨_,_,e9⟩:=W.d;rw [←z,eta] at e9;cases e9)
  have kx:=W.d.soft yz
  have W:=W.next yz KH
  refine ⟨(szl 2),fun xa hxa=>?_⟩
  have eta:=new (o:=.tup [V.ref ta,V.int (Ly:Int)]) hxa _ _ eta
  have kx:=ay.of (new (o:=.tup [V.ref ta,V.int (Ly:Int)]) hxa)
  have W:=W.same (new (o:=.tup [V.ref ta,V.int (Ly:Int)]) hxa)
  have exa:(upd K0 xa (.tup [V.ref ta,V.int (Ly:Int)])) xa=some (.tup [V.ref ta,V.int (Ly:Int)]):=af
  have Da:dN (upd K0 xa (.tup [V.ref ta,V.int (Ly:Int)])) xa [] (Ly:Int):=⟨ta,exa,[],eta,.nil⟩
  refine ⟨(Nat.zero_le _),fun tb htb=>?_⟩
  have kx:=ay.of (new (o:=.tup []) htb)
  have Da:=Da.ao kx
  have W:=W.same (new (o:=.tup []) htb)
  have LJ:(upd (upd K0 xa (.tup [V.ref ta,V.int (Ly:Int)])) tb (.tup [])) tb=some (.tup []):=af
  refine (cV rfl (cV rfl ⟨d,2,rfl,W.d,(by decide),fun Be KZ h13 Jp Rl=>⟨_,cV rfl ⟨rfl,?_⟩⟩⟩))
  have LJ:=Jp _ _ LJ (fun z=>by obtain ⟨_,_,e9⟩:=W.d;rw [←z,LJ] at e9;cases e9)
  have kx:=W.d.soft Jp
  have Da:=Da.ao kx
  have W:=W.next Jp Rl
  refine ⟨(szl 2),fun xb hxb=>?_⟩
  have LJ:=new (o:=.tup [V.ref tb,V.int (-1-(Be:Int))]) hxb _ _ LJ
  have kx:=ay.of (new (o:=.tup [V.ref tb,V.int (-1-(Be:Int))]) hxb)
  have Da:=Da.ao kx
  have W:=W.same (new (o:=.tup [V.ref tb,V.int (-1-(Be:Int))]) hxb)
  have exb:(upd KZ xb (.tup [V.ref tb,V.int (-1-(Be:Int))])) xb=some (.tup [V.ref tb,V.int (-1-(Be:Int))]):=af
  have Db:dN (upd KZ xb (.tup [V.ref tb,V.int (-1-(Be:Int))])) xb [] (-1-(Be:Int)):=⟨tb,exb,[],LJ,.nil⟩
  refine (cV rfl ?_)
  refine ⟨(szl 2),fun y1 hy1=>?_⟩
  have kx:=ay.of (new (o:=.tup [V.str ((o.th)[oB]),V.int 1]) hy1)
  have Da:=Da.ao kx
  have Db:=Db.ao kx
  have W:=W.same (new (o:=.tup [V.str ((o.th)[oB]),V.int 1]) hy1)
  have QW:(upd (upd KZ xb (.tup [V.ref tb,V.int (-1-(Be:Int))])) y1 (.tup [V.str ((o.th)[oB]),V.int 1])) y1=some (.tup [V.str ((o.th)[oB]),V.int 1]):=af
  refine ⟨(szl 1),fun y2 hy2=>?_⟩
  have QW:=new (o:=.tup [V.ref y1]) hy2 _ _ QW
  have kx:=ay.of (new (o:=.tup [V.ref y1]) hy2)
  have Da:=Da.ao kx
  have Db:=Db.ao kx
  have W:=W.same (new (o:=.tup [V.ref y1]) hy2)
  have ey2:(upd (upd (upd KZ xb (.tup [V.ref tb,V.int (-1-(Be:Int))])) y1 (.tup [V.str ((o.th)[oB]),V.int 1])) y2 (.tup [V.ref y1])) y2=some (.tup [V.ref y1]):=af
  refine ⟨(szl 2),fun xc hxc=>?_⟩
  have QW:=new (o:=.tup [V.ref y2,V.int 0]) hxc _ _ QW
  have ey2:=new (o:=.tup [V.ref y2,V.int 0]) hxc _ _ ey2
  have kx:=ay.of (new (o:=.tup [V.ref y2,V.int 0]) hxc)
  have Da:=Da.ao kx
  have Db:=Db.ao kx
  have W:=W.same (new (o:=.tup [V.ref y2,V.int 0]) hxc)
  have exc:(upd (upd (upd (upd KZ xb (.tup [V.ref tb,V.int (-1-(Be:Int))])) y1 (.tup [V.str ((o.th)[oB]),V.int 1])) y2 (.tup [V.ref y1])) xc (.tup [V.ref y2,V.int 0])) xc=some (.tup [V.ref y2,V.int 0]):=af
  have Dc:dN (upd (upd (upd (upd KZ xb (.tup [V.ref tb,V.int (-1-(Be:Int))])) y1 (.tup [V.str ((o.th)[oB]),V.int 1])) y2 (.tup [V.ref y1])) xc (.tup [V.ref y2,V.int 0])) xc [((o.th)[oB],1)] 0:=⟨y2,exc,[.ref y1],ey2,oF ⟨y1,rfl,QW⟩⟩
  refine ⟨(szl 3),fun Ls hLs=>?_⟩
  have nLs:Ls≠d:=W.d.ne hLs
  have kx:=ay.of (new (o:=.lst [V.ref xa,V.ref xb,V.ref xc]) hLs)
  have Da:=Da.ao kx
  have Db:=Db.ao kx
  have Dc:=Dc.ao kx
  have W:=W.same (new (o:=.lst [V.ref xa,V.ref xb,V.ref xc]) hLs)
  have Q8:(upd (upd (upd (upd (upd KZ xb (.tup [V.ref tb,V.int (-1-(Be:Int))])) y1 (.tup [V.str ((o.th)[oB]),V.int 1])) y2 (.tup [V.ref y1])) xc (.tup [V.ref y2,V.int 0])) Ls (.lst [V.ref xa,V.ref xb,V.ref xc])) Ls=some (.lst [V.ref xa,V.ref xb,V.ref xc]):=af
  refine (cV rfl (cV rfl (cV rfl ⟨a3,cV rfl ⟨.inl (bS.of W.ec),d,((o.mr).length:Int),(congrArg (fun z:Nat=>[V.ref d,V.int (z:Int)]) (List.length_map ..)),W.d,by omega,fun r14 H14 h14 LS d14=>?_⟩⟩)))
  have a3v:r14<o.mr.length:=by omega
  have Q8:=LS _ _ Q8 nLs
  have kx:=W.d.soft LS
  have Da:=Da.ao kx
  have Db:=Db.ao kx
  have Dc:=Dc.ao kx
  have W:=W.next LS d14
  refine (cL (bS.of W.ec) (bI (gC a3v)) ?_)
  refine (cV rfl (cV rfl ⟨d,12,rfl,W.d,(by decide),fun Tw H15 h15 LR d15=>⟨_,cV rfl ⟨rfl,⟨by decide,by decide⟩,?_⟩⟩⟩))
  have Q8:=LR _ _ Q8 nLs
  have kx:=W.d.soft LR
  have Da:=Da.ao kx
  have Db:=Db.ao kx
  have Dc:=Dc.ao kx
  have W:=W.next LR d15
  obtain ⟨rb,tb_,mb,hb,Dy,gy⟩:∃(rb:Addr) (tb:Ps) (mb:Int),vJ ([V.ref xa,.ref xb,.ref xc]:List V) ((Tw:Int) / 5)=some (.ref rb)∧dN H15 rb tb mb∧uD tb mb:=by
   have hq:(Tw:Int) / 5=0∨(Tw:Int) / 5=1∨(Tw:Int) / 5=2:=by omega
   rcases hq with hq | hq | hq
   ·exact ⟨xa,[],_,by rw [hq];rfl,Da,MB ⟨by omega,by omega⟩⟩
   ·exact ⟨xb,[],_,by rw [hq];rfl,Db,MB ⟨by omega,by omega⟩⟩
   ·exact ⟨xc,_,_,by rw [hq];rfl,Dc,Pn (by decide) EM EN⟩
  refine (cL (bS.of Q8) hb ?_)
  refine ⟨(szl 3),fun qq hq=>?_⟩
  refine k (.ref qq) (.flat 4 0 [.tx (o.mr[r14]),.sm tb_ mb]) _ (W.f.new hq) (W.d.same (new hq)) ?_ (by unfold cO.ok;exact ⟨⟨_,_,_,rfl⟩,fun a ha=>by rcases List.mem_cons.mp ha with ha | ha;(rw [ha];exact trivial);(rw [List.mem_singleton.mp ha];exact gy)⟩) (by unfold cO.dep;omega)
  unfold lV
  exact ⟨qq,cV rfl ⟨af,(.cons (rfl) (.cons (⟨rb,rfl,Dy.ao (ay.of (new hq))⟩) .nil))⟩⟩
 exact bC (fun e=>hk (by have:=V.int.inj e;omega)) (fB (nx _ W))
theorem ds7 {f:Addr} {Y:Cy} {fS:Addr} {n:Nat} (T:Txt K mg Y.z.s) (U:dW K mg Y.z) (J:eW K mg Y fS) (aq:Dn P w K mg base 2 "_law_next" ["_law_draw","_law_size"] dJ) (aZ:Dn P w K mg base 3 "_law_sum" ["_law_draw","_law_things"] fM) (az:Dn P w K mg base 5 "_law_condition" ["_law_draw","_law_things","_law_deep"] (cU 2)) (bL:Dn P w K mg base (2*n+7) "_law_steps" ["_law_draw","_law_own","_law_many","_law_deep","_law_helpers"] (dZ n)) (cz:Dn P w K mg base 1 "_law_plain" ["_law_helpers"] fF) (dm:Dn P w K mg base 4 "_law_call" ["_law_draw","_law_own","_law_helper_here"] fG) {cdv:Value} {A:Around} {outer:List Env} {s:Shared} {H0:Hp} {E:XK} (hr:dD (2*n+7) (A.deeper (envOfC "_law_step" (ak cE) s.heap.objs.size f cdv))) :
  ∃t,PS (gP dg P w K mg base ["_law_draw","_law_own","_law_deep","_law_helpers","_law_names_here","_law_things","_law_makes","_law_uses","_law_kind","_law_name","_law_word","_law_by","_law_thing","_law_sizes","_law_then","_law_other","_law_holds","_law_falls","_law_body","_law_some"] "_law_step" (ak cE) f cdv A outer s H0 E).qc (sD 7) t∧∀(D:Ends) (d p q a1 a2 a3 a4:Addr) (kk r1:Nat) (x9:Str) (o:Own) (us:List V) (hs:List Hl) (H H2:Hp),kk<n+1→o.ok→W9 H H2 d p q a1 a2 a3 a4 o us hs→(∀H3,W9 H H3 d p q a1 a2 a3 a4 o us hs→D.nx [some (.ref d),some (.ref p),some (.int (kk:Int)),some (.ref q),some (.ref a1),some (.ref a2),some (.ref a3),some (.ref a4),some (.int (r1:Int)),some (.str x9),none,none,none,none,none,none,none,none,none,none] H3)→(∀(v:V) (s:cO) (H':Hp),bz d H H'→Dr H' d→lV H' s v→s.ok→s.dep≤kk+1→D.rt v H')→t D [some (.ref d),some (.ref p),some (.int (kk:Int)),some (.ref q),some (.ref a1),some (.ref a2),some (.ref a3),some (.ref a4),some (.int (r1:Int)),some (.str x9),none,none,none,none,none,none,none,none,none,none] H2:=by
 have hu:=bh hr
 refine ⟨_,(cH (aN cS (pv 8) aj (aR _)) (aA (aM (aS (aa bf (aa (au az.ok (hr.mono (by first | decide | omega)) rfl az.mm az.kp az.b .nil aB (aa (pv 0) (aa (pv 5) (aa aj ah)))) ah))))) bw),fun D d p q a1 a2 a3 a4 kk r1 x9 o us hs H H2 hkn ho W nx k=>?_⟩
 refine (cV rfl ⟨rfl,cV rfl ?_⟩)
 by_cases hk:r1=4
 ·refine cW (by rw [hk];rfl) ?_
  refine (cV rfl (cV rfl ⟨d,a2,1,o.th,rfl,(by decide),W.d,W.eb,(by have:=ho.t9;omega),ho.tl,fun v11 Sz Eg mj w6 D11 b6l g11=>?_⟩))
  have kx:=W.d.soft mj
  have W:=W.next mj w6
  refine ⟨(szl 2),fun qq hq=>?_⟩
  refine k (.ref qq) (.flat 5 0 [.cd Sz]) _ (W.f.new hq) (W.d.same (new hq)) ?_ (by unfold cO.ok;exact ⟨⟨_,rfl⟩,fun a ha=>by rw [List.mem_singleton.mp ha];exact ⟨⟨_,g11⟩,by omega⟩⟩) (by unfold cO.dep;omega)
  unfold lV
  exact ⟨qq,cV rfl ⟨af,(.cons (bg.ao (ay.of (new hq)) D11) .nil)⟩⟩
 exact bC (fun e=>hk (by have:=V.int.inj e;omega)) (nx _ W)
theorem ds8 {f:Addr} {Y:Cy} {fS:Addr} {n:Nat} (T:Txt K mg Y.z.s) (U:dW K mg Y.z) (J:eW K mg Y fS) (aq:Dn P w K mg base 2 "_law_next" ["_law_draw","_law_size"] dJ) (aZ:Dn P w K mg base 3 "_law_sum" ["_law_draw","_law_things"] fM) (az:Dn P w K mg base 5 "_law_condition" ["_law_draw","_law_things","_law_deep"] (cU 2)) (bL:Dn P w K mg base (2*n+7) "_law_steps" ["_law_draw","_law_own","_law_many","_law_deep","_law_helpers"] (dZ n)) (cz:Dn P w K mg base 1 "_law_plain" ["_law_helpers"] fF) (dm:Dn P w K mg base 4 "_law_call" ["_law_draw","_law_own","_law_helper_here"] fG) {cdv:Value} {A:Around} {outer:List Env} {s:Shared} {H0:Hp} {E:XK} (hr:dD (2*n+7) (A.deeper (envOfC "_law_step" (ak cE) s.heap.objs.size f cdv))) :
  ∃t,PS (gP dg P w K mg base ["_law_draw","_law_own","_law_deep","_law_helpers","_law_names_here","_law_things","_law_makes","_law_uses","_law_kind","_law_name","_law_word","_law_by","_law_thing","_law_sizes","_law_then","_law_other","_law_holds","_law_falls","_law_body","_law_some"] "_law_step" (ak cE) f cdv A outer s H0 E).qc (sD 8) t∧∀(D:Ends) (d p q a1 a2 a3 a4:Addr) (kk r1:Nat) (x9:Str) (o:Own) (us:List V) (hs:List Hl) (H H2:Hp),kk<n+1→o.ok→W9 H H2 d p q a1 a2 a3 a4 o us hs→(∀H3,W9 H H3 d p q a1 a2 a3 a4 o us hs→D.nx [some (.ref d),some (.ref p),some (.int (kk:Int)),some (.ref q),some (.ref a1),some (.ref a2),some (.ref a3),some (.ref a4),some (.int (r1:Int)),some (.str x9),none,none,none,none,none,none,none,none,none,none] H3)→(∀(v:V) (s:cO) (H':Hp),bz d H H'→Dr H' d→lV H' s v→s.ok→s.dep≤kk+1→D.rt v H')→t D [some (.ref d),some (.ref p),some (.int (kk:Int)),some (.ref q),some (.ref a1),some (.ref a2),some (.ref a3),some (.ref a4),some (.int (r1:Int)),some (.str x9),none,none,none,none,none,none,none,none,none,none] H2:=by
 have hu:=bh hr
 refine ⟨_,(cH (PW.pt (iJ (aN iV (pv 8) (aS (aa aj (aa aj ah))) (by rfl)) (gF (aN Gx (pv 2) aj (aR _))))) (ai (aT (i:=14) cB.nd rfl (Or.inl rfl) (au bL.ok (hr.mono (by first | decide | omega)) rfl bL.mm bL.kp bL.b .nil aB (aa (pv 0) (aa (pv 1) (aa (au aq.ok (hr.mono (by first | decide | omega)) rfl aq.mm aq.kp aq.b .nil aB (aa (pv 0) (aa aj ah))) (aa (bN m8 (pv 2) aj) (aa (pv 3) ah)))))))
   (ai (aT (i:=15) cB.nd rfl (Or.inl rfl) (au bL.ok (hr.mono (by first | decide | omega)) rfl bL.mm bL.kp bL.b .nil aB (aa (pv 0) (aa (pv 1) (aa (au aq.ok (hr.mono (by first | decide | omega)) rfl aq.mm aq.kp aq.b .nil aB (aa (pv 0) (aa aj ah))) (aa (bN m8 (pv 2) aj) (aa (pv 3) ah)))))))
   (aA (aM (aS (aa bf (aa (au az.ok (hr.mono (by first | decide | omega)) rfl az.mm az.kp az.b .nil aB (aa (pv 0) (aa (pv 5) (aa aj ah)))) (aa (pv 14) (aa (pv 15) ah))))))))) bw),fun D d p q a1 a2 a3 a4 kk r1 x9 o us hs H H2 hkn ho W nx k=>?_⟩
 refine (cV rfl ⟨(szl 2),fun qi5 a3y=>?_⟩)
 refine ⟨qi5,cV rfl ⟨.inr (aW.of af),rfl,rfl,cV rfl ?_⟩⟩
 have W:=W.same (new (o:=.tup [V.int 5,V.int 6]) a3y)
 have ei:(if false=true then !oS (.int (r1:Int)) [V.int 5,V.int 6] else oS (.int (r1:Int)) [V.int 5,V.int 6])=decide (r1=5∨r1=6):=in2 r1 5 6
 rw [ei]
 clear ei
 by_cases hk:r1=5∨r1=6
 rotate_left
 ·exact bC hk (fB (nx _ W))
 refine cW hk (cV rfl ⟨_,cV rfl ⟨rfl,cV rfl ?_⟩⟩)
 by_cases ID:kk=0
 ·exact bC (by omega) (nx _ W)
 refine cW (by omega) ?_
 refine (cV rfl (cV rfl (cV rfl ⟨d,3,rfl,W.d,(by decide),fun oB Eg h11 mj w6=>?_⟩)))
 have kx:=W.d.soft mj
 have W:=W.next mj w6
 refine (cV rfl ⟨_,cV rfl ⟨rfl,cV rfl ⟨d,p,q,oB,kk-1,o,us,hs,(congrArg (fun z:Int=>[V.ref d,V.ref p,V.int (oB:Int),V.int z,V.ref q]) (show ((kk:Int)-1)=((kk-1:Nat):Int) by omega)),by omega,by omega,W.d,W.own,ho,W.hl,fun VY VD ON K0 yz KH E12 P12 O12 b6k b4s=>?_⟩⟩⟩)
 have kx:=W.d.soft yz
 have W:=W.next yz KH
 have JN:OZ K0 ON (.ref VY):=⟨VY,VD,rfl,E12,P12⟩
 refine (cV rfl (cV rfl (cV rfl ⟨d,3,rfl,W.d,(by decide),fun Be KZ h13 Jp Rl=>?_⟩)))
 have kx:=W.d.soft Jp
 have JN:=JN.ao kx
 have W:=W.next Jp Rl
 refine (cV rfl ⟨_,cV rfl ⟨rfl,cV rfl ⟨d,p,q,Be,kk-1,o,us,hs,(congrArg (fun z:Int=>[V.ref d,V.ref p,V.int (Be:Int),V.int z,V.ref q]) (show ((kk:Int)-1)=((kk-1:Nat):Int) by omega)),by omega,by omega,W.d,W.own,ho,W.hl,fun Tq VC LB H14 LS d14 E14 P14 O14 b6j b4r=>?_⟩⟩⟩)
 have kx:=W.d.soft LS
 have JN:=JN.ao kx
 have W:=W.next LS d14
 have Vz:OZ H14 LB (.ref Tq):=⟨Tq,VC,rfl,E14,P14⟩
 refine (cV rfl (cV rfl ⟨d,a2,1,o.th,rfl,(by decide),W.d,W.eb,(by have:=ho.t9;omega),ho.tl,fun v15 Sy H15 LR d15 D15 b6i g15=>?_⟩))
 have kx:=W.d.soft LR
 have JN:=JN.ao kx
 have Vz:=Vz.ao kx
 have W:=W.next LR d15
 refine (cV rfl (cV rfl ?_))
 refine ⟨(szl 4),fun qq hq=>?_⟩
 obtain ⟨_,_,e1,E1,P1⟩:=JN
 cases e1
 obtain ⟨_,_,e2,E2,P2⟩:=Vz
 cases e2
 refine k (.ref qq) (.jD 0 Sy ON LB) _ (W.f.new hq) (W.d.same (new hq)) ?_ (by unfold cO.ok;exact ⟨⟨⟨_,g15⟩,by omega⟩,by omega,by omega,O12,O14⟩) (by unfold cO.dep;omega)
 unfold lV
 exact ⟨qq,v15,VY,Tq,_,cV rfl ⟨af,bg.ao (ay.of (new hq)) D15,new hq _ _ E1,gS.ao (ay.of (new hq)) P1,new hq _ _ E2,gS.ao (ay.of (new hq)) P2⟩⟩
theorem ds9 {f:Addr} {Y:Cy} {fS:Addr} {n:Nat} (T:Txt K mg Y.z.s) (U:dW K mg Y.z) (J:eW K mg Y fS) (aq:Dn P w K mg base 2 "_law_next" ["_law_draw","_law_size"] dJ) (aZ:Dn P w K mg base 3 "_law_sum" ["_law_draw","_law_things"] fM) (az:Dn P w K mg base 5 "_law_condition" ["_law_draw","_law_things","_law_deep"] (cU 2)) (bL:Dn P w K mg base (2*n+7) "_law_steps" ["_law_draw","_law_own","_law_many","_law_deep","_law_helpers"] (dZ n)) (cz:Dn P w K mg base 1 "_law_plain" ["_law_helpers"] fF) (dm:Dn P w K mg base 4 "_law_call" ["_law_draw","_law_own","_law_helper_here"] fG) {cdv:Value} {A:Around} {outer:List Env} {s:Shared} {H0:Hp} {E:XK} (hr:dD (2*n+7) (A.deeper (envOfC "_law_step" (ak cE) s.heap.objs.size f cdv))) :
  ∃t,PS (gP dg P w K mg base ["_law_draw","_law_own","_law_deep","_law_helpers","_law_names_here","_law_things","_law_makes","_law_uses","_law_kind","_law_name","_law_word","_law_by","_law_thing","_law_sizes","_law_then","_law_other","_law_holds","_law_falls","_law_body","_law_some"] "_law_step" (ak cE) f cdv A outer s H0 E).qc (sD 9) t∧∀(D:Ends) (d p q a1 a2 a3 a4:Addr) (kk r1:Nat) (x9:Str) (o:Own) (us:List V) (hs:List Hl) (H H2:Hp),kk<n+1→o.ok→W9 H H2 d p q a1 a2 a3 a4 o us hs→(∀H3,W9 H H3 d p q a1 a2 a3 a4 o us hs→D.nx [some (.ref d),some (.ref p),some (.int (kk:Int)),some (.ref q),some (.ref a1),some (.ref a2),some (.ref a3),some (.ref a4),some (.int (r1:Int)),some (.str x9),none,none,none,none,none,none,none,none,none,none] H3)→(∀(v:V) (s:cO) (H':Hp),bz d H H'→Dr H' d→lV H' s v→s.ok→s.dep≤kk+1→D.rt v H')→t D [some (.ref d),some (.ref p),some (.int (kk:Int)),some (.ref q),some (.ref a1),some (.ref a2),some (.ref a3),some (.ref a4),some (.int (r1:Int)),some (.str x9),none,none,none,none,none,none,none,none,none,none] H2:=by
 have hu:=bh hr
 refine ⟨_,(cH (PW.pt (iJ (aN iV (pv 8) (aS (aa aj (aa aj ah))) (by rfl)) (gF (aN Gx (pv 2) aj (aR _))))) (ai (aT (i:=16) cB.nd rfl (Or.inl rfl) (aU aK (by rfl) T.tuple boot_tuple (aa (cK (br ["_law_k"] ["_law_draw","_law_things"] [0,5] rfl (by decide +kernel) (by decide +kernel) (by with_unfolding_all rfl) (by exact ⟨rfl,rfl,trivial⟩) (by rfl) rfl (by rfl)) rfl (fq rfl T.range (aa (au aq.ok (hr.mono (by first | decide | omega)) rfl aq.mm aq.kp aq.b .nil aB (aa (pv 0) (aa aj ah))) ah)) (fun _ _ _ _=>(aP (i:=0) (show List.Nodup (["_law_k","_law_draw","_law_things"]:List Str) by decide +kernel) rfl (Or.inl rfl) (Or.inr rfl))) (fun _ _ _ _=>cy) (fun _ _ _ _=>(au az.ok (hr.mono (by first | decide | omega)) rfl az.mm az.kp az.b .nil aB (aa (pv 1) (aa (pv 2) (aa aj ah)))))) ah)))
   (ai (aT (i:=17) cB.nd rfl (Or.inl rfl) (aJ cN (cP (aa gZ (aa (au aZ.ok (hr.mono (by first | decide | omega)) rfl aZ.mm aZ.kp aZ.b .nil aB (aa (pv 0) (aa (pv 5) ah))) ah))) (au aq.ok (hr.mono (by first | decide | omega)) rfl aq.mm aq.kp aq.b .nil aB (aa (pv 0) (aa aj ah))) (fun _ _=>rfl)))
   (ai (aT (i:=18) cB.nd rfl (Or.inl rfl) (au bL.ok (hr.mono (by first | decide | omega)) rfl bL.mm bL.kp bL.b .nil aB (aa (pv 0) (aa (pv 1) (aa (au aq.ok (hr.mono (by first | decide | omega)) rfl aq.mm aq.kp aq.b .nil aB (aa (pv 0) (aa aj ah))) (aa (bN m8 (pv 2) aj) (aa (pv 3) ah)))))))
   (aA (aM (aS (aa bf (aa (au az.ok (hr.mono (by first | decide | omega)) rfl az.mm az.kp az.b .nil aB (aa (pv 0) (aa (pv 5) (aa aj ah)))) (aa (pv 16) (aa (pv 17) (aa (pv 18) ah))))))))))) bw),fun D d p q a1 a2 a3 a4 kk r1 x9 o us hs H H2 hkn ho W nx k=>?_⟩
 refine (cV rfl ⟨(szl 2),fun qi7 a3x=>?_⟩)
 refine ⟨qi7,cV rfl ⟨.inr (aW.of af),rfl,rfl,cV rfl ?_⟩⟩
 have W:=W.same (new (o:=.tup [V.int 7,V.int 8]) a3x)
 have ei:(if false=true then !oS (.int (r1:Int)) [V.int 7,V.int 8] else oS (.int (r1:Int)) [V.int 7,V.int 8])=decide (r1=7∨r1=8):=in2 r1 7 8
 rw [ei]
 clear ei
 by_cases hk:r1=7∨r1=8
 rotate_left
 ·exact bC hk (fB (nx _ W))
 refine cW hk (cV rfl ⟨_,cV rfl ⟨rfl,cV rfl ?_⟩⟩)
 by_cases ID:kk=0
 ·exact bC (by omega) (nx _ W)
 refine cW (by omega) ?_
 refine (cV rfl ⟨d,3,rfl,W.d,(by decide),fun oB Eg h11 mj w6=>?_⟩)
 have kx:=W.d.soft mj
 have W:=W.next mj w6
 refine ⟨(oB:Int),rfl,by omega,by omega,iu (n:=(oB:Int).toNat) (fun i ys H'=>W9 H H' d p q a1 a2 a3 a4 o us hs∧∃cs:List (Int×Cd),Paired (fun u (q:Int×Cd)=>bg H' q.2 u) ys cs∧(∀q∈cs,BJ q.2)∧cs.length=i) ⟨W,[],.nil,(fun _ h=>nomatch h),rfl⟩ ?_ ?_⟩
 ·rintro i ys H' hi ⟨W,cs,py,gc,lc⟩
  have mH:=aD py
  refine ⟨Ext.one,gk (cV rfl (cV rfl ⟨d,a2,1,o.th,rfl,(by decide),W.d,W.eb,(by have:=ho.t9;omega),ho.tl,fun v c H5 b5 d5 D5 OV g5=>⟨line _ (by omega),W.next b5 d5,cs++[(0,c)],bx (L2.Paired.cQ py fun _ _ z=>bg.ao (W.d.soft b5) z) D5,fun z hz=>?_,?_⟩⟩))⟩
  ·rcases List.mem_append.mp hz with z1 | z1
   ·exact gc z z1
   ·rw [List.mem_singleton.mp z1];exact ⟨⟨_,g5⟩,Nat.le_trans OV (by decide)⟩
  ·rw [List.length_append,lc];rfl
 rintro ys Vy ⟨W,cs,py,gc,lc⟩ ql Qx
 refine ⟨ql,cV rfl (.inl ⟨bS.of af,fun tr htr=>?_⟩)⟩
 have s3:aH Vy (upd (upd Vy ql (.lst ys)) tr (.tup ys)):=aH.new (new Qx) htr
 have W:=W.same s3
 have Gh:fV (upd (upd Vy ql (.lst ys)) tr (.tup ys)) cs (.ref tr):=⟨tr,ys,rfl,af,L2.Paired.cQ py fun _ _ z=>bg.ao (ay.of s3) z⟩
 refine (cV rfl (cV rfl ⟨d,a2,o.th,rfl,W.d,W.eb,(by have:=ho.t9;omega),ho.tl,fun Bd VI m41 H41 LQ d41 Td C41 L41 _ Z41=>?_⟩))
 have kx:=W.d.soft LQ
 have Gh:=fV.ao kx Gh
 have W:=W.next LQ d41
 refine ⟨(szl 2),fun Lf hLf=>?_⟩
 have nLf:Lf≠d:=W.d.ne hLf
 have kx:=ay.of (new (o:=.lst [V.dM,V.ref Bd]) hLf)
 have Gh:=fV.ao kx Gh
 have Td:=Td.ao kx
 have W:=W.same (new (o:=.lst [V.dM,V.ref Bd]) hLf)
 have Ob:(upd H41 Lf (.lst [V.dM,V.ref Bd])) Lf=some (.lst [V.dM,V.ref Bd]):=af
 refine (cV rfl ⟨d,2,rfl,W.d,(by decide),fun r42 H42 h42 LP d42=>?_⟩)
 have Ob:=LP _ _ Ob nLf
 have kx:=W.d.soft LP
 have Gh:=fV.ao kx Gh
 have Td:=Td.ao kx
 have W:=W.next LP d42
 obtain ⟨uf,ff,huf,Gf,gf⟩:∃(uf:V) (ff:Option (Int×Ps×Int)),([V.dM,V.ref Bd]:List V)[r42]?=some uf∧KU H42 ff uf∧(∀q,ff=some q→uD q.2.1 q.2.2):=by
  match r42,h42 with
  | 0,_=>exact ⟨.dM,none,rfl,rfl,fun _ z=>nomatch z⟩
  | 1,_=>exact ⟨.ref Bd,some (0,VI,m41),rfl,⟨Bd,rfl,Td⟩,fun q z=>by cases z;exact ⟨C41,L41,Z41⟩⟩
  | m+2,hh=>exact absurd hh (by omega)
 refine (cL (bS.of Ob) (bI huf) ?_)
 refine (cV rfl (cV rfl (cV rfl ⟨d,3,rfl,W.d,(by decide),fun r43 H43 h43 Vo d43=>?_⟩)))
 have kx:=W.d.soft Vo
 have Gh:=fV.ao kx Gh
 have Gf:=KU.ao kx Gf
 have W:=W.next Vo d43
 refine (cV rfl ⟨_,cV rfl ⟨rfl,cV rfl ⟨d,p,q,r43,kk-1,o,us,hs,(congrArg (fun z:Int=>[V.ref d,V.ref p,V.int (r43:Int),V.int z,V.ref q]) (show ((kk:Int)-1)=((kk-1:Nat):Int) by omega)),by omega,by omega,W.d,W.own,ho,W.hl,fun VX VB OM H44 Vn d44 E44 P44 O44 b6h b4q=>?_⟩⟩⟩)
 have kx:=W.d.soft Vn
 have Gh:=fV.ao kx Gh
 have Gf:=KU.ao kx Gf
 have W:=W.next Vn d44
 have G44:OZ H44 OM (.ref VX):=⟨VX,VB,rfl,E44,P44⟩
 refine (cV rfl (cV rfl ⟨d,a2,1,o.th,rfl,(by decide),W.d,W.eb,(by have:=ho.t9;omega),ho.tl,fun v45 Sx H45 Vm d45 D45 b6g g45=>?_⟩))
 have kx:=W.d.soft Vm
 have Gh:=fV.ao kx Gh
 have Gf:=KU.ao kx Gf
 have G44:=G44.ao kx
 have W:=W.next Vm d45
 refine (cV rfl (cV rfl (cV rfl ?_)))
 refine ⟨(szl 5),fun qq hq=>?_⟩
 obtain ⟨_,_,e2,E2,P2⟩:=G44
 cases e2
 refine k (.ref qq) (.rep 0 Sx cs ff OM) _ (W.f.new hq) (W.d.same (new hq)) ?_ (by unfold cO.ok;exact ⟨⟨⟨_,g45⟩,by omega⟩,by omega,gc,gf,by omega,O44⟩) (by unfold cO.dep;omega)
 unfold lV
 exact ⟨qq,v45,.ref tr,uf,VX,cV rfl ⟨af,bg.ao (ay.of (new hq)) D45,fV.ao (ay.of (new hq)) Gh,KU.ao (ay.of (new hq)) Gf,new hq _ _ E2,gS.ao (ay.of (new hq)) P2⟩⟩
theorem a4B {f:Addr} {Y:Cy} {fS:Addr} {n:Nat} (T:Txt K mg Y.z.s) (U:dW K mg Y.z) (J:eW K mg Y fS) (aq:Dn P w K mg base 2 "_law_next" ["_law_draw","_law_size"] dJ) (aZ:Dn P w K mg base 3 "_law_sum" ["_law_draw","_law_things"] fM) (az:Dn P w K mg base 5 "_law_condition" ["_law_draw","_law_things","_law_deep"] (cU 2)) (bL:Dn P w K mg base (2*n+7) "_law_steps" ["_law_draw","_law_own","_law_many","_law_deep","_law_helpers"] (dZ n)) (cz:Dn P w K mg base 1 "_law_plain" ["_law_helpers"] fF) (dm:Dn P w K mg base 4 "_law_call" ["_law_draw","_law_own","_law_helper_here"] fG) {cdv:Value} {A:Around} {outer:List Env} {s:Shared} {H0:Hp} {E:XK} (hr:dD (2*n+7) (A.deeper (envOfC "_law_step" (ak cE) s.heap.objs.size f cdv))) :
  ∃t,PS (gP dg P w K mg base ["_law_draw","_law_own","_law_deep","_law_helpers","_law_names_here","_law_things","_law_makes","_law_uses","_law_kind","_law_name","_law_word","_law_by","_law_thing","_law_sizes","_law_then","_law_other","_law_holds","_law_falls","_law_body","_law_some"] "_law_step" (ak cE) f cdv A outer s H0 E).qc (sD 10) t∧∀(D:Ends) (d p q a1 a2 a3 a4:Addr) (kk r1:Nat) (x9:Str) (o:Own) (us:List V) (hs:List Hl) (H H2:Hp),kk<n+1→o.ok→W9 H H2 d p q a1 a2 a3 a4 o us hs→(∀H3,W9 H H3 d p q a1 a2 a3 a4 o us hs→D.nx [some (.ref d),some (.ref p),some (.int (kk:Int)),some (.ref q),some (.ref a1),some (.ref a2),some (.ref a3),some (.ref a4),some (.int (r1:Int)),some (.str x9),none,none,none,none,none,none,none,none,none,none] H3)→(∀(v:V) (s:cO) (H':Hp),bz d H H'→Dr H' d→lV H' s v→s.ok→s.dep≤kk+1→D.rt v H')→t D [some (.ref d),some (.ref p),some (.int (kk:Int)),some (.ref q),some (.ref a1),some (.ref a2),some (.ref a3),some (.ref a4),some (.int (r1:Int)),some (.str x9),none,none,none,none,none,none,none,none,none,none] H2:=by
 have hu:=bh hr
 refine ⟨_,(cH (PW.pt (iJ (aN iV (pv 8) (aS (aa aj (aa aj ah))) (by rfl)) (iJ (aN (jO (uN hr)) (pv 3) (cP ah) (aR _)) (gF (PW.pt (kE (aN (jO (uN hr)) (pv 7) (cP ah) (aR _)) (ja (aN (jG 1 (uL hr)) (au cz.ok (hr.mono (by first | decide | omega)) rfl cz.mm cz.kp cz.b .nil aB (aa (pv 3) ah)) (cP ah) (aR _))))))))) (ai (aT (i:=19) cB.nd rfl (Or.inl rfl) (aJ cN (cP (aa (pv 3) (aa (au cz.ok (hr.mono (by first | decide | omega)) rfl cz.mm cz.kp cz.b .nil aB (aa (pv 3) ah)) ah))) (aU qH (by rfl) T.int boot_int (aa (eF (vm (uN hr)) (pv 7) (cP ah) (aR _)) ah)) (fun _ _=>rfl)))
   (aA (aM (au dm.ok (hr.mono (by first | decide | omega)) rfl dm.mm dm.kp dm.b .nil aB (aa (pv 0) (aa (pv 1) (aa (aJ cN (pv 19) (au aq.ok (hr.mono (by first | decide | omega)) rfl aq.mm aq.kp aq.b .nil aB (aa (pv 0) (aa (bA bR (by rfl) T.len PySem.boot_len (aa (pv 19) ah)) ah))) (fun _ _=>rfl)) ah))))))) bw),fun D d p q a1 a2 a3 a4 kk r1 x9 o us hs H H2 hkn ho W nx k=>?_⟩
 refine (cV rfl ⟨(szl 2),fun qi9 a3w=>?_⟩)
 refine ⟨qi9,cV rfl ⟨.inr (aW.of af),rfl,rfl,cV rfl ?_⟩⟩
 have W:=W.same (new (o:=.tup [V.int 9,V.int 10]) a3w)
 have ei:(if false=true then !oS (.int (r1:Int)) [V.int 9,V.int 10] else oS (.int (r1:Int)) [V.int 9,V.int 10])=decide (r1=9∨r1=10):=in2 r1 9 10
 rw [ei]
 clear ei
 by_cases hk:r1=9∨r1=10
 rotate_left
 ·exact bC hk (fB (nx _ W))
 refine cW hk ?_
 refine (cV rfl ⟨(Nat.zero_le _),fun z1 hz1=>⟨q,z1,cV rfl ⟨rfl,bS.of (new hz1 _ _ W.hl.1),bS.of af,cV rfl ?_⟩⟩⟩)
 have W:=W.same (new (o:=.lst []) hz1)
 by_cases hu9:us=[]
 ·exact jz hu9 (fB (nx _ W))
 refine lQ hu9 ?_
 have ul:1≤us.length:=by
  cases us with
  | nil=>exact absurd rfl hu9
  | cons a b=>show 1≤b.length+1;omega
 refine (cV rfl ⟨(Nat.zero_le _),fun z2 hz2=>⟨a4,z2,cV rfl ⟨rfl,bS.of (new hz2 _ _ W.ee),bS.of af,cV rfl ?_⟩⟩⟩)
 have W:=W.same (new (o:=.lst []) hz2)
 refine lQ (wL ho.u1) (qD ?_)
 refine (cV rfl (cV rfl ⟨q,us,hs,rfl,W.hl,fun lp wp Hp9 sp9 ep9=>?_⟩))
 have W:=W.same sp9
 refine ⟨(szl 2),fun Lf hLf=>?_⟩
 have nLf:Lf≠d:=W.d.ne hLf
 have kx:=ay.of (new (o:=.lst [V.ref q,V.ref lp]) hLf)
 have W:=W.same (new (o:=.lst [V.ref q,V.ref lp]) hLf)
 have Ob:(upd Hp9 Lf (.lst [V.ref q,V.ref lp])) Lf=some (.lst [V.ref q,V.ref lp]):=af
 refine (cV rfl ⟨(Nat.zero_le _),fun e1 he1=>?_⟩)
 have Ob:=new (o:=.lst []) he1 _ _ Ob
 have W:=W.same (new (o:=.lst []) he1)
 refine ⟨a4,e1,cV rfl ⟨rfl,bS.of W.ee,bS.of af,.inr ⟨false,congrArg (fun z=>[V.bl z]) (decide_eq_false (wL ho.u1)),cL (bS.of Ob) rfl ?_⟩⟩⟩
 refine (cV rfl (cV rfl (cV rfl (cV rfl (cV rfl ⟨q,cV rfl ⟨.inl (bS.of W.hl.1),d,(us.length:Int),rfl,W.d,by omega,fun oB Eg h11 mj w6=>?_⟩⟩)))))
 have kx:=W.d.soft mj
 have W:=W.next mj w6
 have Bs:oB<us.length:=by omega
 have hu:=List.getElem?_eq_getElem Bs
 obtain ⟨hh,hhi,hx⟩:=bB W.hl.2.1 hu
 refine (cL (bS.of W.hl.1) (bI hu) ⟨d,p,_,o,hh,rfl,W.d,W.own,ho,hx,W.hl.2.2.1 hh (List.mem_of_getElem? hhi),fun v' s' H' b' d' R' o' e'=>?_⟩)
 exact k v' s' H' (W.f.trans b') d' R' o' (by omega)
theorem a4A {f:Addr} {Y:Cy} {fS:Addr} {n:Nat} (T:Txt K mg Y.z.s) (U:dW K mg Y.z) (J:eW K mg Y fS) (aq:Dn P w K mg base 2 "_law_next" ["_law_draw","_law_size"] dJ) (aZ:Dn P w K mg base 3 "_law_sum" ["_law_draw","_law_things"] fM) (az:Dn P w K mg base 5 "_law_condition" ["_law_draw","_law_things","_law_deep"] (cU 2)) (bL:Dn P w K mg base (2*n+7) "_law_steps" ["_law_draw","_law_own","_law_many","_law_deep","_law_helpers"] (dZ n)) (cz:Dn P w K mg base 1 "_law_plain" ["_law_helpers"] fF) (dm:Dn P w K mg base 4 "_law_call" ["_law_draw","_law_own","_law_helper_here"] fG) {cdv:Value} {A:Around} {outer:List Env} {s:Shared} {H0:Hp} {E:XK} (hr:dD (2*n+7) (A.deeper (envOfC "_law_step" (ak cE) s.heap.objs.size f cdv))) :
  ∃t,PS (gP dg P w K mg base ["_law_draw","_law_own","_law_deep","_law_helpers","_law_names_here","_law_things","_law_makes","_law_uses","_law_kind","_law_name","_law_word","_law_by","_law_thing","_law_sizes","_law_then","_law_other","_law_holds","_law_falls","_law_body","_law_some"] "_law_step" (ak cE) f cdv A outer s H0 E).qc (sD 11) t∧∀(D:Ends) (d p q a1 a2 a3 a4:Addr) (kk r1:Nat) (x9:Str) (o:Own) (us:List V) (hs:List Hl) (H H2:Hp),kk<n+1→o.ok→W9 H H2 d p q a1 a2 a3 a4 o us hs→(∀(v:V) (s:cO) (H':Hp),bz d H H'→Dr H' d→lV H' s v→s.ok→s.dep≤kk+1→D.rt v H')→t D [some (.ref d),some (.ref p),some (.int (kk:Int)),some (.ref q),some (.ref a1),some (.ref a2),some (.ref a3),some (.ref a4),some (.int (r1:Int)),some (.str x9),none,none,none,none,none,none,none,none,none,none] H2:=by
 have hu:=bh hr
 refine ⟨_,(aM (aS (aa bf (aa (pv 9) (aa (au aZ.ok (hr.mono (by first | decide | omega)) rfl aZ.mm aZ.kp aZ.b .nil aB (aa (pv 0) (aa (pv 5) ah))) ah))))),fun D d p q a1 a2 a3 a4 kk r1 x9 o us hs H H2 hkn ho W k=>?_⟩
 refine (cV rfl ?_)
 refine (cV rfl (cV rfl ⟨d,a2,o.th,rfl,W.d,W.eb,(by have:=ho.t9;omega),ho.tl,fun W8 VL m11 Eg mj w6 D11 C11 L11 _ Z11=>?_⟩))
 have kx:=W.d.soft mj
 have W:=W.next mj w6
 refine ⟨(szl 3),fun qq hq=>?_⟩
 refine k (.ref qq) (.flat 0 0 [.tx (x9),.sm VL m11]) _ (W.f.new hq) (W.d.same (new hq)) ?_ (by unfold cO.ok;exact ⟨⟨_,_,_,rfl⟩,fun a ha=>by rcases List.mem_cons.mp ha with ha | ha;(rw [ha];exact trivial);(rw [List.mem_singleton.mp ha];exact ⟨C11,L11,Z11⟩)⟩) (by unfold cO.dep;omega)
 unfold lV
 exact ⟨qq,cV rfl ⟨af,(.cons (rfl) (.cons (⟨W8,rfl,D11.ao (ay.of (new hq))⟩) .nil))⟩⟩
def Pk (e:Expr):Expr:=match e with | .Subscript v _ _=>v | _=>e
def elE (e:Expr) (i:Nat):Expr:=match e with | .List es _=>es.getD i e | .Tuple es _ _=>es.getD i e | _=>e
abbrev Ra:Expr:=Pk (Ot (ifB (sD 3) 1))
abbrev N9:Expr:=Pk (elE (elE Ra 0) 1)
theorem Ri {f:Addr} {Y:Cy} {fS:Addr} {n:Nat} (T:Txt K mg Y.z.s) (U:dW K mg Y.z) (J:eW K mg Y fS) (aq:Dn P w K mg base 2 "_law_next" ["_law_draw","_law_size"] dJ) (aZ:Dn P w K mg base 3 "_law_sum" ["_law_draw","_law_things"] fM) (az:Dn P w K mg base 5 "_law_condition" ["_law_draw","_law_things","_law_deep"] (cU 2)) (bL:Dn P w K mg base (2*n+7) "_law_steps" ["_law_draw","_law_own","_law_many","_law_deep","_law_helpers"] (dZ n)) (cz:Dn P w K mg base 1 "_law_plain" ["_law_helpers"] fF) (dm:Dn P w K mg base 4 "_law_call" ["_law_draw","_law_own","_law_helper_here"] fG) {cdv:Value} {A:Around} {outer:List Env} {s:Shared} {H0:Hp} {E:XK} (hr:dD (2*n+7) (A.deeper (envOfC "_law_step" (ak cE) s.heap.objs.size f cdv))):∃te,PE (gP dg P w K mg base ["_law_draw","_law_own","_law_deep","_law_helpers","_law_names_here","_law_things","_law_makes","_law_uses","_law_kind","_law_name","_law_word","_law_by","_law_thing","_law_sizes","_law_then","_law_other","_law_holds","_law_falls","_law_body","_law_some"] "_law_step" (ak cE) f cdv A outer s H0 E).qc N9 te∧∀(σ:L2.St) (H:Hp) (Q:VK),(∀q,H q=none→Q (.ref q) (upd H q (.lst [V.int 2,V.int 3,V.int (-2),V.int 1,V.int 7,V.int 0])))→te σ H Q:=by
 refine ⟨_,(cP (aa aj (aa aj (aa (vf pP aj) (aa aj (aa aj (aa aj ah))))))),fun σ H Q h=>?_⟩
 exact (cV rfl ⟨(szl 6),fun q hq=>h q hq⟩)
theorem Rj {f:Addr} {Y:Cy} {fS:Addr} {n:Nat} (T:Txt K mg Y.z.s) (U:dW K mg Y.z) (J:eW K mg Y fS) (aq:Dn P w K mg base 2 "_law_next" ["_law_draw","_law_size"] dJ) (aZ:Dn P w K mg base 3 "_law_sum" ["_law_draw","_law_things"] fM) (az:Dn P w K mg base 5 "_law_condition" ["_law_draw","_law_things","_law_deep"] (cU 2)) (bL:Dn P w K mg base (2*n+7) "_law_steps" ["_law_draw","_law_own","_law_many","_law_deep","_law_helpers"] (dZ n)) (cz:Dn P w K mg base 1 "_law_plain" ["_law_helpers"] fF) (dm:Dn P w K mg base 4 "_law_call" ["_law_draw","_law_own","_law_helper_here"] fG) {cdv:Value} {A:Around} {outer:List Env} {s:Shared} {H0:Hp} {E:XK} (hr:dD (2*n+7) (A.deeper (envOfC "_law_step" (ak cE) s.heap.objs.size f cdv))):∃te,PE (gP dg P w K mg base ["_law_draw","_law_own","_law_deep","_law_helpers","_law_names_here","_law_things","_law_makes","_law_uses","_law_kind","_law_name","_law_word","_law_by","_law_thing","_law_sizes","_law_then","_law_other","_law_holds","_law_falls","_law_body","_law_some"] "_law_step" (ak cE) f cdv A outer s H0 E).qc Ra te∧∀(d p q a1 a2 a3 a4:Addr) (kk r1:Nat) (x9:Str) (x10:Option V) (o:Own) (us:List V) (hs:List Hl) (H H2:Hp) (Q:VK),o.ok→W9 H H2 d p q a1 a2 a3 a4 o us hs→(∀(L xa rs:Addr) (b m:Int) (ts:Ps) (H3:Hp),W9 H H3 d p q a1 a2 a3 a4 o us hs→L≠d→H3 L=some (.lst [V.ref xa,V.ref rs])→dN H3 xa [] b→uD [] b→dN H3 rs ts m→uD ts m→Q (.ref L) H3)→te [some (.ref d),some (.ref p),some (.int (kk:Int)),some (.ref q),some (.ref a1),some (.ref a2),some (.ref a3),some (.ref a4),some (.int (r1:Int)),some (.str x9),x10,none,none,none,none,none,none,none,none,none] H2 Q:=by
 obtain ⟨t6,q6,r6⟩:=Ri (f:=f) (n:=n) T U J aq aZ az bL cz dm (cdv:=cdv) (A:=A) (outer:=outer) (s:=s) (H0:=H0) (E:=E) hr
 have hu:=bh hr
 rw [show Ra=.List [.Tuple [.Tuple [] _ _,.Subscript N9 _ _] _ _,_] _ from rfl]
 generalize N9=z6 at q6 ⊢
 refine ⟨_,(cP (aa (aS (aa (aS ah) (aa (aJ cN q6 (au aq.ok (hr.mono (by first | decide | omega)) rfl aq.mm aq.kp aq.b .nil aB (aa (pv 0) (aa aj ah))) (fun _ _=>rfl)) ah))) (aa (au aZ.ok (hr.mono (by first | decide | omega)) rfl aZ.mm aZ.kp aZ.b .nil aB (aa (pv 0) (aa (pv 5) ah))) ah))),fun d p q a1 a2 a3 a4 kk r1 x9 x10 o us hs H H2 Q ho W kq=>?_⟩
 refine ⟨(Nat.zero_le _),fun ta JH=>?_⟩
 have kx:=ay.of (new (o:=.tup []) JH)
 have W:=W.same (new (o:=.tup []) JH)
 have eta:(upd H2 ta (.tup [])) ta=some (.tup []):=af
 refine r6 _ _ _ fun Lb UJ=>?_
 have nLb:Lb≠d:=W.d.ne UJ
 have eta:=new (o:=.lst [V.int 2,V.int 3,V.int (-2),V.int 1,V.int 7,V.int 0]) UJ _ _ eta
 have kx:=ay.of (new (o:=.lst [V.int 2,V.int 3,V.int (-2),V.int 1,V.int 7,V.int 0]) UJ)
 have W:=W.same (new (o:=.lst [V.int 2,V.int 3,V.int (-2),V.int 1,V.int 7,V.int 0]) UJ)
 have eLb:(upd (upd H2 ta (.tup [])) Lb (.lst [V.int 2,V.int 3,V.int (-2),V.int 1,V.int 7,V.int 0])) Lb=some (.lst [V.int 2,V.int 3,V.int (-2),V.int 1,V.int 7,V.int 0]):=af
 refine (cV rfl ⟨d,6,rfl,W.d,(by decide),fun oB Eg h11 mj w6=>?_⟩)
 have eLb:=mj _ _ eLb nLb
 have eta:=mj _ _ eta (fun z=>by obtain ⟨_,_,e9⟩:=W.d;rw [←z,eta] at e9;cases e9)
 have kx:=W.d.soft mj
 have W:=W.next mj w6
 obtain ⟨by_,hby,sby⟩:=MC (r:=oB) (by omega)
 refine (cL (bS.of eLb) (bI hby) ?_)
 refine ⟨(szl 2),fun xa hxa=>?_⟩
 have eta:=new (o:=.tup [V.ref ta,V.int by_]) hxa _ _ eta
 have kx:=ay.of (new (o:=.tup [V.ref ta,V.int by_]) hxa)
 have W:=W.same (new (o:=.tup [V.ref ta,V.int by_]) hxa)
 have exa:(upd Eg xa (.tup [V.ref ta,V.int by_])) xa=some (.tup [V.ref ta,V.int by_]):=af
 have Db:dN (upd Eg xa (.tup [V.ref ta,V.int by_])) xa [] by_:=⟨ta,exa,[],eta,.nil⟩
 refine (cV rfl (cV rfl ⟨d,a2,o.th,rfl,W.d,W.eb,(by have:=ho.t9;omega),ho.tl,fun v8 EG Qa K0 yz KH Li Te SN _ SG=>?_⟩))
 have kx:=W.d.soft yz
 have Db:=Db.ao kx
 have W:=W.next yz KH
 refine ⟨(szl 2),fun Lc Ky=>?_⟩
 have nLc:Lc≠d:=W.d.ne Ky
 have kx:=ay.of (new (o:=.lst [V.ref xa,V.ref v8]) Ky)
 have Db:=Db.ao kx
 have Li:=Li.ao kx
 have W:=W.same (new (o:=.lst [V.ref xa,V.ref v8]) Ky)
 have Q9:(upd K0 Lc (.lst [V.ref xa,V.ref v8])) Lc=some (.lst [V.ref xa,V.ref v8]):=af
 exact kq Lc xa v8 by_ Qa EG _ W nLc Q9 Db (MB sby) Li ⟨Te,SN,SG⟩
theorem ds3 {f:Addr} {Y:Cy} {fS:Addr} {n:Nat} (T:Txt K mg Y.z.s) (U:dW K mg Y.z) (J:eW K mg Y fS) (aq:Dn P w K mg base 2 "_law_next" ["_law_draw","_law_size"] dJ) (aZ:Dn P w K mg base 3 "_law_sum" ["_law_draw","_law_things"] fM) (az:Dn P w K mg base 5 "_law_condition" ["_law_draw","_law_things","_law_deep"] (cU 2)) (bL:Dn P w K mg base (2*n+7) "_law_steps" ["_law_draw","_law_own","_law_many","_law_deep","_law_helpers"] (dZ n)) (cz:Dn P w K mg base 1 "_law_plain" ["_law_helpers"] fF) (dm:Dn P w K mg base 4 "_law_call" ["_law_draw","_law_own","_law_helper_here"] fG) {cdv:Value} {A:Around} {outer:List Env} {s:Shared} {H0:Hp} {E:XK} (hr:dD (2*n+7) (A.deeper (envOfC "_law_step" (ak cE) s.heap.objs.size f cdv))) :
  ∃t,PS (gP dg P w K mg base ["_law_draw","_law_own","_law_deep","_law_helpers","_law_names_here","_law_things","_law_makes","_law_uses","_law_kind","_law_name","_law_word","_law_by","_law_thing","_law_sizes","_law_then","_law_other","_law_holds","_law_falls","_law_body","_law_some"] "_law_step" (ak cE) f cdv A outer s H0 E).qc (sD 3) t∧∀(D:Ends) (d p q a1 a2 a3 a4:Addr) (kk r1:Nat) (x9:Str) (o:Own) (us:List V) (hs:List Hl) (H H2:Hp),kk<n+1→o.ok→W9 H H2 d p q a1 a2 a3 a4 o us hs→(∀H3,W9 H H3 d p q a1 a2 a3 a4 o us hs→D.nx [some (.ref d),some (.ref p),some (.int (kk:Int)),some (.ref q),some (.ref a1),some (.ref a2),some (.ref a3),some (.ref a4),some (.int (r1:Int)),some (.str x9),none,none,none,none,none,none,none,none,none,none] H3)→(∀(v:V) (s:cO) (H':Hp),bz d H H'→Dr H' d→lV H' s v→s.ok→s.dep≤kk+1→D.rt v H')→t D [some (.ref d),some (.ref p),some (.int (kk:Int)),some (.ref q),some (.ref a1),some (.ref a2),some (.ref a3),some (.ref a4),some (.int (r1:Int)),some (.str x9),none,none,none,none,none,none,none,none,none,none] H2:=by
 obtain ⟨tL,qL,rL⟩:=Rj (f:=f) (n:=n) T U J aq aZ az bL cz dm (cdv:=cdv) (A:=A) (outer:=outer) (s:=s) (H0:=H0) (E:=E) hr
 have hu:=bh hr
 rw [show sD 3=.If _ [_,.Assign _ (.Subscript Ra _ _) _,_] _ _ from rfl]
 generalize Ra=zL at qL ⊢
 refine ⟨_,(cH (aN cS (pv 8) aj (aR _)) (ai (aT (i:=10) cB.nd rfl (Or.inl rfl) (aJ cN (cP (aa bf (aa bf ah))) (au aq.ok (hr.mono (by first | decide | omega)) rfl aq.mm aq.kp aq.b .nil aB (aa (pv 0) (aa aj ah))) (fun _ _=>rfl)))
   (ai (aT (i:=11) cB.nd rfl (Or.inl rfl) (aJ cN qL (bN oM (au aq.ok (hr.mono (by first | decide | omega)) rfl aq.mm aq.kp aq.b .nil aB (aa (pv 0) (aa aj ah))) aj) (fun _ _=>rfl)))
   (aA (aM (aS (aa bf (aa (pv 9) (aa (pv 10) (aa (au aZ.ok (hr.mono (by first | decide | omega)) rfl aZ.mm aZ.kp aZ.b .nil aB (aa (pv 0) (aa (pv 5) ah))) (aa (pv 11) ah)))))))))) bw),fun D d p q a1 a2 a3 a4 kk r1 x9 o us hs H H2 hkn ho W nx k=>?_⟩
 refine (cV rfl ⟨rfl,cV rfl ?_⟩)
 by_cases hk:r1=0
 ·refine cW (by rw [hk];rfl) ?_
  refine ⟨(szl 2),fun La hLa=>?_⟩
  have nLa:La≠d:=W.d.ne hLa
  have kx:=ay.of (new (o:=.lst [V.str "div",V.str "mod"]) hLa)
  have W:=W.same (new (o:=.lst [V.str "div",V.str "mod"]) hLa)
  have eLa:(upd H2 La (.lst [V.str "div",V.str "mod"])) La=some (.lst [V.str "div",V.str "mod"]):=af
  refine (cV rfl ⟨d,2,rfl,W.d,(by decide),fun oB Eg h11 mj w6=>?_⟩)
  have eLa:=mj _ _ eLa nLa
  have kx:=W.d.soft mj
  have W:=W.next mj w6
  obtain ⟨wd,hwd⟩:∃wd:Str,([V.str "div",V.str "mod"]:List V)[oB]?=some (V.str wd):=by
   match oB,h11 with
   | 0,_=>exact ⟨"div",rfl⟩
   | 1,_=>exact ⟨"mod",rfl⟩
   | m+2,hh=>exact absurd hh (by omega)
  refine (cL (bS.of eLa) (bI hwd) ?_)
  refine rL d p q a1 a2 a3 a4 kk r1 x9 _ o us hs H _ _ ho W fun Lc xa rs by_ mm tt Vy W nLc Q9 Db gb Dm gm=>?_
  refine (cV rfl ⟨d,4,rfl,W.d,(by decide),fun Xj H41 h41 LQ d41=>⟨_,cV rfl ⟨rfl,⟨by decide,by decide⟩,?_⟩⟩⟩)
  have Q9:=LQ _ _ Q9 nLc
  have kx:=W.d.soft LQ
  have Db:=Db.ao kx
  have Dm:=Dm.ao kx
  have W:=W.next LQ d41
  obtain ⟨rb,tb,mb,hb,Dy,gy⟩:∃(rb:Addr) (tb:Ps) (mb:Int),vJ ([V.ref xa,V.ref rs]:List V) ((Xj:Int) / 3)=some (.ref rb)∧dN H41 rb tb mb∧uD tb mb:=by
   have hq:(Xj:Int) / 3=0∨(Xj:Int) / 3=1:=by omega
   rcases hq with hq | hq
   ·exact ⟨xa,[],by_,by rw [hq];rfl,Db,gb⟩
   ·exact ⟨rs,tt,mm,by rw [hq];rfl,Dm,gm⟩
  refine (cL (bS.of Q9) hb ?_)
  refine (cV rfl ?_)
  refine (cV rfl ?_)
  refine (cV rfl (cV rfl ⟨d,a2,o.th,rfl,W.d,W.eb,(by have:=ho.t9;omega),ho.tl,fun W6 VH m42 H42 LP d42 D42 C42 L42 _ Z42=>?_⟩))
  have kx:=W.d.soft LP
  have Dy:=Dy.ao kx
  have W:=W.next LP d42
  refine (cV rfl ?_)
  refine ⟨(szl 5),fun qq hq=>?_⟩
  refine k (.ref qq) (.flat 1 0 [.tx x9,.tx wd,.sm VH m42,.sm tb mb]) _ (W.f.new hq) (W.d.same (new hq)) ?_ (by unfold cO.ok;exact ⟨⟨_,_,_,_,_,_,rfl⟩,fun a ha=>by rcases List.mem_cons.mp ha with ha | ha;(rw [ha];exact trivial);(rcases List.mem_cons.mp ha with ha | ha;(rw [ha];exact trivial);(rcases List.mem_cons.mp ha with ha | ha;(rw [ha];exact ⟨C42,L42,Z42⟩);(rw [List.mem_singleton.mp ha];exact gy)))⟩) (by unfold cO.dep;omega)
  unfold lV
  exact ⟨qq,cV rfl ⟨af,(.cons (rfl) (.cons (rfl) (.cons (⟨W6,rfl,D42.ao (ay.of (new hq))⟩) (.cons (⟨rb,rfl,Dy.ao (ay.of (new hq))⟩) .nil))))⟩⟩
 exact bC (fun e=>hk (by have:=V.int.inj e;omega)) (nx _ W)
theorem Hf {f:Addr} {fd:FuncData} {Y:Cy} {fS:Addr} {n:Nat} (F:dX K "_law_step" "_law_step" cE f fd) (T:Txt K mg Y.z.s) (U:dW K mg Y.z) (J:eW K mg Y fS) (aq:Dn P w K mg base 2 "_law_next" ["_law_draw","_law_size"] dJ) (aZ:Dn P w K mg base 3 "_law_sum" ["_law_draw","_law_things"] fM) (az:Dn P w K mg base 5 "_law_condition" ["_law_draw","_law_things","_law_deep"] (cU 2)) (bL:Dn P w K mg base (2*n+7) "_law_steps" ["_law_draw","_law_own","_law_many","_law_deep","_law_helpers"] (dZ n)) (cz:Dn P w K mg base 1 "_law_plain" ["_law_helpers"] fF) (dm:Dn P w K mg base 4 "_law_call" ["_law_draw","_law_own","_law_helper_here"] fG):bH P w K mg base dg (2*n+8) f fd ["_law_draw","_law_own","_law_deep","_law_helpers"] (oh (n+1)):=by
 refine F.ok cB (fun vs H Q E h=>?_) (fun cdv A outer s H vs Q E hr h=>?_)
 ·obtain ⟨d,p,q,kk,o,us,hs,rfl,hkn,hd,hO,ho,hH,k⟩:=h
  rfl
 ·obtain ⟨d,p,q,kk,o,us,hs,rfl,hkn,hd,hO,ho,hH,k⟩:=h
  obtain ⟨t3,p3,l3⟩:=ds3 (f:=f) (n:=n) T U J aq aZ az bL cz dm (cdv:=cdv) (A:=A) (outer:=outer) (s:=s) (H0:=H) (E:=E) hr
  obtain ⟨t4,p4,l4⟩:=ds4 (f:=f) (n:=n) T U J aq aZ az bL cz dm (cdv:=cdv) (A:=A) (outer:=outer) (s:=s) (H0:=H) (E:=E) hr
  obtain ⟨t5,p5,l5⟩:=ds5 (f:=f) (n:=n) T U J aq aZ az bL cz dm (cdv:=cdv) (A:=A) (outer:=outer) (s:=s) (H0:=H) (E:=E) hr
  obtain ⟨t6,p6,l6⟩:=ds6 (f:=f) (n:=n) T U J aq aZ az bL cz dm (cdv:=cdv) (A:=A) (outer:=outer) (s:=s) (H0:=H) (E:=E) hr
  obtain ⟨t7,p7,l7⟩:=ds7 (f:=f) (n:=n) T U J aq aZ az bL cz dm (cdv:=cdv) (A:=A) (outer:=outer) (s:=s) (H0:=H) (E:=E) hr
  obtain ⟨t8,p8,l8⟩:=ds8 (f:=f) (n:=n) T U J aq aZ az bL cz dm (cdv:=cdv) (A:=A) (outer:=outer) (s:=s) (H0:=H) (E:=E) hr
  obtain ⟨t9,p9,l9⟩:=ds9 (f:=f) (n:=n) T U J aq aZ az bL cz dm (cdv:=cdv) (A:=A) (outer:=outer) (s:=s) (H0:=H) (E:=E) hr
  obtain ⟨t10,Yt,JE⟩:=a4B (f:=f) (n:=n) T U J aq aZ az bL cz dm (cdv:=cdv) (A:=A) (outer:=outer) (s:=s) (H0:=H) (E:=E) hr
  obtain ⟨t11,Ys,Nu⟩:=a4A (f:=f) (n:=n) T U J aq aZ az bL cz dm (cdv:=cdv) (A:=A) (outer:=outer) (s:=s) (H0:=H) (E:=E) hr
  have hu:=bh hr
  rw [show av cE=[_,_,_,sD 3,sD 4,sD 5,sD 6,sD 7,sD 8,sD 9,sD 10,sD 11] from rfl]
  refine ⟨_,(ai (tS (pv 1) (pZ rfl (bZ (aP (i:=4) cB.nd rfl (Or.inl rfl)) (bZ (aP (i:=5) cB.nd rfl (Or.inr rfl)) (bZ (aP (i:=6) cB.nd rfl (Or.inl rfl)) (bZ (aP (i:=7) cB.nd rfl (Or.inl rfl)) iz))))))
   (ai (aT (i:=8) cB.nd rfl (Or.inl rfl) (au aq.ok (hr.mono (by first | decide | omega)) rfl aq.mm aq.kp aq.b .nil aB (aa (pv 0) (aa aj ah))))
   (ai (aT (i:=9) cB.nd rfl (Or.inl rfl) (aJ cN (pv 4) (au aq.ok (hr.mono (by first | decide | omega)) rfl aq.mm aq.kp aq.b .nil aB (aa (pv 0) (aa (bA bR (by rfl) T.len PySem.boot_len (aa (pv 4) ah)) ah))) (fun _ _=>rfl)))
   (ai p3 (ai p4 (ai p5 (ai p6 (ai p7 (ai p8 (ai p9 (ai Yt (aA Ys)))))))))))),?_⟩
  obtain ⟨a1,a2,a3,a4,eo,ea,eb,ec,ee⟩:=id hO
  have W:W9 H H d p q a1 a2 a3 a4 o us hs:=⟨fun _ _ z _=>z,hd,eo,ea,eb,ec,ee,hH⟩
  have w1:=ho.w1
  refine (cV rfl ⟨p,cV rfl ⟨aW.of eo,rfl,_,cV rfl ⟨_,cV rfl ⟨_,cV rfl ⟨_,cV rfl ⟨rfl,?_⟩⟩⟩⟩⟩⟩)
  refine (cV rfl ⟨d,14,rfl,W.d,(by decide),fun r1 H1 h1 b1 d1=>?_⟩)
  have W:=W.next b1 d1
  refine (cV rfl (cV rfl (cV rfl ⟨a1,cV rfl ⟨.inl (bS.of W.ea),d,(o.ws.length:Int),(congrArg (fun z:Nat=>[V.ref d,V.int (z:Int)]) (List.length_map ..)),W.d,by omega,fun r2 H2 h2 b2 d2=>?_⟩⟩)))
  have hr2:r2<o.ws.length:=by omega
  have W:=W.next b2 d2
  refine (cL (bS.of W.ea) (bI (gC hr2)) ?_)
  refine l3 _ d p q a1 a2 a3 a4 kk r1 o.ws[r2] o us hs H _ hkn ho W (fun H43 W=>?_) k
  refine l4 _ d p q a1 a2 a3 a4 kk r1 o.ws[r2] o us hs H _ hkn ho W (fun H44 W=>?_) k
  refine l5 _ d p q a1 a2 a3 a4 kk r1 o.ws[r2] o us hs H _ hkn ho W (fun H45 W=>?_) k
  refine l6 _ d p q a1 a2 a3 a4 kk r1 o.ws[r2] o us hs H _ hkn ho W (fun H46 W=>?_) k
  refine l7 _ d p q a1 a2 a3 a4 kk r1 o.ws[r2] o us hs H _ hkn ho W (fun H47 W=>?_) k
  refine l8 _ d p q a1 a2 a3 a4 kk r1 o.ws[r2] o us hs H _ hkn ho W (fun H48 W=>?_) k
  refine l9 _ d p q a1 a2 a3 a4 kk r1 o.ws[r2] o us hs H _ hkn ho W (fun H49 W=>?_) k
  refine JE _ d p q a1 a2 a3 a4 kk r1 o.ws[r2] o us hs H _ hkn ho W (fun H50 W=>?_) k
  exact Nu _ d p q a1 a2 a3 a4 kk r1 o.ws[r2] o us hs H _ hkn ho W k
abbrev iZ:Stmt:=top 41
theorem bY:aQ ["_law_draw","_law_name","_law_names_here","_law_many","_law_helpers","_law_params","_law_more","_law_answers","_law_uses","_law_things","_law_known","_law_needs","_law_gives","_law_writes","_law_makes","_law_steps_here"] ["_law_draw","_law_name","_law_names_here","_law_many","_law_helpers"] (ak iZ):=⟨rfl,rfl,rfl,by decide +kernel,rfl,by decide +kernel,by decide +kernel⟩
theorem C6 {f:Addr} {fd:FuncData} {Y:Cy} {fS:Addr} {n:Nat} (F:dX K "_law_helper" "_law_helper" iZ f fd) (T:Txt K mg Y.z.s) (U:dW K mg Y.z) (J:eW K mg Y fS) (aq:Dn P w K mg base 2 "_law_next" ["_law_draw","_law_size"] dJ) (az:Dn P w K mg base 5 "_law_condition" ["_law_draw","_law_things","_law_deep"] (cU 2)) (bL:Dn P w K mg base 13 "_law_steps" ["_law_draw","_law_own","_law_many","_law_deep","_law_helpers"] (dZ 3)):bH P w K mg base dg 14 f fd ["_law_draw","_law_name","_law_names_here","_law_many","_law_helpers"] pQ:=by
 refine F.ok bY (fun vs H Q E h=>?_) (fun cdv A outer s H vs Q E hr h=>?_)
 ·obtain ⟨d,l,q,x,m,xs,us,hs,rfl,hd,hx,el,l8,hn,nd,hm,hH,k⟩:=h
  rfl
 ·obtain ⟨d,l,q,x,m,xs,us,hs,rfl,hd,hx,el,l8,hn,nd,hm,hH,k⟩:=h
  have hu:=bh hr
  rw [show av iZ=[_,_,_,_,_,_,_,_,_,_,_,_,_,_,_] from rfl]
  refine ⟨_,(ai (aT (i:=5) bY.nd rfl (Or.inr rfl) (aU aK (by rfl) T.tuple boot_tuple (aa (eu jW (pv 2) iy (dO (au aq.ok (hr.mono (by first | decide | omega)) rfl aq.mm aq.kp aq.b .nil aB (aa (pv 0) (aa aj ah))))) ah)))
   (ai (aT (i:=6) bY.nd rfl (Or.inl rfl) (bN oM (au aq.ok (hr.mono (by first | decide | omega)) rfl aq.mm aq.kp aq.b .nil aB (aa (pv 0) (aa aj ah))) aj))
   (ai (aT (i:=5) bY.nd rfl (Or.inr rfl) (bN ki (pv 5) (aU aK (by rfl) T.tuple boot_tuple (aa (cK (br ["_law_row"] [] [] rfl (by decide +kernel) (by decide +kernel) (by with_unfolding_all rfl) (by exact trivial) (by rfl) rfl (by rfl)) rfl (gp (eu jW (pv 2) (dO aj) (dO (bN gx aj (pv 6))))) (fun _ _ _ _=>(aP (i:=0) (show List.Nodup (["_law_row"]:List Str) by decide +kernel) rfl (Or.inl rfl) (Or.inr rfl))) (fun _ _ _ _=>cy) (fun _ _ _ _=>(bN ic bf (pv 0)))) ah))))
   (ai (aT (i:=7) bY.nd rfl (Or.inr rfl) (aU aK (by rfl) T.tuple boot_tuple (aa (eu jW (pv 2) (dO aj) (dO (bN gx aj (au aq.ok (hr.mono (by first | decide | omega)) rfl aq.mm aq.kp aq.b .nil aB (aa (pv 0) (aa aj ah)))))) ah)))
   (ai (jx (i:=8) bY.nd rfl (Or.inl rfl) (br ["_law_row"] [] [] rfl (by decide +kernel) (by decide +kernel) (by with_unfolding_all rfl) (by exact trivial) (by rfl) rfl (by rfl)) rfl (gp (eu jW (pv 2) (dO aj) (dO aj))) (fun _ _ _ _=>(aP (i:=0) (show List.Nodup (["_law_row"]:List Str) by decide +kernel) rfl (Or.inl rfl) (Or.inr rfl))) (fun _ _ _ _=>cy) (fun _ _ _ _=>(pv 0)))
   (ai (aT (i:=9) bY.nd rfl (Or.inl rfl) (bN tW (eu jW (pv 2) iy (dO aj)) (cK (br ["_law_row"] [] [] rfl (by decide +kernel) (by decide +kernel) (by with_unfolding_all rfl) (by exact trivial) (by rfl) rfl (by rfl)) rfl (gp (pv 8)) (fun _ _ _ _=>(aP (i:=0) (show List.Nodup (["_law_row"]:List Str) by decide +kernel) rfl (Or.inl rfl) (Or.inr rfl))) (fun _ _ _ _=>cy) (fun _ _ _ _=>(bN ic bf (pv 0))))))
   (ai (aT (i:=10) bY.nd rfl (Or.inr rfl) (cK (br ["_law_param"] [] [] rfl (by decide +kernel) (by decide +kernel) (by with_unfolding_all rfl) (by exact trivial) (by rfl) rfl (by rfl)) rfl (eX (pv 5)) (fun _ _ _ _=>(aP (i:=0) (show List.Nodup (["_law_param"]:List Str) by decide +kernel) rfl (Or.inl rfl) (Or.inr rfl))) (fun _ _ _ _=>cy) (fun _ _ _ _=>(pv 0))))
   (ai (aT (i:=6) bY.nd rfl (Or.inl rfl) (au aq.ok (hr.mono (by first | decide | omega)) rfl aq.mm aq.kp aq.b .nil aB (aa (pv 0) (aa aj ah))))
   (ai (aT (i:=11) bY.nd rfl (Or.inl rfl) (aU aK (by rfl) T.tuple boot_tuple (aa (cK (br ["_law_k"] ["_law_draw","_law_known"] [0,10] rfl (by decide +kernel) (by decide +kernel) (by with_unfolding_all rfl) (by exact ⟨rfl,rfl,trivial⟩) (by rfl) rfl (by rfl)) rfl (fq rfl T.range (aa (pv 6) ah)) (fun _ _ _ _=>(aP (i:=0) (show List.Nodup (["_law_k","_law_draw","_law_known"]:List Str) by decide +kernel) rfl (Or.inl rfl) (Or.inr rfl))) (fun _ _ _ _=>cy) (fun _ _ _ _=>(au az.ok (hr.mono (by first | decide | omega)) rfl az.mm az.kp az.b .nil aB (aa (pv 1) (aa (pv 2) (aa aj ah)))))) ah)))
   (ai (aT (i:=6) bY.nd rfl (Or.inl rfl) (au aq.ok (hr.mono (by first | decide | omega)) rfl aq.mm aq.kp aq.b .nil aB (aa (pv 0) (aa aj ah))))
   (ai (aT (i:=12) bY.nd rfl (Or.inl rfl) (aU aK (by rfl) T.tuple boot_tuple (aa (cK (br ["_law_k"] ["_law_draw","_law_known","_law_answers"] [0,10,7] rfl (by decide +kernel) (by decide +kernel) (by with_unfolding_all rfl) (by exact ⟨rfl,rfl,rfl,trivial⟩) (by rfl) rfl (by rfl)) rfl (fq rfl T.range (aa (pv 6) ah)) (fun _ _ _ _=>(aP (i:=0) (show List.Nodup (["_law_k","_law_draw","_law_known","_law_answers"]:List Str) by decide +kernel) rfl (Or.inl rfl) (Or.inr rfl))) (fun _ _ _ _=>cy) (fun _ _ _ _=>(au az.ok (hr.mono (by first | decide | omega)) rfl az.mm az.kp az.b .nil aB (aa (pv 1) (aa (bN tW (pv 2) (aU (uR (K:=K) rfl) (by rfl) T.list boot_list (aa (pv 3) ah))) (aa aj ah)))))) ah)))
   (ai (jx (i:=13) bY.nd rfl (Or.inl rfl) (br ["_law_one"] ["_law_params"] [5] rfl (by decide +kernel) (by decide +kernel) (by with_unfolding_all rfl) (by exact ⟨rfl,trivial⟩) (by rfl) rfl (by rfl)) rfl (gp (eu jW (pv 2) iy (dO aj))) (fun _ _ _ _=>(aP (i:=0) (show List.Nodup (["_law_one","_law_params"]:List Str) by decide +kernel) rfl (Or.inl rfl) (Or.inr rfl))) (fun _ _ _ _=>(oE (aN (mG (K:=K) rfl) (pv 0) (pv 1) (by rfl)))) (fun _ _ _ _=>(pv 0)))
   (ai (jx (i:=14) bY.nd rfl (Or.inl rfl) (br ["_law_row"] ["_law_params"] [5] rfl (by decide +kernel) (by decide +kernel) (by with_unfolding_all rfl) (by exact ⟨rfl,trivial⟩) (by rfl) rfl (by rfl)) rfl (gp (pv 8)) (fun _ _ _ _=>(aP (i:=0) (show List.Nodup (["_law_row","_law_params"]:List Str) by decide +kernel) rfl (Or.inl rfl) (Or.inr rfl))) (fun _ _ _ _=>(oE (aN (mG (K:=K) rfl) (bN ic bf (pv 0)) (pv 1) (by rfl)))) (fun _ _ _ _=>(pv 0)))
   (ai (aT (i:=15) bY.nd rfl (Or.inl rfl) (au bL.ok (hr.mono (by first | decide | omega)) rfl bL.mm bL.kp bL.b .nil aB (aa (pv 0) (aa (aS (aa (pv 13) (aa (pv 9) (aa (pv 14) (aa (pv 8) ah))))) (aa (pv 3) (aa aj (aa (pv 4) ah)))))))
   (aA (aM (aS (aa (pv 1) (aa (pv 5) (aa (pv 7) (aa (pv 11) (aa (pv 12) (aa (pv 15) ah))))))))))))))))))))))),?_⟩
  have F:bz d H H:=fun _ _ z _=>z
  have D:=hd
  have LA:∀y∈xs,y.length≤8:=fun y hy=>(hn y hy).le
  refine (cV rfl (cV rfl ⟨d,3,rfl,D,(by decide),fun r1 H1 h1 b1 d1=>?_⟩))
  have el:=b1 _ _ el (aX D el)
  have hH:=hH.next D b1
  have F:=F.trans b1
  have D:=d1
  refine (cV rfl ⟨l,cV rfl ⟨bS.of el,fun pa hpa=>?_⟩⟩)
  rw [CO]
  have el:=(new (o:=.lst ((xs.take r1).map V.str)) hpa) _ _ el
  have hH:=hH.same (new (o:=.lst ((xs.take r1).map V.str)) hpa)
  have F:=F.trans (bz.of (new (o:=.lst ((xs.take r1).map V.str)) hpa))
  have D:=D.same (new (o:=.lst ((xs.take r1).map V.str)) hpa)
  have epa:upd H1 pa (.lst ((xs.take r1).map V.str)) pa=some (.lst ((xs.take r1).map V.str)):=af
  refine ⟨pa,cV rfl (.inl ⟨bS.of epa,fun ta JH=>?_⟩)⟩
  have el:=(new (o:=.tup ((xs.take r1).map V.str)) JH) _ _ el
  have hH:=hH.same (new (o:=.tup ((xs.take r1).map V.str)) JH)
  have F:=F.trans (bz.of (new (o:=.tup ((xs.take r1).map V.str)) JH))
  have D:=D.same (new (o:=.tup ((xs.take r1).map V.str)) JH)
  have eta:upd (upd H1 pa (.lst ((xs.take r1).map V.str))) ta (.tup ((xs.take r1).map V.str)) ta=some (.tup ((xs.take r1).map V.str)):=af
  generalize (upd (upd H1 pa (.lst ((xs.take r1).map V.str))) ta (.tup ((xs.take r1).map V.str)))=G1 at F D el hH eta  ⊢
  refine (cV rfl ⟨d,3,rfl,D,(by decide),fun r2 H2 h2 b2 d2=>⟨_,cV rfl ⟨rfl,⟨by decide,by decide⟩,?_⟩⟩⟩)
  have el:=b2 _ _ el (aX D el)
  have hH:=hH.next D b2
  have eta:=(D.soft b2).t _ _ eta
  have F:=F.trans b2
  have D:=d2
  refine (cV rfl (cV rfl (cV rfl (cV rfl ⟨_,cV rfl ⟨rfl,cV rfl ⟨l,cV rfl ⟨bS.of el,fun pb Ku=>?_⟩⟩⟩⟩))))
  rw [show (6:Int)+(r2:Int) / 2=((6+r2 / 2:Nat):Int) by omega,show (some (6:Int))=some ((6:Nat):Int) from rfl,Jj]
  have msl:((xs.drop 6).take (6+r2 / 2-6)).length≤8:=by rw [List.length_take,List.length_drop];omega
  have msm:∀y∈(xs.drop 6).take (6+r2 / 2-6),y∈xs:=fun y hy=>List.mem_of_mem_drop (List.mem_of_mem_take hy)
  generalize (xs.drop 6).take (6+r2 / 2-6)=ms at msl msm ⊢
  have el:=(new (o:=.lst (ms.map V.str)) Ku) _ _ el
  have hH:=hH.same (new (o:=.lst (ms.map V.str)) Ku)
  have eta:=(new (o:=.lst (ms.map V.str)) Ku) _ _ eta
  have F:=F.trans (bz.of (new (o:=.lst (ms.map V.str)) Ku))
  have D:=D.same (new (o:=.lst (ms.map V.str)) Ku)
  have fH:upd H2 pb (.lst (ms.map V.str)) pb=some (.lst (ms.map V.str)):=af
  generalize (upd H2 pb (.lst (ms.map V.str)))=G2 at F D el hH eta fH ⊢
  refine ⟨pb,rfl,⟨_,bS.of fH⟩,eS (xs:=(ms).map V.str) (fun i ys H'=>aH G2 H'∧ys=(((ms).take i).map hsh).map V.str) ⟨aH.refl _,rfl⟩ (fun i ys H' _ q=>bS.of (q.1 _ _ fH)) ?_ ?_⟩
  ·rintro i v ys H' hi ⟨sm,rfl⟩
   obtain ⟨y,hy,rfl⟩:=ie hi
   have hil:=(List.getElem?_eq_some_iff.mp hy).1
   have LD:=List.mem_of_getElem? hy
   refine ⟨Ext.one,gk (cV rfl ⟨_,cV rfl ⟨rfl,(by have:=LA y (msm y LD);show 1+y.length≤sizeLine;exact Nat.le_of_lt (line _ (by omega))),?_,sm,?_⟩⟩)⟩
   ·rw [List.length_map,List.length_map,List.length_take]
    exact line _ (by omega)
   ·rw [take_snoc hy,List.map_append,List.map_append]
    rfl
  rintro ys G3 ⟨sm,rfl⟩ qb LG
  rw [List.length_map,List.take_length]
  have el:=sm _ _ el
  have hH:=hH.same sm
  have eta:=sm _ _ eta
  have fH:=sm _ _ fH
  have F:=F.trans (bz.of sm)
  have D:=D.same sm
  have el:=(new (o:=.lst ((ms.map hsh).map V.str)) LG) _ _ el
  have hH:=hH.same (new (o:=.lst ((ms.map hsh).map V.str)) LG)
  have eta:=(new (o:=.lst ((ms.map hsh).map V.str)) LG) _ _ eta
  have fH:=(new (o:=.lst ((ms.map hsh).map V.str)) LG) _ _ fH
  have F:=F.trans (bz.of (new (o:=.lst ((ms.map hsh).map V.str)) LG))
  have D:=D.same (new (o:=.lst ((ms.map hsh).map V.str)) LG)
  have eqb:upd G3 qb (.lst ((ms.map hsh).map V.str)) qb=some (.lst ((ms.map hsh).map V.str)):=af
  refine ⟨qb,cV rfl (.inl ⟨bS.of eqb,fun tb htb=>?_⟩)⟩
  have el:=(new (o:=.tup ((ms.map hsh).map V.str)) htb) _ _ el
  have hH:=hH.same (new (o:=.tup ((ms.map hsh).map V.str)) htb)
  have eta:=(new (o:=.tup ((ms.map hsh).map V.str)) htb) _ _ eta
  have fH:=(new (o:=.tup ((ms.map hsh).map V.str)) htb) _ _ fH
  have F:=F.trans (bz.of (new (o:=.tup ((ms.map hsh).map V.str)) htb))
  have D:=D.same (new (o:=.tup ((ms.map hsh).map V.str)) htb)
  have LJ:upd (upd G3 qb (.lst ((ms.map hsh).map V.str))) tb (.tup ((ms.map hsh).map V.str)) tb=some (.tup ((ms.map hsh).map V.str)):=af
  refine Jo eta LJ (by rw [List.length_take,List.length_map];omega) fun tp G4 OF fO=>?_
  have el:=OF _ _ el
  have hH:=hH.same OF
  have eta:=OF _ _ eta
  have fH:=OF _ _ fH
  have F:=F.trans (bz.of OF)
  have D:=D.same OF
  have psl:(xs.take r1++ms.map hsh).length≤10:=by rw [List.length_append,List.length_take,List.length_map];omega
  have Tz:∀y∈xs.take r1++ms.map hsh,1≤y.length∧y.length≤20:=fun y hy=>by
   rcases List.mem_append.mp hy with z | z
   ·have:=hn y (List.mem_of_mem_take z);exact ⟨this.ge,by have:=this.le;omega⟩
   ·obtain ⟨w,hw,rfl⟩:=List.mem_map.mp z
    have:=LA w (msm w hw)
    rw [CB];omega
  have psf:∀y∈xs.drop 2,y ∉ xs.take r1++ms.map hsh:=fun y hy hz=>by
   rcases List.mem_append.mp hz with z | z
   ·have e:=List.nodup_append.mp (show (xs.take 2++xs.drop 2).Nodup by rw [List.take_append_drop];exact nd)
    have z2:y∈xs.take 2:=by
     have:xs.take r1=(xs.take 2).take r1:=by rw [List.take_take,Nat.min_eq_left (by omega)]
     rw [this] at z
     exact List.mem_of_mem_take z
    exact e.2.2 y z2 y hy rfl
   ·obtain ⟨w,hw,e⟩:=List.mem_map.mp z
    have h1:=(hn y (List.mem_of_mem_drop hy)).no
    rw [←e,IA] at h1
    exact h1 rfl
  generalize xs.take r1++ms.map hsh=ps at fO psl Tz psf ⊢
  refine (cV rfl (cV rfl (cV rfl ⟨d,3,rfl,D,(by decide),fun r3 H3 h3 b3 d3=>⟨_,cV rfl ⟨rfl,cV rfl ⟨l,cV rfl ⟨bS.of (b3 _ _ el (aX D el)),fun pc Dw=>?_⟩⟩⟩⟩⟩)))
  have el:=b3 _ _ el (aX D el)
  have hH:=hH.next D b3
  have eta:=(D.soft b3).t _ _ eta
  have fH:=b3 _ _ fH (aX D fH)
  have fO:=(D.soft b3).t _ _ fO
  have F:=F.trans b3
  have D:=d3
  rw [show (3:Int)+(r3:Int)=((3+r3:Nat):Int) by omega,show (some (3:Int))=some ((3:Nat):Int) from rfl,Jj]
  have anl:((xs.drop 3).take (3+r3-3)).length≤10:=by rw [List.length_take];omega
  have anm:∀y∈(xs.drop 3).take (3+r3-3),y.length≤20:=fun y hy=>by have:=LA y (List.mem_of_mem_drop (List.mem_of_mem_take hy));omega
  generalize (xs.drop 3).take (3+r3-3)=an at anl anm ⊢
  have el:=(new (o:=.lst (an.map V.str)) Dw) _ _ el
  have hH:=hH.same (new (o:=.lst (an.map V.str)) Dw)
  have eta:=(new (o:=.lst (an.map V.str)) Dw) _ _ eta
  have fH:=(new (o:=.lst (an.map V.str)) Dw) _ _ fH
  have fO:=(new (o:=.lst (an.map V.str)) Dw) _ _ fO
  have F:=F.trans (bz.of (new (o:=.lst (an.map V.str)) Dw))
  have D:=D.same (new (o:=.lst (an.map V.str)) Dw)
  have epc:upd H3 pc (.lst (an.map V.str)) pc=some (.lst (an.map V.str)):=af
  refine ⟨pc,cV rfl (.inl ⟨bS.of epc,fun tc htc=>?_⟩)⟩
  have el:=(new (o:=.tup (an.map V.str)) htc) _ _ el
  have hH:=hH.same (new (o:=.tup (an.map V.str)) htc)
  have eta:=(new (o:=.tup (an.map V.str)) htc) _ _ eta
  have fH:=(new (o:=.tup (an.map V.str)) htc) _ _ fH
  have fO:=(new (o:=.tup (an.map V.str)) htc) _ _ fO
  have F:=F.trans (bz.of (new (o:=.tup (an.map V.str)) htc))
  have D:=D.same (new (o:=.tup (an.map V.str)) htc)
  have gQ:upd (upd H3 pc (.lst (an.map V.str))) tc (.tup (an.map V.str)) tc=some (.tup (an.map V.str)):=af
  generalize (upd (upd H3 pc (.lst (an.map V.str))) tc (.tup (an.map V.str)))=G5 at F D el hH eta fH fO gQ  ⊢
  refine (cV rfl (cV rfl (cV rfl ⟨l,cV rfl ⟨bS.of el,fun pd LH=>?_⟩⟩)))
  rw [show (some (6:Int))=some ((6:Nat):Int) from rfl,show (some (8:Int))=some ((8:Nat):Int) from rfl,Jj]
  have usl:((xs.drop 6).take (8-6)).length=2:=by rw [List.length_take,List.length_drop,l8];rfl
  have O3:∀y∈(xs.drop 6).take (8-6),y∈xs:=fun y hy=>List.mem_of_mem_drop (List.mem_of_mem_take hy)
  generalize (xs.drop 6).take (8-6)=fL at usl O3 ⊢
  have el:=(new (o:=.lst (fL.map V.str)) LH) _ _ el
  have hH:=hH.same (new (o:=.lst (fL.map V.str)) LH)
  have eta:=(new (o:=.lst (fL.map V.str)) LH) _ _ eta
  have fH:=(new (o:=.lst (fL.map V.str)) LH) _ _ fH
  have fO:=(new (o:=.lst (fL.map V.str)) LH) _ _ fO
  have gQ:=(new (o:=.lst (fL.map V.str)) LH) _ _ gQ
  have F:=F.trans (bz.of (new (o:=.lst (fL.map V.str)) LH))
  have D:=D.same (new (o:=.lst (fL.map V.str)) LH)
  have gJ:upd G5 pd (.lst (fL.map V.str)) pd=some (.lst (fL.map V.str)):=af
  generalize (upd G5 pd (.lst (fL.map V.str)))=G6 at F D el hH eta fH fO gQ gJ ⊢
  refine ⟨pd,rfl,⟨_,bS.of gJ⟩,eS (xs:=(fL).map V.str) (fun i ys H'=>aH G6 H'∧ys=(((fL).take i).map id).map V.str) ⟨aH.refl _,rfl⟩ (fun i ys H' _ q=>bS.of (q.1 _ _ gJ)) ?_ ?_⟩
  ·rintro i v ys H' hi ⟨sm,rfl⟩
   obtain ⟨y,hy,rfl⟩:=ie hi
   have hil:=(List.getElem?_eq_some_iff.mp hy).1
   have LD:=List.mem_of_getElem? hy
   refine ⟨Ext.one,gk (cV rfl ⟨?_,sm,?_⟩)⟩
   ·rw [List.length_map,List.length_map,List.length_take]
    exact line _ (by omega)
   ·rw [take_snoc hy,List.map_append,List.map_append]
    rfl
  rintro ys G7 ⟨sm,rfl⟩ qd Ks
  rw [List.length_map,List.take_length]
  have el:=sm _ _ el
  have hH:=hH.same sm
  have eta:=sm _ _ eta
  have fH:=sm _ _ fH
  have fO:=sm _ _ fO
  have gQ:=sm _ _ gQ
  have gJ:=sm _ _ gJ
  have F:=F.trans (bz.of sm)
  have D:=D.same sm
  rw [List.map_id]
  have el:=(new (o:=.lst (fL.map V.str)) Ks) _ _ el
  have hH:=hH.same (new (o:=.lst (fL.map V.str)) Ks)
  have eta:=(new (o:=.lst (fL.map V.str)) Ks) _ _ eta
  have fH:=(new (o:=.lst (fL.map V.str)) Ks) _ _ fH
  have fO:=(new (o:=.lst (fL.map V.str)) Ks) _ _ fO
  have gQ:=(new (o:=.lst (fL.map V.str)) Ks) _ _ gQ
  have gJ:=(new (o:=.lst (fL.map V.str)) Ks) _ _ gJ
  have F:=F.trans (bz.of (new (o:=.lst (fL.map V.str)) Ks))
  have D:=D.same (new (o:=.lst (fL.map V.str)) Ks)
  have gR:upd G7 qd (.lst (fL.map V.str)) qd=some (.lst (fL.map V.str)):=af
  generalize (upd G7 qd (.lst (fL.map V.str)))=G8 at F D el hH eta fH fO gQ gJ gR ⊢
  refine (cV rfl (cV rfl ⟨l,cV rfl ⟨bS.of el,fun pe JI=>?_⟩⟩))
  rw [show (some (6:Int))=some ((6:Nat):Int) from rfl,CO]
  have el:=(new (o:=.lst ((xs.take 6).map V.str)) JI) _ _ el
  have hH:=hH.same (new (o:=.lst ((xs.take 6).map V.str)) JI)
  have eta:=(new (o:=.lst ((xs.take 6).map V.str)) JI) _ _ eta
  have fH:=(new (o:=.lst ((xs.take 6).map V.str)) JI) _ _ fH
  have fO:=(new (o:=.lst ((xs.take 6).map V.str)) JI) _ _ fO
  have gQ:=(new (o:=.lst ((xs.take 6).map V.str)) JI) _ _ gQ
  have gJ:=(new (o:=.lst ((xs.take 6).map V.str)) JI) _ _ gJ
  have gR:=(new (o:=.lst ((xs.take 6).map V.str)) JI) _ _ gR
  have F:=F.trans (bz.of (new (o:=.lst ((xs.take 6).map V.str)) JI))
  have D:=D.same (new (o:=.lst ((xs.take 6).map V.str)) JI)
  have iN:upd G8 pe (.lst ((xs.take 6).map V.str)) pe=some (.lst ((xs.take 6).map V.str)):=af
  generalize (upd G8 pe (.lst ((xs.take 6).map V.str)))=G9 at F D el hH eta fH fO gQ gJ gR iN ⊢
  refine (cV rfl ⟨qd,rfl,⟨_,bS.of gR⟩,eS (xs:=(fL).map V.str) (fun i ys H'=>aH G9 H'∧ys=(((fL).take i).map hsh).map V.str) ⟨aH.refl _,rfl⟩ (fun i ys H' _ q=>bS.of (q.1 _ _ gR)) ?_ ?_⟩)
  ·rintro i v ys H' hi ⟨sm,rfl⟩
   obtain ⟨y,hy,rfl⟩:=ie hi
   have hil:=(List.getElem?_eq_some_iff.mp hy).1
   have LD:=List.mem_of_getElem? hy
   refine ⟨Ext.one,gk (cV rfl ⟨_,cV rfl ⟨rfl,(by have:=LA y (O3 y LD);show 1+y.length≤sizeLine;exact Nat.le_of_lt (line _ (by omega))),?_,sm,?_⟩⟩)⟩
   ·rw [List.length_map,List.length_map,List.length_take]
    exact line _ (by omega)
   ·rw [take_snoc hy,List.map_append,List.map_append]
    rfl
  rintro ys G10 ⟨sm,rfl⟩ qe IB
  rw [List.length_map,List.take_length]
  have el:=sm _ _ el
  have hH:=hH.same sm
  have eta:=sm _ _ eta
  have fH:=sm _ _ fH
  have fO:=sm _ _ fO
  have gQ:=sm _ _ gQ
  have gJ:=sm _ _ gJ
  have gR:=sm _ _ gR
  have iN:=sm _ _ iN
  have F:=F.trans (bz.of sm)
  have D:=D.same sm
  have el:=(new (o:=.lst ((fL.map hsh).map V.str)) IB) _ _ el
  have hH:=hH.same (new (o:=.lst ((fL.map hsh).map V.str)) IB)
  have eta:=(new (o:=.lst ((fL.map hsh).map V.str)) IB) _ _ eta
  have fH:=(new (o:=.lst ((fL.map hsh).map V.str)) IB) _ _ fH
  have fO:=(new (o:=.lst ((fL.map hsh).map V.str)) IB) _ _ fO
  have gQ:=(new (o:=.lst ((fL.map hsh).map V.str)) IB) _ _ gQ
  have gJ:=(new (o:=.lst ((fL.map hsh).map V.str)) IB) _ _ gJ
  have gR:=(new (o:=.lst ((fL.map hsh).map V.str)) IB) _ _ gR
  have iN:=(new (o:=.lst ((fL.map hsh).map V.str)) IB) _ _ iN
  have F:=F.trans (bz.of (new (o:=.lst ((fL.map hsh).map V.str)) IB))
  have D:=D.same (new (o:=.lst ((fL.map hsh).map V.str)) IB)
  have eqe:upd G10 qe (.lst ((fL.map hsh).map V.str)) qe=some (.lst ((fL.map hsh).map V.str)):=af
  refine ⟨pe,qe,_,cV rfl ⟨rfl,iN,eqe,(by rw [List.length_map,List.length_map,List.length_map,List.length_take];exact Nat.le_of_lt (line _ (by omega))),fun pt yH=>?_⟩⟩
  rw [←List.map_append]
  have el:=(new (o:=.lst ((xs.take 6++fL.map hsh).map V.str)) yH) _ _ el
  have hH:=hH.same (new (o:=.lst ((xs.take 6++fL.map hsh).map V.str)) yH)
  have eta:=(new (o:=.lst ((xs.take 6++fL.map hsh).map V.str)) yH) _ _ eta
  have fH:=(new (o:=.lst ((xs.take 6++fL.map hsh).map V.str)) yH) _ _ fH
  have fO:=(new (o:=.lst ((xs.take 6++fL.map hsh).map V.str)) yH) _ _ fO
  have gQ:=(new (o:=.lst ((xs.take 6++fL.map hsh).map V.str)) yH) _ _ gQ
  have gJ:=(new (o:=.lst ((xs.take 6++fL.map hsh).map V.str)) yH) _ _ gJ
  have gR:=(new (o:=.lst ((xs.take 6++fL.map hsh).map V.str)) yH) _ _ gR
  have iN:=(new (o:=.lst ((xs.take 6++fL.map hsh).map V.str)) yH) _ _ iN
  have F:=F.trans (bz.of (new (o:=.lst ((xs.take 6++fL.map hsh).map V.str)) yH))
  have D:=D.same (new (o:=.lst ((xs.take 6++fL.map hsh).map V.str)) yH)
  have jJ:upd (upd G10 qe (.lst ((fL.map hsh).map V.str))) pt (.lst ((xs.take 6++fL.map hsh).map V.str)) pt=some (.lst ((xs.take 6++fL.map hsh).map V.str)):=af
  generalize (upd (upd G10 qe (.lst ((fL.map hsh).map V.str))) pt (.lst ((xs.take 6++fL.map hsh).map V.str)))=G11 at F D el hH eta fH fO gQ gJ gR iN jJ ⊢
  refine (cV rfl ⟨tp,rfl,⟨_,aW.of fO⟩,cT (xs:=(ps).map V.str) (fun i ys H'=>aH G11 H'∧ys=(((ps).take i).map id).map V.str) ⟨aH.refl _,rfl⟩ (fun i ys H' _ q=>aW.of (q.1 _ _ fO)) ?_ ?_⟩)
  ·rintro i v ys H' hi ⟨sm,rfl⟩
   obtain ⟨y,hy,rfl⟩:=ie hi
   have hil:=(List.getElem?_eq_some_iff.mp hy).1
   have LD:=List.mem_of_getElem? hy
   refine ⟨Ext.one,gk (cV rfl ⟨?_,sm,?_⟩)⟩
   ·rw [List.length_map,List.length_map,List.length_take]
    exact line _ (by omega)
   ·rw [take_snoc hy,List.map_append,List.map_append]
    rfl
  rintro ys JN ⟨sm,rfl⟩ qk DZ
  rw [List.length_map,List.take_length]
  have el:=sm _ _ el
  have hH:=hH.same sm
  have eta:=sm _ _ eta
  have fH:=sm _ _ fH
  have fO:=sm _ _ fO
  have gQ:=sm _ _ gQ
  have gJ:=sm _ _ gJ
  have gR:=sm _ _ gR
  have iN:=sm _ _ iN
  have jJ:=sm _ _ jJ
  have F:=F.trans (bz.of sm)
  have D:=D.same sm
  rw [List.map_id]
  have el:=(new (o:=.lst (ps.map V.str)) DZ) _ _ el
  have hH:=hH.same (new (o:=.lst (ps.map V.str)) DZ)
  have eta:=(new (o:=.lst (ps.map V.str)) DZ) _ _ eta
  have fH:=(new (o:=.lst (ps.map V.str)) DZ) _ _ fH
  have fO:=(new (o:=.lst (ps.map V.str)) DZ) _ _ fO
  have gQ:=(new (o:=.lst (ps.map V.str)) DZ) _ _ gQ
  have gJ:=(new (o:=.lst (ps.map V.str)) DZ) _ _ gJ
  have gR:=(new (o:=.lst (ps.map V.str)) DZ) _ _ gR
  have iN:=(new (o:=.lst (ps.map V.str)) DZ) _ _ iN
  have jJ:=(new (o:=.lst (ps.map V.str)) DZ) _ _ jJ
  have F:=F.trans (bz.of (new (o:=.lst (ps.map V.str)) DZ))
  have D:=D.same (new (o:=.lst (ps.map V.str)) DZ)
  have jS:upd JN qk (.lst (ps.map V.str)) qk=some (.lst (ps.map V.str)):=af
  generalize (upd JN qk (.lst (ps.map V.str)))=G13 at F D el hH eta fH fO gQ gJ gR iN jJ jS ⊢
  refine (cV rfl ⟨d,3,rfl,D,(by decide),fun r4 H4 h4 b4 d4=>?_⟩)
  have el:=b4 _ _ el (aX D el)
  have hH:=hH.next D b4
  have eta:=(D.soft b4).t _ _ eta
  have fH:=b4 _ _ fH (aX D fH)
  have fO:=(D.soft b4).t _ _ fO
  have gQ:=(D.soft b4).t _ _ gQ
  have gJ:=b4 _ _ gJ (aX D gJ)
  have gR:=b4 _ _ gR (aX D gR)
  have iN:=b4 _ _ iN (aX D iN)
  have jJ:=b4 _ _ jJ (aX D jJ)
  have jS:=b4 _ _ jS (aX D jS)
  have F:=F.trans b4
  have D:=d4
  refine (cV rfl ⟨(r4:Int),rfl,by omega,by omega,iu (n:=(r4:Int).toNat) (fun i ys H'=>bz d H4 H'∧Dr H' d∧∃cs:List (Int×Cd),Paired (fun u (q:Int×Cd)=>bg H' q.2 u) ys cs∧(∀q∈cs,BJ q.2)∧cs.length=i) ⟨fun _ _ z _=>z,D,[],.nil,(fun _ h=>nomatch h),rfl⟩ ?_ ?_⟩)
  ·rintro i ys H' hi ⟨F',D',cs,py,gc,lc⟩
   have mH:=aD py
   refine ⟨Ext.one,gk (cV rfl (cV rfl ⟨d,qk,1,ps,rfl,(by decide),D',F' _ _ jS (aX D jS),(by omega),(fun y hy=>by have:=(Tz y hy).2;omega),fun v c H5 b5 d5 D5 OV g5=>⟨line _ (by omega),F'.trans b5,d5,cs++[(0,c)],bx (L2.Paired.cQ py fun _ _ z=>bg.ao (D'.soft b5) z) D5,fun z hz=>?_,?_⟩⟩))⟩
   ·rcases List.mem_append.mp hz with z1 | z1
    ·exact gc z z1
    ·rw [List.mem_singleton.mp z1];exact ⟨⟨_,g5⟩,Nat.le_trans OV (by decide)⟩
   ·rw [List.length_append,lc];rfl
  rintro ys K4 ⟨F',D',csn,py,gcn,lcn⟩ ql Qx
  have el:=F' _ _ el (aX D el)
  have hH:=hH.next D F'
  have eta:=(D.soft F').t _ _ eta
  have fH:=F' _ _ fH (aX D fH)
  have fO:=(D.soft F').t _ _ fO
  have gQ:=(D.soft F').t _ _ gQ
  have gJ:=F' _ _ gJ (aX D gJ)
  have gR:=F' _ _ gR (aX D gR)
  have iN:=F' _ _ iN (aX D iN)
  have jJ:=F' _ _ jJ (aX D jJ)
  have jS:=F' _ _ jS (aX D jS)
  have F:=F.trans F'
  have D:=D'
  refine ⟨ql,cV rfl (.inl ⟨bS.of af,fun tn qE=>?_⟩)⟩
  have s3:aH K4 (upd (upd K4 ql (.lst ys)) tn (.tup ys)):=aH.new (new Qx) qE
  have Rn:fV (upd (upd K4 ql (.lst ys)) tn (.tup ys)) csn (.ref tn):=⟨tn,ys,rfl,af,L2.Paired.cQ py fun _ _ z=>bg.ao (ay.of s3) z⟩
  have el:=s3 _ _ el
  have hH:=hH.same s3
  have eta:=s3 _ _ eta
  have fH:=s3 _ _ fH
  have fO:=s3 _ _ fO
  have gQ:=s3 _ _ gQ
  have gJ:=s3 _ _ gJ
  have gR:=s3 _ _ gR
  have iN:=s3 _ _ iN
  have jJ:=s3 _ _ jJ
  have jS:=s3 _ _ jS
  have F:=F.trans (bz.of s3)
  have D:=D.same s3
  generalize upd (upd K4 ql (.lst ys)) tn (.tup ys)=Vz at F D el hH eta fH fO gQ gJ gR iN jJ jS Rn ⊢
  refine (cV rfl ⟨d,3,rfl,D,(by decide),fun r5 H5 h5 b5 d5=>?_⟩)
  have el:=b5 _ _ el (aX D el)
  have hH:=hH.next D b5
  have eta:=(D.soft b5).t _ _ eta
  have fH:=b5 _ _ fH (aX D fH)
  have fO:=(D.soft b5).t _ _ fO
  have gQ:=(D.soft b5).t _ _ gQ
  have gJ:=b5 _ _ gJ (aX D gJ)
  have gR:=b5 _ _ gR (aX D gR)
  have iN:=b5 _ _ iN (aX D iN)
  have jJ:=b5 _ _ jJ (aX D jJ)
  have jS:=b5 _ _ jS (aX D jS)
  have Rn:=fV.ao (D.soft b5) Rn
  have F:=F.trans b5
  have D:=d5
  refine (cV rfl ⟨(r5:Int),rfl,by omega,by omega,iu (n:=(r5:Int).toNat) (fun i ys H'=>bz d H5 H'∧Dr H' d∧∃cs:List (Int×Cd),Paired (fun u (q:Int×Cd)=>bg H' q.2 u) ys cs∧(∀q∈cs,BJ q.2)∧cs.length=i) ⟨fun _ _ z _=>z,D,[],.nil,(fun _ h=>nomatch h),rfl⟩ ?_ ?_⟩)
  ·rintro i ys H' hi ⟨F',D',cs,py,gc,lc⟩
   have mH:=aD py
   have ek':=F' _ _ jS (aX D jS)
   have ec':=(D.soft F').t _ _ gQ
   refine ⟨Ext.one,gk (cV rfl (cV rfl (cV rfl ⟨tc,cV rfl ⟨.inr (aW.of ec'),fun la hla=>?_⟩⟩)))⟩
   refine ⟨qk,la,_,cV rfl ⟨rfl,new hla _ _ ek',af,(by rw [List.length_map,List.length_map];exact Nat.le_of_lt (line _ (by omega))),fun lb hlb=>?_⟩⟩
   rw [←List.map_append]
   have B9:=(bz.of (new (o:=.lst (an.map V.str)) hla)).trans (bz.of (d:=d) (new (o:=.lst ((ps++an).map V.str)) hlb))
   have D9:=(D'.same (new (o:=.lst (an.map V.str)) hla)).same (new (o:=.lst ((ps++an).map V.str)) hlb)
   have F9:=F'.trans B9
   have e9:upd (upd H' la (.lst (an.map V.str))) lb (.lst ((ps++an).map V.str)) lb=some (.lst ((ps++an).map V.str)):=af
   refine ⟨d,lb,1,ps++an,rfl,(by decide),D9,e9,(by rw [List.length_append];omega),(fun y hy=>by rcases List.mem_append.mp hy with z | z;(have:=(Tz y z).2;omega);(have:=anm y z;omega)),fun v c H5 b5 d5 D5 OV g5=>⟨line _ (by omega),F9.trans b5,d5,cs++[(0,c)],bx (L2.Paired.cQ py fun _ _ z=>bg.ao (D'.soft (B9.trans b5)) z) D5,fun z hz=>?_,?_⟩⟩
   ·rcases List.mem_append.mp hz with z1 | z1
    ·exact gc z z1
    ·rw [List.mem_singleton.mp z1];exact ⟨⟨_,g5⟩,Nat.le_trans OV (by decide)⟩
   ·rw [List.length_append,lc];rfl
  rintro ys K1 ⟨F',D',csg,py,gcg,lcg⟩ ql Qx
  have el:=F' _ _ el (aX D el)
  have hH:=hH.next D F'
  have eta:=(D.soft F').t _ _ eta
  have fH:=F' _ _ fH (aX D fH)
  have fO:=(D.soft F').t _ _ fO
  have gQ:=(D.soft F').t _ _ gQ
  have gJ:=F' _ _ gJ (aX D gJ)
  have gR:=F' _ _ gR (aX D gR)
  have iN:=F' _ _ iN (aX D iN)
  have jJ:=F' _ _ jJ (aX D jJ)
  have jS:=F' _ _ jS (aX D jS)
  have Rn:=fV.ao (D.soft F') Rn
  have F:=F.trans F'
  have D:=D'
  refine ⟨ql,cV rfl (.inl ⟨bS.of af,fun tg htg=>?_⟩)⟩
  have s3:aH K1 (upd (upd K1 ql (.lst ys)) tg (.tup ys)):=aH.new (new Qx) htg
  have Rg:fV (upd (upd K1 ql (.lst ys)) tg (.tup ys)) csg (.ref tg):=⟨tg,ys,rfl,af,L2.Paired.cQ py fun _ _ z=>bg.ao (ay.of s3) z⟩
  have el:=s3 _ _ el
  have hH:=hH.same s3
  have eta:=s3 _ _ eta
  have fH:=s3 _ _ fH
  have fO:=s3 _ _ fO
  have gQ:=s3 _ _ gQ
  have gJ:=s3 _ _ gJ
  have gR:=s3 _ _ gR
  have iN:=s3 _ _ iN
  have jJ:=s3 _ _ jJ
  have jS:=s3 _ _ jS
  have Rn:=fV.ao (ay.of s3) Rn
  have F:=F.trans (bz.of s3)
  have D:=D.same s3
  generalize upd (upd K1 ql (.lst ys)) tg (.tup ys)=G15 at F D el hH eta fH fO gQ gJ gR iN jJ jS Rn Rg ⊢
  change vz 12 (.ref tg) [some (.ref d),some (.str x),some (.ref l),some (.int (m:Int)),some (.ref q),some (.ref tp),some (.int (r5:Int)),some (.ref tc),some (.ref qd),some (.ref pt),some (.ref qk),some (.ref tn),none,none,none,none] G15 _
  refine (cV rfl (cV rfl ⟨l,cV rfl ⟨bS.of el,fun pw Bu=>?_⟩⟩))
  rw [show (some (6:Int))=some ((6:Nat):Int) from rfl,CO]
  have el:=(new (o:=.lst ((xs.take 6).map V.str)) Bu) _ _ el
  have hH:=hH.same (new (o:=.lst ((xs.take 6).map V.str)) Bu)
  have eta:=(new (o:=.lst ((xs.take 6).map V.str)) Bu) _ _ eta
  have fH:=(new (o:=.lst ((xs.take 6).map V.str)) Bu) _ _ fH
  have fO:=(new (o:=.lst ((xs.take 6).map V.str)) Bu) _ _ fO
  have gQ:=(new (o:=.lst ((xs.take 6).map V.str)) Bu) _ _ gQ
  have gJ:=(new (o:=.lst ((xs.take 6).map V.str)) Bu) _ _ gJ
  have gR:=(new (o:=.lst ((xs.take 6).map V.str)) Bu) _ _ gR
  have iN:=(new (o:=.lst ((xs.take 6).map V.str)) Bu) _ _ iN
  have jJ:=(new (o:=.lst ((xs.take 6).map V.str)) Bu) _ _ jJ
  have jS:=(new (o:=.lst ((xs.take 6).map V.str)) Bu) _ _ jS
  have Rn:=fV.ao (ay.of (new (o:=.lst ((xs.take 6).map V.str)) Bu)) Rn
  have Rg:=fV.ao (ay.of (new (o:=.lst ((xs.take 6).map V.str)) Bu)) Rg
  have F:=F.trans (bz.of (new (o:=.lst ((xs.take 6).map V.str)) Bu))
  have D:=D.same (new (o:=.lst ((xs.take 6).map V.str)) Bu)
  have xo:upd G15 pw (.lst ((xs.take 6).map V.str)) pw=some (.lst ((xs.take 6).map V.str)):=af
  generalize (upd G15 pw (.lst ((xs.take 6).map V.str)))=G16 at F D el hH eta fH fO gQ gJ gR iN jJ jS Rn Rg xo ⊢
  have x6l:(xs.take 6).length≤6:=by rw [List.length_take];omega
  refine ⟨pw,rfl,⟨_,bS.of xo⟩,eS (xs:=(xs.take 6).map V.str) (fun i ys H'=>aH G16 H'∧∃ws:List Str,ys=ws.map V.str∧ws.length≤i∧(∀y∈(xs.take 6).take i,y ∉ ps→y∈ws)) ⟨aH.refl _,[],rfl,Nat.le_refl _,(fun _ h=>nomatch h)⟩ (fun i ys H' _ q=>bS.of (q.1 _ _ xo)) ?_ ?_⟩
  ·rintro i v ys H' hi ⟨sm,ws,rfl,lw,hw⟩
   obtain ⟨y,hy,rfl⟩:=ie hi
   have hil:=(List.getElem?_eq_some_iff.mp hy).1
   have LD:=List.mem_of_getElem? hy
   have e7:(if true=true then !oS (.str y) (ps.map V.str) else oS (.str y) (ps.map V.str))=!decide (y∈ps):=by first | (rw [if_pos rfl,gI];rfl) | rw [if_pos rfl,gI]
   refine ⟨Ext.one,cV rfl (cV rfl ⟨tp,cV rfl ⟨.inr (aW.of (sm _ _ fO)),rfl,fZ _,cV rfl ?_⟩⟩)⟩
   rw [e7]
   by_cases hp:y∈ps
   ·refine jz hp ⟨sm,ws,rfl,by omega,fun z hz hnz=>?_⟩
    rw [take_snoc hy] at hz
    rcases List.mem_append.mp hz with h | h
    ·exact hw z h hnz
    ·rw [List.mem_singleton.mp h] at hnz;exact absurd hp hnz
   ·refine lQ hp (cV rfl ⟨(by rw [List.length_map];exact line _ (by omega)),sm,ws++[y],(by rw [List.map_append];rfl),(by rw [List.length_append];show ws.length+1≤i+1;omega),fun z hz hnz=>?_⟩)
    rw [take_snoc hy] at hz
    rcases List.mem_append.mp hz with h | h
    ·exact List.mem_append_left _ (hw z h hnz)
    ·exact List.mem_append_right _ h
  rintro ys G17 ⟨sm,sJ,rfl,lqw,mqw⟩ qw yF
  rw [List.length_map,List.take_length] at mqw
  rw [List.length_map] at lqw
  have el:=sm _ _ el
  have hH:=hH.same sm
  have eta:=sm _ _ eta
  have fH:=sm _ _ fH
  have fO:=sm _ _ fO
  have gQ:=sm _ _ gQ
  have gJ:=sm _ _ gJ
  have gR:=sm _ _ gR
  have iN:=sm _ _ iN
  have jJ:=sm _ _ jJ
  have jS:=sm _ _ jS
  have Rn:=fV.ao (ay.of sm) Rn
  have Rg:=fV.ao (ay.of sm) Rg
  have xo:=sm _ _ xo
  have F:=F.trans (bz.of sm)
  have D:=D.same sm
  have el:=(new (o:=.lst (sJ.map V.str)) yF) _ _ el
  have hH:=hH.same (new (o:=.lst (sJ.map V.str)) yF)
  have eta:=(new (o:=.lst (sJ.map V.str)) yF) _ _ eta
  have fH:=(new (o:=.lst (sJ.map V.str)) yF) _ _ fH
  have fO:=(new (o:=.lst (sJ.map V.str)) yF) _ _ fO
  have gQ:=(new (o:=.lst (sJ.map V.str)) yF) _ _ gQ
  have gJ:=(new (o:=.lst (sJ.map V.str)) yF) _ _ gJ
  have gR:=(new (o:=.lst (sJ.map V.str)) yF) _ _ gR
  have iN:=(new (o:=.lst (sJ.map V.str)) yF) _ _ iN
  have jJ:=(new (o:=.lst (sJ.map V.str)) yF) _ _ jJ
  have jS:=(new (o:=.lst (sJ.map V.str)) yF) _ _ jS
  have Rn:=fV.ao (ay.of (new (o:=.lst (sJ.map V.str)) yF)) Rn
  have Rg:=fV.ao (ay.of (new (o:=.lst (sJ.map V.str)) yF)) Rg
  have xo:=(new (o:=.lst (sJ.map V.str)) yF) _ _ xo
  have F:=F.trans (bz.of (new (o:=.lst (sJ.map V.str)) yF))
  have D:=D.same (new (o:=.lst (sJ.map V.str)) yF)
  have D8:upd G17 qw (.lst (sJ.map V.str)) qw=some (.lst (sJ.map V.str)):=af
  generalize (upd G17 qw (.lst (sJ.map V.str)))=G18 at F D el hH eta fH fO gQ gJ gR iN jJ jS Rn Rg xo D8 ⊢
  change vz 13 (.ref qw) [some (.ref d),some (.str x),some (.ref l),some (.int (m:Int)),some (.ref q),some (.ref tp),some (.int (r5:Int)),some (.ref tc),some (.ref qd),some (.ref pt),some (.ref qk),some (.ref tn),some (.ref tg),none,none,none] G18 _
  have ww1:1≤sJ.length:=by
   have h2:2<xs.length:=by omega
   have m1:xs[2]∈xs.take 6:=by
    rw [List.mem_iff_getElem?]
    exact ⟨2,by rw [List.getElem?_take_of_lt (by decide),List.getElem?_eq_getElem h2]⟩
   have m2:xs[2]∈xs.drop 2:=by
    rw [List.mem_iff_getElem?]
    exact ⟨0,by rw [List.getElem?_drop,List.getElem?_eq_getElem h2]⟩
   exact List.length_pos_of_mem (mqw _ m1 (psf _ m2))
  refine (cV rfl ⟨qd,rfl,⟨_,bS.of gR⟩,eS (xs:=(fL).map V.str) (fun i ys H'=>aH G18 H'∧∃ws:List Str,ys=ws.map V.str∧ws.length≤i∧(∀y∈(fL).take i,hsh y ∉ ps→y∈ws)) ⟨aH.refl _,[],rfl,Nat.le_refl _,(fun _ h=>nomatch h)⟩ (fun i ys H' _ q=>bS.of (q.1 _ _ gR)) ?_ ?_⟩)
  ·rintro i v ys H' hi ⟨sm,ws,rfl,lw,hw⟩
   obtain ⟨y,hy,rfl⟩:=ie hi
   have hil:=(List.getElem?_eq_some_iff.mp hy).1
   have LD:=List.mem_of_getElem? hy
   have e7:(if true=true then !oS (.str (Str.ofString "#"++y)) (ps.map V.str) else oS (.str (Str.ofString "#"++y)) (ps.map V.str))=!decide ((hsh y)∈ps):=by first | (rw [if_pos rfl,gI];rfl) | rw [if_pos rfl,gI]
   refine ⟨Ext.one,cV rfl ⟨_,cV rfl ⟨rfl,(by have:=LA y (O3 y LD);show 1+y.length≤sizeLine;exact Nat.le_of_lt (line _ (by omega))),cV rfl ⟨tp,cV rfl ⟨.inr (aW.of (sm _ _ fO)),rfl,fZ _,cV rfl ?_⟩⟩⟩⟩⟩
   rw [e7]
   by_cases hp:(hsh y)∈ps
   ·refine jz hp ⟨sm,ws,rfl,by omega,fun z hz hnz=>?_⟩
    rw [take_snoc hy] at hz
    rcases List.mem_append.mp hz with h | h
    ·exact hw z h hnz
    ·rw [List.mem_singleton.mp h] at hnz;exact absurd hp hnz
   ·refine lQ hp (cV rfl ⟨(by rw [List.length_map];exact line _ (by omega)),sm,ws++[y],(by rw [List.map_append];rfl),(by rw [List.length_append];show ws.length+1≤i+1;omega),fun z hz hnz=>?_⟩)
    rw [take_snoc hy] at hz
    rcases List.mem_append.mp hz with h | h
    ·exact List.mem_append_left _ (hw z h hnz)
    ·exact List.mem_append_right _ h
  rintro ys G19 ⟨sm,sL,rfl,lqm,mqm⟩ qm yb
  rw [List.length_map,List.take_length] at mqm
  rw [List.length_map] at lqm
  have el:=sm _ _ el
  have hH:=hH.same sm
  have eta:=sm _ _ eta
  have fH:=sm _ _ fH
  have fO:=sm _ _ fO
  have gQ:=sm _ _ gQ
  have gJ:=sm _ _ gJ
  have gR:=sm _ _ gR
  have iN:=sm _ _ iN
  have jJ:=sm _ _ jJ
  have jS:=sm _ _ jS
  have Rn:=fV.ao (ay.of sm) Rn
  have Rg:=fV.ao (ay.of sm) Rg
  have xo:=sm _ _ xo
  have D8:=sm _ _ D8
  have F:=F.trans (bz.of sm)
  have D:=D.same sm
  have el:=(new (o:=.lst (sL.map V.str)) yb) _ _ el
  have hH:=hH.same (new (o:=.lst (sL.map V.str)) yb)
  have eta:=(new (o:=.lst (sL.map V.str)) yb) _ _ eta
  have fH:=(new (o:=.lst (sL.map V.str)) yb) _ _ fH
  have fO:=(new (o:=.lst (sL.map V.str)) yb) _ _ fO
  have gQ:=(new (o:=.lst (sL.map V.str)) yb) _ _ gQ
  have gJ:=(new (o:=.lst (sL.map V.str)) yb) _ _ gJ
  have gR:=(new (o:=.lst (sL.map V.str)) yb) _ _ gR
  have iN:=(new (o:=.lst (sL.map V.str)) yb) _ _ iN
  have jJ:=(new (o:=.lst (sL.map V.str)) yb) _ _ jJ
  have jS:=(new (o:=.lst (sL.map V.str)) yb) _ _ jS
  have Rn:=fV.ao (ay.of (new (o:=.lst (sL.map V.str)) yb)) Rn
  have Rg:=fV.ao (ay.of (new (o:=.lst (sL.map V.str)) yb)) Rg
  have xo:=(new (o:=.lst (sL.map V.str)) yb) _ _ xo
  have D8:=(new (o:=.lst (sL.map V.str)) yb) _ _ D8
  have F:=F.trans (bz.of (new (o:=.lst (sL.map V.str)) yb))
  have D:=D.same (new (o:=.lst (sL.map V.str)) yb)
  have N6:upd G19 qm (.lst (sL.map V.str)) qm=some (.lst (sL.map V.str)):=af
  generalize (upd G19 qm (.lst (sL.map V.str)))=G20 at F D el hH eta fH fO gQ gJ gR iN jJ jS Rn Rg xo D8 N6 ⊢
  change vz 14 (.ref qm) [some (.ref d),some (.str x),some (.ref l),some (.int (m:Int)),some (.ref q),some (.ref tp),some (.int (r5:Int)),some (.ref tc),some (.ref qd),some (.ref pt),some (.ref qk),some (.ref tn),some (.ref tg),some (.ref qw),none,none] G20 _
  refine (cV rfl (cV rfl (cV rfl (cV rfl (cV rfl ⟨(szl 4),fun to hto=>?_⟩)))))
  have el:=(new (o:=.tup ([V.ref qw,V.ref pt,V.ref qm,V.ref qd])) hto) _ _ el
  have hH:=hH.same (new (o:=.tup ([V.ref qw,V.ref pt,V.ref qm,V.ref qd])) hto)
  have eta:=(new (o:=.tup ([V.ref qw,V.ref pt,V.ref qm,V.ref qd])) hto) _ _ eta
  have fH:=(new (o:=.tup ([V.ref qw,V.ref pt,V.ref qm,V.ref qd])) hto) _ _ fH
  have fO:=(new (o:=.tup ([V.ref qw,V.ref pt,V.ref qm,V.ref qd])) hto) _ _ fO
  have gQ:=(new (o:=.tup ([V.ref qw,V.ref pt,V.ref qm,V.ref qd])) hto) _ _ gQ
  have gJ:=(new (o:=.tup ([V.ref qw,V.ref pt,V.ref qm,V.ref qd])) hto) _ _ gJ
  have gR:=(new (o:=.tup ([V.ref qw,V.ref pt,V.ref qm,V.ref qd])) hto) _ _ gR
  have iN:=(new (o:=.tup ([V.ref qw,V.ref pt,V.ref qm,V.ref qd])) hto) _ _ iN
  have jJ:=(new (o:=.tup ([V.ref qw,V.ref pt,V.ref qm,V.ref qd])) hto) _ _ jJ
  have jS:=(new (o:=.tup ([V.ref qw,V.ref pt,V.ref qm,V.ref qd])) hto) _ _ jS
  have Rn:=fV.ao (ay.of (new (o:=.tup ([V.ref qw,V.ref pt,V.ref qm,V.ref qd])) hto)) Rn
  have Rg:=fV.ao (ay.of (new (o:=.tup ([V.ref qw,V.ref pt,V.ref qm,V.ref qd])) hto)) Rg
  have xo:=(new (o:=.tup ([V.ref qw,V.ref pt,V.ref qm,V.ref qd])) hto) _ _ xo
  have D8:=(new (o:=.tup ([V.ref qw,V.ref pt,V.ref qm,V.ref qd])) hto) _ _ D8
  have N6:=(new (o:=.tup ([V.ref qw,V.ref pt,V.ref qm,V.ref qd])) hto) _ _ N6
  have F:=F.trans (bz.of (new (o:=.tup ([V.ref qw,V.ref pt,V.ref qm,V.ref qd])) hto))
  have D:=D.same (new (o:=.tup ([V.ref qw,V.ref pt,V.ref qm,V.ref qd])) hto)
  have eto:upd G20 to (.tup ([V.ref qw,V.ref pt,V.ref qm,V.ref qd])) to=some (.tup ([V.ref qw,V.ref pt,V.ref qm,V.ref qd])):=af
  have o9:Own.ok ⟨sJ,xs.take 6++fL.map hsh,sL,fL⟩:=⟨ww1,by show sJ.length≤20;omega,by show 1≤(xs.take 6++fL.map hsh).length;rw [List.length_append,List.length_map];omega,by show (xs.take 6++fL.map hsh).length≤20;rw [List.length_append,List.length_map];omega,fun y hy=>by
    rcases List.mem_append.mp hy with z | z
    ·have:=LA y (List.mem_of_mem_take z);omega
    ·obtain ⟨w,hw,rfl⟩:=List.mem_map.mp z
     have:=LA w (O3 w hw)
     rw [CB];omega,by show sL.length≤20;omega,by show 1≤fL.length;omega,by show fL.length≤20;omega,fun y hy=>by have:=LA y (O3 y hy);omega⟩
  refine (cV rfl (cV rfl ⟨d,to,q,m,2,⟨sJ,xs.take 6++fL.map hsh,sL,fL⟩,us,hs,rfl,(by decide),hm,D,⟨qw,pt,qm,qd,eto,D8,jJ,N6,gR⟩,o9,hH,fun ts wss lss H70 yy d70 E70 P70 O70 a4C b4o=>?_⟩))
  have el:=yy _ _ el (aX D el)
  have hH:=hH.next D yy
  have eta:=(D.soft yy).t _ _ eta
  have fH:=yy _ _ fH (aX D fH)
  have fO:=(D.soft yy).t _ _ fO
  have gQ:=(D.soft yy).t _ _ gQ
  have gJ:=yy _ _ gJ (aX D gJ)
  have gR:=yy _ _ gR (aX D gR)
  have iN:=yy _ _ iN (aX D iN)
  have jJ:=yy _ _ jJ (aX D jJ)
  have jS:=yy _ _ jS (aX D jS)
  have Rn:=fV.ao (D.soft yy) Rn
  have Rg:=fV.ao (D.soft yy) Rg
  have xo:=yy _ _ xo (aX D xo)
  have D8:=yy _ _ D8 (aX D D8)
  have N6:=yy _ _ N6 (aX D N6)
  have F:=F.trans yy
  have D:=d70
  refine (cV rfl (cV rfl (cV rfl (cV rfl (cV rfl (cV rfl ⟨(szl 6),fun qq hq=>?_⟩))))))
  have sq:=new (o:=.tup [V.str x,V.ref tp,V.ref tc,V.ref tn,V.ref tg,V.ref ts]) hq
  refine k (.ref qq) ⟨0,x,ps,an,csn,csg,lss⟩ _ (F.new hq) (D.same sq) ⟨qq,tp,tc,.ref tn,.ref tg,ts,wss,rfl,af,sq _ _ fO,sq _ _ gQ,fV.ao (ay.of sq) Rn,fV.ao (ay.of sq) Rg,sq _ _ E70,gS.ao (ay.of sq) P70⟩ ⟨⟨psl,anl,by show csn.length≤10;omega,gcn,by show csg.length≤10;omega,gcg,by show lss.length≤10;omega,O70,a4C⟩,⟨hx,Tz,anm⟩⟩ rfl
abbrev mW:Stmt:=top 42
theorem gE:aQ ["_law_draw","_law_many","_law_titles","_law_helpers","_law_k"] ["_law_draw","_law_many"] (ak mW):=⟨rfl,rfl,rfl,by decide +kernel,rfl,by decide +kernel,by decide +kernel⟩
theorem Bj {f:Addr} {fd:FuncData} {Y:Cy} {fS:Addr} {n:Nat} (F:dX K "_law_program" "_law_program" mW f fd) (T:Txt K mg Y.z.s) (U:dW K mg Y.z) (J:eW K mg Y fS) (jC:Dn P w K mg base 3 "_law_names" ["_law_draw","_law_many"] sU) (aq:Dn P w K mg base 2 "_law_next" ["_law_draw","_law_size"] dJ) (o6:Dn P w K mg base 14 "_law_helper" ["_law_draw","_law_name","_law_names_here","_law_many","_law_helpers"] pQ):bH P w K mg base dg 15 f fd ["_law_draw","_law_many"] jn:=by
 refine F.ok gE (fun vs H Q E h=>?_) (fun cdv A outer s H vs Q E hr h=>?_)
 ·obtain ⟨d,m,rfl,hd,hm,k⟩:=h
  rfl
 ·obtain ⟨d,m,rfl,hd,hm,k⟩:=h
  have hu:=bh hr
  rw [show av mW=[_,_,_,_] from rfl]
  refine ⟨_,(ai (aT (i:=2) gE.nd rfl (Or.inl rfl) (au jC.ok (hr.mono (by first | decide | omega)) rfl jC.mm jC.kp jC.b .nil aB (aa (pv 0) (aa aj ah))))
   (ai (aT (i:=3) gE.nd rfl (Or.inl rfl) (cP ah))
   (ai (kc PassesOwn.never rfl (fq rfl T.range (aa (aJ cN (cP (aa aj (aa aj (aa aj (aa aj ah))))) (au aq.ok (hr.mono (by first | decide | omega)) rfl aq.mm aq.kp aq.b .nil aB (aa (pv 0) (aa aj ah))) (fun _ _=>rfl)) ah)) (aP (i:=4) gE.nd rfl (Or.inl rfl)) (aA (fh (m6 PySem.F.plainAttrs_list PySem.F.slot_list_append PySem.F.type_list_append iW (pv 3) (aa (au o6.ok (hr.mono (by first | decide | omega)) rfl o6.mm o6.kp o6.b .nil aB (aa (pv 0) (aa (aJ cN (pv 2) (pv 4) (fun _ _=>rfl)) (aa (au jC.ok (hr.mono (by first | decide | omega)) rfl jC.mm jC.kp jC.b .nil aB (aa (pv 0) (aa aj ah))) (aa (au aq.ok (hr.mono (by first | decide | omega)) rfl aq.mm aq.kp aq.b .nil aB (aa (pv 0) (aa (bN gx (pv 1) aj) ah))) (aa (aU gh (by rfl) T.list boot_list (aa (pv 3) ah)) ah)))))) ah)))))
   (aA (aM (pv 3)))))),?_⟩
  refine (cV rfl ⟨d,3,rfl,hd,(by decide),fun tl ts H1 b1 d1 f1 e1 l3 hn nd=>?_⟩)
  refine ⟨(Nat.zero_le _),fun P0 hP=>?_⟩
  have nPd:P0≠d:=d1.ne hP
  have HP:H P0=none:=b1.free hP nPd
  have d2:=d1.same (new (o:=.lst []) hP)
  have e2:=new (o:=.lst []) hP _ _ e1
  have F2:=b1.new (o:=.lst []) hP
  have eP0:upd H1 P0 (.lst []) P0=some (.lst []):=af
  generalize upd H1 P0 (.lst [])=G1 at d2 e2 F2 eP0 ⊢
  refine ⟨(szl 4),fun Lc Ky=>?_⟩
  have nL:Lc≠d:=d2.ne Ky
  have d3:=d2.same (new (o:=.lst [V.int 1,V.int 1,V.int 2,V.int 2]) Ky)
  have e3:=new (o:=.lst [V.int 1,V.int 1,V.int 2,V.int 2]) Ky _ _ e2
  have F3:=F2.new (o:=.lst [V.int 1,V.int 1,V.int 2,V.int 2]) Ky
  have eP3:=new (o:=.lst [V.int 1,V.int 1,V.int 2,V.int 2]) Ky _ _ eP0
  have eL:upd G1 Lc (.lst [V.int 1,V.int 1,V.int 2,V.int 2]) Lc=some (.lst [V.int 1,V.int 1,V.int 2,V.int 2]):=af
  generalize upd G1 Lc (.lst [V.int 1,V.int 1,V.int 2,V.int 2])=G2 at d3 e3 F3 eP3 eL ⊢
  refine (cV rfl ⟨d,4,rfl,d3,(by decide),fun r0 H2 h0 b2 d4=>?_⟩)
  have eL2:=b2 _ _ eL nL
  have e4:=b2 _ _ e3 (aX d3 e3)
  have eP4:=b2 _ _ eP3 nPd
  have F4:=F3.trans b2
  obtain ⟨cn,hcn,c1,c2⟩:∃cn:Nat,([V.int 1,V.int 1,V.int 2,V.int 2]:List V)[r0]?=some (V.int (cn:Int))∧1≤cn∧cn≤2:=by
   match r0,h0 with
   | 0,_=>exact ⟨1,rfl,by decide,by decide⟩
   | 1,_=>exact ⟨1,rfl,by decide,by decide⟩
   | 2,_=>exact ⟨2,rfl,by decide,by decide⟩
   | 3,_=>exact ⟨2,rfl,by decide,by decide⟩
   | m+4,hh=>exact absurd hh (by omega)
  refine (cL (bS.of eL2) (bI hcn) ?_)
  refine ⟨(cn:Int),rfl,by omega,by omega,jR (n:=(cn:Int).toNat) (fun i σ H'=>∃(k4:Option V) (us:List V) (hs:List Hl),σ=[some (.ref d),some (.int (m:Int)),some (.ref tl),some (.ref P0),k4]∧bz d H H'∧Dr H' d∧H' tl=some (.lst (ts.map V.str))∧iQ H' P0 us hs∧hs.length=i∧hs.map (·.nm)=ts.take i) ⟨none,[],[],rfl,F4,d4,e4,⟨eP4,.nil,(fun _ h=>nomatch h),Nat.zero_le _⟩,rfl,rfl⟩ ?_ ?_⟩
  ·rintro i σ H' hi ⟨k4,us,hs,rfl,F,D,et,hH,lh,hnm⟩
   have il:i<ts.length:=by omega
   have nJ:=aD hH.2.1
   refine (cV rfl ⟨.inl ⟨rfl,_,bS.of hH.1⟩,cV rfl (cV rfl (cV rfl (cL (bS.of et) (bI (by rw [Nat.zero_add];exact gC il)) ?_)))⟩)
   refine (cV rfl ⟨d,8,rfl,D,(by decide),fun l2 ys H5 b5 d5 f5 e5 l8 hn8 nd8=>?_⟩)
   have et5:=b5 _ _ et (aX D et)
   have hH5:=hH.next D b5
   refine (cV rfl (cV rfl ⟨_,cV rfl ⟨rfl,d,((m:Int)+1),rfl,d5,by omega,fun r6 H6 h6 b6 d6=>?_⟩⟩))
   have et6:=b6 _ _ et5 (aX d5 et5)
   have QB:=hH5.next d5 b6
   have e6:=b6 _ _ e5 (aX d5 e5)
   refine (cV rfl ⟨P0,cV rfl ⟨.inl (bS.of QB.1),fun lc hlc=>?_⟩⟩)
   have s7:=new (o:=.lst us) hlc
   have hC:iQ (upd H6 lc (.lst us)) lc us hs:=⟨af,(QB.same s7).2.1,QB.2.2.1,QB.2.2.2⟩
   refine ⟨d,l2,lc,ts[i],r6,ys,us,hs,rfl,d6.same s7,hn _ (List.getElem_mem il),s7 _ _ e6,l8,hn8,nd8,by omega,hC,fun v h H8 b8 d8 R8 g8 nm8=>?_⟩
   have OQ:=(QB.same s7).next (d6.same s7) b8
   have et8:=b8 _ _ (s7 _ _ et6) (aX (d6.same s7) (s7 _ _ et6))
   refine ⟨P0,us,cV rfl ⟨rfl,OQ.1,line _ (by omega),?_⟩⟩
   have bP:bz P0 H8 (upd H8 P0 (.lst (us++[v]))):=bz.upd
   have kP:ay H8 (upd H8 P0 (.lst (us++[v]))):=ay.soft bP OQ.1 vU
   have F8:=(((F.trans b5).trans b6).trans (bz.of s7)).trans b8
   refine ⟨_,us++[v],hs++[h],rfl,fun b' o' e' n'=>?_,let ⟨x,y,e⟩:=d8;⟨x,y,bP _ _ e nPd.symm⟩,bP _ _ et8 (fun z=>?_),⟨af,bx (L2.Paired.cQ OQ.2.1 fun _ _ z=>Ef.ao kP z) (Ef.ao kP R8),fun q hq=>?_,by rw [List.length_append,lh];show i+1≤10;omega⟩,by rw [List.length_append,lh];rfl,?_⟩
   ·rw [aY (aE e' HP)];exact F8 b' o' e' n'
   ·rw [z] at et8
    have z2:=et8.symm.trans OQ.1
    have z3:ts.map V.str=us:=HO.lst.inj (Option.some.inj z2)
    have hp:=OQ.2.1
    rw [←z3] at hp
    cases ts with
    | nil=>exact absurd il (by simp)
    | cons a b=>cases hp with | cons x y=>obtain ⟨_,_,_,_,_,_,_,e,_⟩:=x;cases e
   ·rcases List.mem_append.mp hq with z | z
    ·exact OQ.2.2.1 q z
    ·rw [List.mem_singleton.mp z];exact g8
   ·rw [List.map_append,hnm,take_snoc (List.getElem?_eq_getElem il)]
    show _++[h.nm]=_
    rw [nm8]
  rintro σ H' ⟨k4,us,hs,rfl,F,D,et,hH,lh,hnm⟩
  refine (cV rfl (k P0 us hs H' F D HP hH (by rw [lh];omega) ?_))
  rw [hnm]
  exact nd.sublist (List.take_sublist _ _)
abbrev eg:Stmt:=top 53
theorem dS:aQ ["_law_step_here","_law_told","_law_kinds","_law_words","_law_found"] ["_law_step_here","_law_told"] (ak eg):=⟨rfl,rfl,rfl,by decide +kernel,rfl,by decide +kernel,by decide +kernel⟩
abbrev sF (i:Nat):Stmt:=(av eg).getD i (.Pass ⟨0,0,0,0⟩)
theorem fl5 {f:Addr} {Y:Cy} {fS:Addr} {n:Nat} (T:Txt K mg Y.z.s) (U:dW K mg Y.z) (J:eW K mg Y fS) (W:Js K Y) (bD:Dn P w K mg base (3*n+9) "_law_block_fields" ["_law_step_here","_law_told"] (gD Y (n+1))) {cdv:Value} {A:Around} {outer:List Env} {s:Shared} {H0:Hp} {E:XK} (hr:dD (3*n+9) (A.deeper (envOfC "_law_fields" (ak eg) s.heap.objs.size f cdv))) :
  ∃t,PS (gP dg P w K mg base ["_law_step_here","_law_told","_law_kinds","_law_words","_law_found"] "_law_fields" (ak eg) f cdv A outer s H0 E).qc (sF 5) t∧∀(D:Ends) (p r:Addr) (s:cO) (x2 x3:Option V) (H:Hp),cj Y H s (.ref p)→fE H s (.ref r)→s.ok→(∀H',aH H H'→D.nx [some (.ref p),some (.ref r),x2,x3,none] H')→(∀H',aH H H'→D.rt (.bl true) H')→t D [some (.ref p),some (.ref r),x2,x3,none] H:=by
 have hu:=bh hr
 refine ⟨_,(cH (PW.pt (iJ (aN iV (aJ aI (pv 1) aj (fun _ _=>rfl)) (aS (oJ (xs:=["let","divide","fetch"]) rfl)) (by rfl)) (gF (aN Ck (aG (pv 0) rfl) (aJ aI (pv 1) aj (fun _ _=>rfl)) (aR _))))) (aA (aM jy)) bw),fun D p r s x2 x3 H hs hP ho nx k=>?_⟩
 obtain ⟨r0,fL,e0,lS⟩:=fJ ho hP
 cases e0
 by_cases hk:kd s=0
 ·cases s with
  | jD at_ c t e=>exact absurd hk (by show ¬(7=0);decide)
  | rep at_ c hs f b=>exact absurd hk (by show ¬(8=0);decide)
  | flat kk at_ as =>
  have hk:kk=0:=hk
  subst hk
  unfold cj at hs
  unfold fE at hP
  obtain ⟨q,dx,us,e,sh,ep,pp⟩:=hs
  cases e
  obtain ⟨r',us',e',er,fU⟩:=hP
  cases e'
  obtain ⟨x0,a1,m1,rfl⟩:=sh
  cases pp with
  | cons h0 pp =>
  cases fU with
  | cons g0 fU =>
   cases pp with
   | cons h1 pp =>
   cases fU with
   | cons g1 fU =>
   cases pp
   cases fU
   have h0:_=V.str x0:=h0
   subst h0
   have g0:_=V.str x0:=g0
   subst g0
   obtain ⟨r1,rfl,S1⟩:=h1
   obtain ⟨d1,uF,es1,OX,_⟩:=id S1
   obtain ⟨v1,rfl,D1⟩:=g1
   refine (cV rfl (cI (aW.of er) rfl ⟨(szl 3),fun q1 hq1=>?_⟩))
   have qY:=new (o:=.tup (([("let":Str),"divide","fetch"]:List Str).map V.str)) hq1
   have gB:upd H q1 (.tup (([("let":Str),"divide","fetch"]:List Str).map V.str)) q1=some (.tup (([("let":Str),"divide","fetch"]:List Str).map V.str)):=af
   have sA:=qY
   clear qY
   generalize upd H q1 (.tup (([("let":Str),"divide","fetch"]:List Str).map V.str))=G1 at sA gB ⊢
   refine ⟨q1,cV rfl ⟨.inr (aW.of gB),rfl,rfl,cV rfl (ifT (by decide +kernel) ?_)⟩⟩
   exact (cV rfl (cF (sA _ _ ep) (J.cl 0 (by decide)) (J.na 0 _ (by decide) (by decide +kernel)) (cu (by decide +kernel) (dG)) (cV rfl (cI (aW.of (sA _ _ er)) rfl ⟨rfl,cV rfl (jz rfl (nx _ sA))⟩))))
 by_cases hk1:kd s=1
 ·have hk:=hk1
  cases s with
  | jD at_ c t e=>exact absurd hk (by show ¬(7=1);decide)
  | rep at_ c hs f b=>exact absurd hk (by show ¬(8=1);decide)
  | flat kk at_ as =>
  have hk:kk=1:=hk
  subst hk
  unfold cj at hs
  unfold fE at hP
  obtain ⟨q,dx,us,e,sh,ep,pp⟩:=hs
  cases e
  obtain ⟨r',us',e',er,fU⟩:=hP
  cases e'
  obtain ⟨x0,x1,a2,m2,a3,m3,rfl⟩:=sh
  cases pp with
  | cons h0 pp =>
  cases fU with
  | cons g0 fU =>
   cases pp with
   | cons h1 pp =>
   cases fU with
   | cons g1 fU =>
    cases pp with
    | cons h2 pp =>
    cases fU with
    | cons g2 fU =>
     cases pp with
     | cons h3 pp =>
     cases fU with
     | cons g3 fU =>
     cases pp
     cases fU
     have h0:_=V.str x0:=h0
     subst h0
     have g0:_=V.str x0:=g0
     subst g0
     have h1:_=V.str x1:=h1
     subst h1
     have g1:_=V.str x1:=g1
     subst g1
     obtain ⟨r2,rfl,S2⟩:=h2
     obtain ⟨d2,rS,yJ,KS,_⟩:=id S2
     obtain ⟨v2,rfl,D2⟩:=g2
     obtain ⟨r3,rfl,S3⟩:=h3
     obtain ⟨d3,Ms,Q2,Tt3,_⟩:=id S3
     obtain ⟨v3,rfl,D3⟩:=g3
     refine (cV rfl (cI (aW.of er) rfl ⟨(szl 3),fun q1 hq1=>?_⟩))
     have qY:=new (o:=.tup (([("let":Str),"divide","fetch"]:List Str).map V.str)) hq1
     have gB:upd H q1 (.tup (([("let":Str),"divide","fetch"]:List Str).map V.str)) q1=some (.tup (([("let":Str),"divide","fetch"]:List Str).map V.str)):=af
     have sA:=qY
     clear qY
     generalize upd H q1 (.tup (([("let":Str),"divide","fetch"]:List Str).map V.str))=G1 at sA gB ⊢
     refine ⟨q1,cV rfl ⟨.inr (aW.of gB),rfl,rfl,cV rfl (ifT (by decide +kernel) ?_)⟩⟩
     exact (cV rfl (cF (sA _ _ ep) (J.cl 1 (by decide)) (J.na 1 _ (by decide) (by decide +kernel)) (cu (by decide +kernel) (cu (by decide +kernel) (cu (by decide +kernel) (dG)))) (cV rfl (cI (aW.of (sA _ _ er)) rfl ⟨rfl,cV rfl (jz rfl (nx _ sA))⟩))))
 by_cases hk2:kd s=2
 ·have hk:=hk2
  cases s with
  | jD at_ c t e=>exact absurd hk (by show ¬(7=2);decide)
  | rep at_ c hs f b=>exact absurd hk (by show ¬(8=2);decide)
  | flat kk at_ as =>
  have hk:kk=2:=hk
  subst hk
  unfold cj at hs
  unfold fE at hP
  obtain ⟨q,dx,us,e,sh,ep,pp⟩:=hs
  cases e
  obtain ⟨r',us',e',er,fU⟩:=hP
  cases e'
  obtain ⟨x0,x1,a2,m2,rfl⟩:=sh
  cases pp with
  | cons h0 pp =>
  cases fU with
  | cons g0 fU =>
   cases pp with
   | cons h1 pp =>
   cases fU with
   | cons g1 fU =>
    cases pp with
    | cons h2 pp =>
    cases fU with
    | cons g2 fU =>
    cases pp
    cases fU
    have h0:_=V.str x0:=h0
    subst h0
    have g0:_=V.str x0:=g0
    subst g0
    have h1:_=V.str x1:=h1
    subst h1
    have g1:_=V.str x1:=g1
    subst g1
    obtain ⟨r2,rfl,S2⟩:=h2
    obtain ⟨d2,rS,yJ,KS,_⟩:=id S2
    obtain ⟨v2,rfl,D2⟩:=g2
    refine (cV rfl (cI (aW.of er) rfl ⟨(szl 3),fun q1 hq1=>?_⟩))
    have qY:=new (o:=.tup (([("let":Str),"divide","fetch"]:List Str).map V.str)) hq1
    have gB:upd H q1 (.tup (([("let":Str),"divide","fetch"]:List Str).map V.str)) q1=some (.tup (([("let":Str),"divide","fetch"]:List Str).map V.str)):=af
    have sA:=qY
    clear qY
    generalize upd H q1 (.tup (([("let":Str),"divide","fetch"]:List Str).map V.str))=G1 at sA gB ⊢
    refine ⟨q1,cV rfl ⟨.inr (aW.of gB),rfl,rfl,cV rfl (ifT (by decide +kernel) ?_)⟩⟩
    exact (cV rfl (cF (sA _ _ ep) (J.cl 2 (by decide)) (J.na 2 _ (by decide) (by decide +kernel)) (cu (by decide +kernel) (cu (by decide +kernel) (dG))) (cV rfl (cI (aW.of (sA _ _ er)) rfl ⟨rfl,cV rfl (jz rfl (nx _ sA))⟩))))
 refine (cV rfl (cI (aW.of lS) (yK _ _) ⟨(szl 3),fun q1 hq1=>?_⟩))
 refine ⟨q1,cV rfl ⟨.inr (aW.of af),rfl,rfl,cV rfl (ifF ?_ (nx _ (new hq1)))⟩⟩
 show oS (V.str (EE (kd s))) (([("let":Str),"divide","fetch"]:List Str).map V.str)=false
 rw [gI]
 exact decide_eq_false (O2 (jQ hs) hk hk1 hk2)
theorem fl6 {f:Addr} {Y:Cy} {fS:Addr} {n:Nat} (T:Txt K mg Y.z.s) (U:dW K mg Y.z) (J:eW K mg Y fS) (W:Js K Y) (bD:Dn P w K mg base (3*n+9) "_law_block_fields" ["_law_step_here","_law_told"] (gD Y (n+1))) {cdv:Value} {A:Around} {outer:List Env} {s:Shared} {H0:Hp} {E:XK} (hr:dD (3*n+9) (A.deeper (envOfC "_law_fields" (ak eg) s.heap.objs.size f cdv))) :
  ∃t,PS (gP dg P w K mg base ["_law_step_here","_law_told","_law_kinds","_law_words","_law_found"] "_law_fields" (ak eg) f cdv A outer s H0 E).qc (sF 6) t∧∀(D:Ends) (p r:Addr) (s:cO) (x2 x3:Option V) (H:Hp),cj Y H s (.ref p)→fE H s (.ref r)→s.ok→(¬kd s=0→D.nx [some (.ref p),some (.ref r),x2,x3,none] H)→(∀H',aH H H'→D.rt (.bl true) H')→t D [some (.ref p),some (.ref r),x2,x3,none] H:=by
 have hu:=bh hr
 refine ⟨_,(cH (aN cS (aJ aI (pv 1) aj (fun _ _=>rfl)) bf (aR _)) (aA (aM (eF (lI 8 (uL hr)) (aS (aa (aG (aG (pv 0) rfl) rfl) (aa (aG (aG (pv 0) rfl) rfl) ah))) (aJ aI (pv 1) aj (fun _ _=>rfl)) (aR _)))) bw),fun D p r s x2 x3 H hs hP ho nx k=>?_⟩
 obtain ⟨r0,fL,e0,lS⟩:=fJ ho hP
 cases e0
 by_cases hk:kd s=0
 rotate_left
 ·exact (cV rfl (cI (aW.of lS) (yK _ _) ⟨rfl,cV rfl (bC (bE (pO (jQ hs) (k:=0) (by decide) hk)) (nx hk))⟩))
 cases s with
 | jD at_ c t e=>exact absurd hk (by show ¬(7=0);decide)
 | rep at_ c hs f b=>exact absurd hk (by show ¬(8=0);decide)
 | flat kk at_ as =>
 have hk:kk=0:=hk
 subst hk
 unfold cj at hs
 unfold fE at hP
 obtain ⟨q,dx,us,e,sh,ep,pp⟩:=hs
 cases e
 obtain ⟨r',us',e',er,fU⟩:=hP
 cases e'
 obtain ⟨x0,a1,m1,rfl⟩:=sh
 cases pp with
 | cons h0 pp =>
 cases fU with
 | cons g0 fU =>
  cases pp with
  | cons h1 pp =>
  cases fU with
  | cons g1 fU =>
  cases pp
  cases fU
  have h0:_=V.str x0:=h0
  subst h0
  have g0:_=V.str x0:=g0
  subst g0
  obtain ⟨r1,rfl,S1⟩:=h1
  obtain ⟨d1,uF,es1,OX,_⟩:=id S1
  obtain ⟨v1,rfl,D1⟩:=g1
  refine (cV rfl (cI (aW.of er) rfl ⟨rfl,cV rfl (cW rfl ?_)⟩))
  refine (cV rfl (cF ep (J.cl 0 (by decide)) (J.na 0 _ (by decide) (by decide +kernel)) dG (cF es1 T.cl T.nT (dR _ _) ?_)))
  refine (cV rfl (cF ep (J.cl 0 (by decide)) (J.na 0 _ (by decide) (by decide +kernel)) dG (cF es1 T.cl T.nN (dI _ _) ⟨(szl 2),fun q1 hq1=>?_⟩)))
  have qY:=new (o:=.tup [V.ref uF,.int m1]) hq1
  have gB:upd H q1 (.tup [V.ref uF,.int m1]) q1=some (.tup [V.ref uF,.int m1]):=af
  have sA:=qY
  clear qY
  generalize upd H q1 (.tup [V.ref uF,.int m1])=G1 at sA gB ⊢
  exact (cV rfl (cI (aW.of (sA _ _ er)) rfl (eT (bT (fu (⟨uF,gB,OX.same sA⟩:dN G1 q1 a1 m1) (D1.same sA)) (by decide)) (k _ sA))))
theorem fl7 {f:Addr} {Y:Cy} {fS:Addr} {n:Nat} (T:Txt K mg Y.z.s) (U:dW K mg Y.z) (J:eW K mg Y fS) (W:Js K Y) (bD:Dn P w K mg base (3*n+9) "_law_block_fields" ["_law_step_here","_law_told"] (gD Y (n+1))) {cdv:Value} {A:Around} {outer:List Env} {s:Shared} {H0:Hp} {E:XK} (hr:dD (3*n+9) (A.deeper (envOfC "_law_fields" (ak eg) s.heap.objs.size f cdv))) :
  ∃t,PS (gP dg P w K mg base ["_law_step_here","_law_told","_law_kinds","_law_words","_law_found"] "_law_fields" (ak eg) f cdv A outer s H0 E).qc (sF 7) t∧∀(D:Ends) (p r:Addr) (s:cO) (x2 x3:Option V) (H:Hp),cj Y H s (.ref p)→fE H s (.ref r)→s.ok→(¬kd s=1→D.nx [some (.ref p),some (.ref r),x2,x3,none] H)→(∀H',aH H H'→D.rt (.bl true) H')→t D [some (.ref p),some (.ref r),x2,x3,none] H:=by
 have hu:=bh hr
 refine ⟨_,(cH (aN cS (aJ aI (pv 1) aj (fun _ _=>rfl)) bf (aR _)) (ai (aT (i:=4) dS.nd rfl (Or.inl rfl) (aS (aa (aS (aa (aG (aG (pv 0) rfl) rfl) (aa (aG (aG (pv 0) rfl) rfl) ah))) (aa (aS (aa (aG (aG (pv 0) rfl) rfl) (aa (aG (aG (pv 0) rfl) rfl) ah))) ah))))
   (aA (aM (lH (eF cS (aG (pv 0) rfl) (aJ aI (pv 1) aj (fun _ _=>rfl)) (aR _)) (lG (eF (lI 8 (uL hr)) (pv 4) (eu kN (pv 1) (dO aj) iy) (aR _))))))) bw),fun D p r s x2 x3 H hs hP ho nx k=>?_⟩
 obtain ⟨r0,fL,e0,lS⟩:=fJ ho hP
 cases e0
 by_cases hk:kd s=1
 rotate_left
 ·exact (cV rfl (cI (aW.of lS) (yK _ _) ⟨rfl,cV rfl (bC (bE (pO (jQ hs) (k:=1) (by decide) hk)) (nx hk))⟩))
 cases s with
 | jD at_ c t e=>exact absurd hk (by show ¬(7=1);decide)
 | rep at_ c hs f b=>exact absurd hk (by show ¬(8=1);decide)
 | flat kk at_ as =>
 have hk:kk=1:=hk
 subst hk
 unfold cj at hs
 unfold fE at hP
 obtain ⟨q,dx,us,e,sh,ep,pp⟩:=hs
 cases e
 obtain ⟨r',us',e',er,fU⟩:=hP
 cases e'
 obtain ⟨x0,x1,a2,m2,a3,m3,rfl⟩:=sh
 cases pp with
 | cons h0 pp =>
 cases fU with
 | cons g0 fU =>
  cases pp with
  | cons h1 pp =>
  cases fU with
  | cons g1 fU =>
   cases pp with
   | cons h2 pp =>
   cases fU with
   | cons g2 fU =>
    cases pp with
    | cons h3 pp =>
    cases fU with
    | cons g3 fU =>
    cases pp
    cases fU
    have h0:_=V.str x0:=h0
    subst h0
    have g0:_=V.str x0:=g0
    subst g0
    have h1:_=V.str x1:=h1
    subst h1
    have g1:_=V.str x1:=g1
    subst g1
    obtain ⟨r2,rfl,S2⟩:=h2
    obtain ⟨d2,rS,yJ,KS,_⟩:=id S2
    obtain ⟨v2,rfl,D2⟩:=g2
    obtain ⟨r3,rfl,S3⟩:=h3
    obtain ⟨d3,Ms,Q2,Tt3,_⟩:=id S3
    obtain ⟨v3,rfl,D3⟩:=g3
    refine (cV rfl (cI (aW.of er) rfl ⟨rfl,cV rfl (cW rfl ?_)⟩))
    refine (cV rfl (cF ep (J.cl 1 (by decide)) (J.na 1 _ (by decide) (by decide +kernel)) (cu (by decide +kernel) (dG)) (cF yJ T.cl T.nT (dR _ _) ?_)))
    refine (cV rfl (cF ep (J.cl 1 (by decide)) (J.na 1 _ (by decide) (by decide +kernel)) (cu (by decide +kernel) (dG)) (cF yJ T.cl T.nN (dI _ _) ⟨(szl 2),fun q1 hq1=>?_⟩)))
    have qY:=new (o:=.tup [V.ref rS,.int m2]) hq1
    have gB:upd H q1 (.tup [V.ref rS,.int m2]) q1=some (.tup [V.ref rS,.int m2]):=af
    have sA:=qY
    clear qY
    generalize upd H q1 (.tup [V.ref rS,.int m2])=G1 at sA gB ⊢
    refine (cV rfl (cF (sA _ _ ep) (J.cl 1 (by decide)) (J.na 1 _ (by decide) (by decide +kernel)) dG (cF (sA _ _ Q2) T.cl T.nT (dR _ _) ?_)))
    refine (cV rfl (cF (sA _ _ ep) (J.cl 1 (by decide)) (J.na 1 _ (by decide) (by decide +kernel)) dG (cF (sA _ _ Q2) T.cl T.nN (dI _ _) ⟨(szl 2),fun q2 hq2=>?_⟩)))
    have Dh:=new (o:=.tup [V.ref Ms,.int m3]) hq2
    have mz:upd G1 q2 (.tup [V.ref Ms,.int m3]) q2=some (.tup [V.ref Ms,.int m3]):=af
    have gB:=Dh _ _ gB
    have sA:=sA.trans Dh
    clear Dh
    generalize upd G1 q2 (.tup [V.ref Ms,.int m3])=G2 at sA gB mz ⊢
    refine ⟨(szl 2),fun q3 yG=>?_⟩
    have Dg:=new (o:=.tup [V.ref q1,.ref q2]) yG
    have yE:upd G2 q3 (.tup [V.ref q1,.ref q2]) q3=some (.tup [V.ref q1,.ref q2]):=af
    have gB:=Dg _ _ gB
    have mz:=Dg _ _ mz
    have sA:=sA.trans Dg
    clear Dg
    generalize upd G2 q3 (.tup [V.ref q1,.ref q2])=G3 at sA gB mz yE ⊢
    refine (cV rfl (cF (sA _ _ ep) (J.cl 1 (by decide)) (J.na 1 _ (by decide) (by decide +kernel)) (cu (by decide +kernel) (cu (by decide +kernel) (dG))) (cV rfl (cI (aW.of (sA _ _ er)) rfl ⟨rfl,cV rfl (cW rfl ?_)⟩))))
    refine (cV rfl ?_)
    refine (cV rfl (cV rfl ⟨r,cV rfl ⟨aW.of (sA _ _ er),(fun z=>absurd z.1 (show ¬(4:Nat)=0 by decide)),fun q4 Dv=>?_⟩⟩))
    rw [show kD _ (some 4) none=[V.ref v2,V.ref v3] from rfl]
    have xT:=new (o:=.tup [V.ref v2,V.ref v3]) Dv
    have LY:upd G3 q4 (.tup [V.ref v2,V.ref v3]) q4=some (.tup [V.ref v2,V.ref v3]):=af
    have gB:=xT _ _ gB
    have mz:=xT _ _ mz
    have yE:=xT _ _ yE
    have sA:=sA.trans xT
    clear xT
    generalize upd G3 q4 (.tup [V.ref v2,V.ref v3])=G4 at sA gB mz yE LY ⊢
    exact eT (cA (n:=8) yE LY (.cons (bT (fu (⟨rS,gB,KS.same sA⟩:dN G4 q1 a2 m2) (D2.same sA)) (by decide)) (.cons (bT (fu (⟨Ms,mz,Tt3.same sA⟩:dN G4 q2 a3 m3) (D3.same sA)) (by decide)) .nil))) (k _ sA)
theorem fl8 {f:Addr} {Y:Cy} {fS:Addr} {n:Nat} (T:Txt K mg Y.z.s) (U:dW K mg Y.z) (J:eW K mg Y fS) (W:Js K Y) (bD:Dn P w K mg base (3*n+9) "_law_block_fields" ["_law_step_here","_law_told"] (gD Y (n+1))) {cdv:Value} {A:Around} {outer:List Env} {s:Shared} {H0:Hp} {E:XK} (hr:dD (3*n+9) (A.deeper (envOfC "_law_fields" (ak eg) s.heap.objs.size f cdv))) :
  ∃t,PS (gP dg P w K mg base ["_law_step_here","_law_told","_law_kinds","_law_words","_law_found"] "_law_fields" (ak eg) f cdv A outer s H0 E).qc (sF 8) t∧∀(D:Ends) (p r:Addr) (s:cO) (x2 x3:Option V) (H:Hp),cj Y H s (.ref p)→fE H s (.ref r)→s.ok→(¬kd s=2→D.nx [some (.ref p),some (.ref r),x2,x3,none] H)→(∀H',aH H H'→D.rt (.bl true) H')→t D [some (.ref p),some (.ref r),x2,x3,none] H:=by
 have hu:=bh hr
 refine ⟨_,(cH (aN cS (aJ aI (pv 1) aj (fun _ _=>rfl)) bf (aR _)) (aA (aM (lH (eF cS (aG (pv 0) rfl) (aJ aI (pv 1) aj (fun _ _=>rfl)) (aR _)) (lG (eF (lI 8 (uL hr)) (aS (aa (aG (aG (pv 0) rfl) rfl) (aa (aG (aG (pv 0) rfl) rfl) ah))) (aJ aI (pv 1) aj (fun _ _=>rfl)) (aR _)))))) bw),fun D p r s x2 x3 H hs hP ho nx k=>?_⟩
 obtain ⟨r0,fL,e0,lS⟩:=fJ ho hP
 cases e0
 by_cases hk:kd s=2
 rotate_left
 ·exact (cV rfl (cI (aW.of lS) (yK _ _) ⟨rfl,cV rfl (bC (bE (pO (jQ hs) (k:=2) (by decide) hk)) (nx hk))⟩))
 cases s with
 | jD at_ c t e=>exact absurd hk (by show ¬(7=2);decide)
 | rep at_ c hs f b=>exact absurd hk (by show ¬(8=2);decide)
 | flat kk at_ as =>
 have hk:kk=2:=hk
 subst hk
 unfold cj at hs
 unfold fE at hP
 obtain ⟨q,dx,us,e,sh,ep,pp⟩:=hs
 cases e
 obtain ⟨r',us',e',er,fU⟩:=hP
 cases e'
 obtain ⟨x0,x1,a2,m2,rfl⟩:=sh
 cases pp with
 | cons h0 pp =>
 cases fU with
 | cons g0 fU =>
  cases pp with
  | cons h1 pp =>
  cases fU with
  | cons g1 fU =>
   cases pp with
   | cons h2 pp =>
   cases fU with
   | cons g2 fU =>
   cases pp
   cases fU
   have h0:_=V.str x0:=h0
   subst h0
   have g0:_=V.str x0:=g0
   subst g0
   have h1:_=V.str x1:=h1
   subst h1
   have g1:_=V.str x1:=g1
   subst g1
   obtain ⟨r2,rfl,S2⟩:=h2
   obtain ⟨d2,rS,yJ,KS,_⟩:=id S2
   obtain ⟨v2,rfl,D2⟩:=g2
   refine (cV rfl (cI (aW.of er) rfl ⟨rfl,cV rfl (cW rfl ?_)⟩))
   refine (cV rfl (cF ep (J.cl 2 (by decide)) (J.na 2 _ (by decide) (by decide +kernel)) (cu (by decide +kernel) (dG)) (cV rfl (cI (aW.of er) rfl ⟨rfl,cV rfl (cW rfl ?_)⟩))))
   refine (cV rfl (cF ep (J.cl 2 (by decide)) (J.na 2 _ (by decide) (by decide +kernel)) dG (cF yJ T.cl T.nT (dR _ _) ?_)))
   refine (cV rfl (cF ep (J.cl 2 (by decide)) (J.na 2 _ (by decide) (by decide +kernel)) dG (cF yJ T.cl T.nN (dI _ _) ⟨(szl 2),fun q1 hq1=>?_⟩)))
   have qY:=new (o:=.tup [V.ref rS,.int m2]) hq1
   have gB:upd H q1 (.tup [V.ref rS,.int m2]) q1=some (.tup [V.ref rS,.int m2]):=af
   have sA:=qY
   clear qY
   generalize upd H q1 (.tup [V.ref rS,.int m2])=G1 at sA gB ⊢
   exact (cV rfl (cI (aW.of (sA _ _ er)) rfl (eT (bT (fu (⟨rS,gB,KS.same sA⟩:dN G1 q1 a2 m2) (D2.same sA)) (by decide)) (k _ sA))))
theorem fl9 {f:Addr} {Y:Cy} {fS:Addr} {n:Nat} (T:Txt K mg Y.z.s) (U:dW K mg Y.z) (J:eW K mg Y fS) (W:Js K Y) (bD:Dn P w K mg base (3*n+9) "_law_block_fields" ["_law_step_here","_law_told"] (gD Y (n+1))) {cdv:Value} {A:Around} {outer:List Env} {s:Shared} {H0:Hp} {E:XK} (hr:dD (3*n+9) (A.deeper (envOfC "_law_fields" (ak eg) s.heap.objs.size f cdv))) :
  ∃t,PS (gP dg P w K mg base ["_law_step_here","_law_told","_law_kinds","_law_words","_law_found"] "_law_fields" (ak eg) f cdv A outer s H0 E).qc (sF 9) t∧∀(D:Ends) (p r:Addr) (s:cO) (x2 x3:Option V) (H:Hp),cj Y H s (.ref p)→fE H s (.ref r)→s.ok→(¬kd s=3→D.nx [some (.ref p),some (.ref r),x2,x3,none] H)→(∀H',aH H H'→D.rt (.bl true) H')→t D [some (.ref p),some (.ref r),x2,x3,none] H:=by
 have hu:=bh hr
 refine ⟨_,(cH (aN cS (aJ aI (pv 1) aj (fun _ _=>rfl)) bf (aR _)) (ai (aT (i:=4) dS.nd rfl (Or.inl rfl) (aS (aa (aS (aa (aG (aG (pv 0) rfl) rfl) (aa (aG (aG (pv 0) rfl) rfl) ah))) (aa (aS (aa (aG (aG (pv 0) rfl) rfl) (aa (aG (aG (pv 0) rfl) rfl) ah))) ah))))
   (aA (aM (lH (eF cS (aG (pv 0) rfl) (aJ aI (pv 1) aj (fun _ _=>rfl)) (aR _)) (lG (eF (lI 8 (uL hr)) (pv 4) (eu kN (pv 1) (dO aj) iy) (aR _))))))) bw),fun D p r s x2 x3 H hs hP ho nx k=>?_⟩
 obtain ⟨r0,fL,e0,lS⟩:=fJ ho hP
 cases e0
 by_cases hk:kd s=3
 rotate_left
 ·exact (cV rfl (cI (aW.of lS) (yK _ _) ⟨rfl,cV rfl (bC (bE (pO (jQ hs) (k:=3) (by decide) hk)) (nx hk))⟩))
 cases s with
 | jD at_ c t e=>exact absurd hk (by show ¬(7=3);decide)
 | rep at_ c hs f b=>exact absurd hk (by show ¬(8=3);decide)
 | flat kk at_ as =>
 have hk:kk=3:=hk
 subst hk
 unfold cj at hs
 unfold fE at hP
 obtain ⟨q,dx,us,e,sh,ep,pp⟩:=hs
 cases e
 obtain ⟨r',us',e',er,fU⟩:=hP
 cases e'
 obtain ⟨x0,a1,m1,a2,m2,rfl⟩:=sh
 cases pp with
 | cons h0 pp =>
 cases fU with
 | cons g0 fU =>
  cases pp with
  | cons h1 pp =>
  cases fU with
  | cons g1 fU =>
   cases pp with
   | cons h2 pp =>
   cases fU with
   | cons g2 fU =>
   cases pp
   cases fU
   have h0:_=V.str x0:=h0
   subst h0
   have g0:_=V.str x0:=g0
   subst g0
   obtain ⟨r1,rfl,S1⟩:=h1
   obtain ⟨d1,uF,es1,OX,_⟩:=id S1
   obtain ⟨v1,rfl,D1⟩:=g1
   obtain ⟨r2,rfl,S2⟩:=h2
   obtain ⟨d2,rS,yJ,KS,_⟩:=id S2
   obtain ⟨v2,rfl,D2⟩:=g2
   refine (cV rfl (cI (aW.of er) rfl ⟨rfl,cV rfl (cW rfl ?_)⟩))
   refine (cV rfl (cF ep (J.cl 3 (by decide)) (J.na 3 _ (by decide) (by decide +kernel)) (cu (by decide +kernel) (dG)) (cF es1 T.cl T.nT (dR _ _) ?_)))
   refine (cV rfl (cF ep (J.cl 3 (by decide)) (J.na 3 _ (by decide) (by decide +kernel)) (cu (by decide +kernel) (dG)) (cF es1 T.cl T.nN (dI _ _) ⟨(szl 2),fun q1 hq1=>?_⟩)))
   have qY:=new (o:=.tup [V.ref uF,.int m1]) hq1
   have gB:upd H q1 (.tup [V.ref uF,.int m1]) q1=some (.tup [V.ref uF,.int m1]):=af
   have sA:=qY
   clear qY
   generalize upd H q1 (.tup [V.ref uF,.int m1])=G1 at sA gB ⊢
   refine (cV rfl (cF (sA _ _ ep) (J.cl 3 (by decide)) (J.na 3 _ (by decide) (by decide +kernel)) dG (cF (sA _ _ yJ) T.cl T.nT (dR _ _) ?_)))
   refine (cV rfl (cF (sA _ _ ep) (J.cl 3 (by decide)) (J.na 3 _ (by decide) (by decide +kernel)) dG (cF (sA _ _ yJ) T.cl T.nN (dI _ _) ⟨(szl 2),fun q2 hq2=>?_⟩)))
   have Dh:=new (o:=.tup [V.ref rS,.int m2]) hq2
   have mz:upd G1 q2 (.tup [V.ref rS,.int m2]) q2=some (.tup [V.ref rS,.int m2]):=af
   have gB:=Dh _ _ gB
   have sA:=sA.trans Dh
   clear Dh
   generalize upd G1 q2 (.tup [V.ref rS,.int m2])=G2 at sA gB mz ⊢
   refine ⟨(szl 2),fun q3 yG=>?_⟩
   have Dg:=new (o:=.tup [V.ref q1,.ref q2]) yG
   have yE:upd G2 q3 (.tup [V.ref q1,.ref q2]) q3=some (.tup [V.ref q1,.ref q2]):=af
   have gB:=Dg _ _ gB
   have mz:=Dg _ _ mz
   have sA:=sA.trans Dg
   clear Dg
   generalize upd G2 q3 (.tup [V.ref q1,.ref q2])=G3 at sA gB mz yE ⊢
   refine (cV rfl (cF (sA _ _ ep) (J.cl 3 (by decide)) (J.na 3 _ (by decide) (by decide +kernel)) (cu (by decide +kernel) (cu (by decide +kernel) (dG))) (cV rfl (cI (aW.of (sA _ _ er)) rfl ⟨rfl,cV rfl (cW rfl ?_)⟩))))
   refine (cV rfl ?_)
   refine (cV rfl (cV rfl ⟨r,cV rfl ⟨aW.of (sA _ _ er),(fun z=>absurd z.1 (show ¬(3:Nat)=0 by decide)),fun q4 Dv=>?_⟩⟩))
   rw [show kD _ (some 3) none=[V.ref v1,V.ref v2] from rfl]
   have xT:=new (o:=.tup [V.ref v1,V.ref v2]) Dv
   have LY:upd G3 q4 (.tup [V.ref v1,V.ref v2]) q4=some (.tup [V.ref v1,V.ref v2]):=af
   have gB:=xT _ _ gB
   have mz:=xT _ _ mz
   have yE:=xT _ _ yE
   have sA:=sA.trans xT
   clear xT
   generalize upd G3 q4 (.tup [V.ref v1,V.ref v2])=G4 at sA gB mz yE LY ⊢
   exact eT (cA (n:=8) yE LY (.cons (bT (fu (⟨uF,gB,OX.same sA⟩:dN G4 q1 a1 m1) (D1.same sA)) (by decide)) (.cons (bT (fu (⟨rS,mz,KS.same sA⟩:dN G4 q2 a2 m2) (D2.same sA)) (by decide)) .nil))) (k _ sA)
theorem a4b {f:Addr} {Y:Cy} {fS:Addr} {n:Nat} (T:Txt K mg Y.z.s) (U:dW K mg Y.z) (J:eW K mg Y fS) (W:Js K Y) (bD:Dn P w K mg base (3*n+9) "_law_block_fields" ["_law_step_here","_law_told"] (gD Y (n+1))) {cdv:Value} {A:Around} {outer:List Env} {s:Shared} {H0:Hp} {E:XK} (hr:dD (3*n+9) (A.deeper (envOfC "_law_fields" (ak eg) s.heap.objs.size f cdv))) :
  ∃t,PS (gP dg P w K mg base ["_law_step_here","_law_told","_law_kinds","_law_words","_law_found"] "_law_fields" (ak eg) f cdv A outer s H0 E).qc (sF 10) t∧∀(D:Ends) (p r:Addr) (s:cO) (x2 x3:Option V) (H:Hp),cj Y H s (.ref p)→fE H s (.ref r)→s.ok→(¬kd s=4→D.nx [some (.ref p),some (.ref r),x2,x3,none] H)→(∀H',aH H H'→D.rt (.bl true) H')→t D [some (.ref p),some (.ref r),x2,x3,none] H:=by
 have hu:=bh hr
 refine ⟨_,(cH (aN cS (aJ aI (pv 1) aj (fun _ _=>rfl)) bf (aR _)) (aA (aM (lH (eF cS (aG (pv 0) rfl) (aJ aI (pv 1) aj (fun _ _=>rfl)) (aR _)) (lG (eF (lI 8 (uL hr)) (aS (aa (aG (aG (pv 0) rfl) rfl) (aa (aG (aG (pv 0) rfl) rfl) ah))) (aJ aI (pv 1) aj (fun _ _=>rfl)) (aR _)))))) bw),fun D p r s x2 x3 H hs hP ho nx k=>?_⟩
 obtain ⟨r0,fL,e0,lS⟩:=fJ ho hP
 cases e0
 by_cases hk:kd s=4
 rotate_left
 ·exact (cV rfl (cI (aW.of lS) (yK _ _) ⟨rfl,cV rfl (bC (bE (pO (jQ hs) (k:=4) (by decide) hk)) (nx hk))⟩))
 cases s with
 | jD at_ c t e=>exact absurd hk (by show ¬(7=4);decide)
 | rep at_ c hs f b=>exact absurd hk (by show ¬(8=4);decide)
 | flat kk at_ as =>
 have hk:kk=4:=hk
 subst hk
 unfold cj at hs
 unfold fE at hP
 obtain ⟨q,dx,us,e,sh,ep,pp⟩:=hs
 cases e
 obtain ⟨r',us',e',er,fU⟩:=hP
 cases e'
 obtain ⟨x0,a1,m1,rfl⟩:=sh
 cases pp with
 | cons h0 pp =>
 cases fU with
 | cons g0 fU =>
  cases pp with
  | cons h1 pp =>
  cases fU with
  | cons g1 fU =>
  cases pp
  cases fU
  have h0:_=V.str x0:=h0
  subst h0
  have g0:_=V.str x0:=g0
  subst g0
  obtain ⟨r1,rfl,S1⟩:=h1
  obtain ⟨d1,uF,es1,OX,_⟩:=id S1
  obtain ⟨v1,rfl,D1⟩:=g1
  refine (cV rfl (cI (aW.of er) rfl ⟨rfl,cV rfl (cW rfl ?_)⟩))
  refine (cV rfl (cF ep (J.cl 4 (by decide)) (J.na 4 _ (by decide) (by decide +kernel)) (cu (by decide +kernel) (dG)) (cV rfl (cI (aW.of er) rfl ⟨rfl,cV rfl (cW rfl ?_)⟩))))
  refine (cV rfl (cF ep (J.cl 4 (by decide)) (J.na 4 _ (by decide) (by decide +kernel)) dG (cF es1 T.cl T.nT (dR _ _) ?_)))
  refine (cV rfl (cF ep (J.cl 4 (by decide)) (J.na 4 _ (by decide) (by decide +kernel)) dG (cF es1 T.cl T.nN (dI _ _) ⟨(szl 2),fun q1 hq1=>?_⟩)))
  have qY:=new (o:=.tup [V.ref uF,.int m1]) hq1
  have gB:upd H q1 (.tup [V.ref uF,.int m1]) q1=some (.tup [V.ref uF,.int m1]):=af
  have sA:=qY
  clear qY
  generalize upd H q1 (.tup [V.ref uF,.int m1])=G1 at sA gB ⊢
  exact (cV rfl (cI (aW.of (sA _ _ er)) rfl (eT (bT (fu (⟨uF,gB,OX.same sA⟩:dN G1 q1 a1 m1) (D1.same sA)) (by decide)) (k _ sA))))
theorem a4a {f:Addr} {Y:Cy} {fS:Addr} {n:Nat} (T:Txt K mg Y.z.s) (U:dW K mg Y.z) (J:eW K mg Y fS) (W:Js K Y) (bD:Dn P w K mg base (3*n+9) "_law_block_fields" ["_law_step_here","_law_told"] (gD Y (n+1))) {cdv:Value} {A:Around} {outer:List Env} {s:Shared} {H0:Hp} {E:XK} (hr:dD (3*n+9) (A.deeper (envOfC "_law_fields" (ak eg) s.heap.objs.size f cdv))) :
  ∃t,PS (gP dg P w K mg base ["_law_step_here","_law_told","_law_kinds","_law_words","_law_found"] "_law_fields" (ak eg) f cdv A outer s H0 E).qc (sF 11) t∧∀(D:Ends) (p r:Addr) (s:cO) (x2 x3:Option V) (H:Hp),cj Y H s (.ref p)→fE H s (.ref r)→s.ok→(¬kd s=6→D.nx [some (.ref p),some (.ref r),x2,x3,none] H)→(∀H',aH H H'→D.rt (.bl true) H')→t D [some (.ref p),some (.ref r),x2,x3,none] H:=by
 have hu:=bh hr
 refine ⟨_,(cH (aN cS (aJ aI (pv 1) aj (fun _ _=>rfl)) bf (aR _)) (ai (aT (i:=4) dS.nd rfl (Or.inl rfl) (aU aK (by rfl) T.tuple boot_tuple (aa (cK (br ["_law_total"] [] [] rfl (by decide +kernel) (by decide +kernel) (by with_unfolding_all rfl) (by exact trivial) (by rfl) rfl (by rfl)) rfl (eX (aG (pv 0) rfl)) (fun _ _ _ _=>(aP (i:=0) (show List.Nodup (["_law_total"]:List Str) by decide +kernel) rfl (Or.inl rfl) (Or.inr rfl))) (fun _ _ _ _=>cy) (fun _ _ _ _=>(aS (aa (Cj (K:=K) rfl (pv 0) rfl) (aa (Cj (K:=K) rfl (pv 0) rfl) ah))))) ah)))
   (aA (aM (eF (lI 8 (uL hr)) (aS (aa (aG (pv 0) rfl) (aa (aG (pv 0) rfl) (aa (pv 4) ah)))) (eu kN (pv 1) (dO aj) iy) (aR _))))) bw),fun D p r s x2 x3 H hs hP ho nx k=>?_⟩
 obtain ⟨r0,fL,e0,lS⟩:=fJ ho hP
 cases e0
 by_cases hk:kd s=6
 rotate_left
 ·exact (cV rfl (cI (aW.of lS) (yK _ _) ⟨rfl,cV rfl (bC (bE (pO (jQ hs) (k:=6) (by decide) hk)) (nx hk))⟩))
 cases s with
 | jD at_ c t e=>exact absurd hk (by show ¬(7=6);decide)
 | rep at_ c hs f b=>exact absurd hk (by show ¬(8=6);decide)
 | flat kk at_ as =>
 have hk:kk=6:=hk
 subst hk
 unfold cj at hs
 unfold fE at hP
 obtain ⟨q,dx,us,e,sh,ep,pp⟩:=hs
 cases e
 obtain ⟨r',us',e',er,fU⟩:=hP
 cases e'
 obtain ⟨l0,x1,q2,rfl⟩:=sh
 cases pp with
 | cons h0 pp =>
 cases fU with
 | cons g0 fU =>
  cases pp with
  | cons h1 pp =>
  cases fU with
  | cons g1 fU =>
   cases pp with
   | cons h2 pp =>
   cases fU with
   | cons g2 fU =>
   cases pp
   cases fU
   obtain ⟨r0,rfl,Q0⟩:=h0
   obtain ⟨v0,rfl,a4t⟩:=g0
   have h1:_=V.str x1:=h1
   subst h1
   have g1:_=V.str x1:=g1
   subst g1
   obtain ⟨r2,Lk,rfl,JK,lz2,ML⟩:=h2
   obtain ⟨v2,b2s,rfl,a4s,Xl⟩:=g2
   refine (cV rfl (cI (aW.of er) rfl ⟨rfl,cV rfl (cW rfl ?_)⟩))
   have OL:=aD ML
   refine (cV rfl (cF ep (J.cl 6 (by decide)) (J.na 6 _ (by decide) (by decide +kernel)) dG ⟨r2,rfl,⟨Lk,aW.of JK⟩,cT (xs:=Lk) (fun i ys H'=>aH H H'∧Paired (pH H') ys (q2.take i)) ⟨aH.refl _,.nil⟩ (fun i ys H' _ q=>aW.of (q.1 _ _ JK)) ?_ ?_⟩))
   ·rintro i x ys H' hix ⟨sm,py⟩
    obtain ⟨c,fK,pp,rfl,S0⟩:=bB ML hix
    have wR:=(List.getElem?_eq_some_iff.mp fK).1
    have mH:ys.length≤i:=by
     rw [aD py,List.length_take]
     omega
    obtain ⟨dx2,rS,ep2,KS,_⟩:=id (S0.same sm)
    refine ⟨Ext.one,gk (cV rfl (cF ep2 T.cl T.nT (dR _ _) ?_))⟩
    refine (cV rfl (cF ep2 T.cl T.nN (dI _ _) ⟨(szl 2),fun q hq=>⟨line _ (by omega),sm.trans (new hq),?_⟩⟩))
    rw [take_snoc fK]
    exact bx (L2.Paired.cQ py fun _ _ z=>z.ao (ay.of (new hq))) ⟨q,rfl,rS,af,KS.same (new hq)⟩
   rintro ys H' ⟨sm,py⟩ lq D6
   rw [OL,List.take_length] at py
   refine ⟨lq,cV rfl (.inl ⟨bS.of af,fun tf htf=>?_⟩)⟩
   have sA:aH H' (upd (upd H' lq (.lst ys)) tf (.tup ys)):=aH.new (new D6) htf
   have LW:upd (upd H' lq (.lst ys)) tf (.tup ys) tf=some (.tup ys):=af
   have py:=L2.Paired.cQ py fun _ _ z=>pH.ao (ay.of sA) z
   have sA:=sm.trans sA
   generalize upd (upd H' lq (.lst ys)) tf (.tup ys)=G0 at sA LW py ⊢
   refine (cV rfl (cF (sA _ _ ep) (J.cl 6 (by decide)) (J.na 6 _ (by decide) (by decide +kernel)) (cu (by decide +kernel) (cu (by decide +kernel) (dG))) ?_))
   refine (cV rfl (cF (sA _ _ ep) (J.cl 6 (by decide)) (J.na 6 _ (by decide) (by decide +kernel)) (cu (by decide +kernel) (dG)) (cV rfl ⟨(szl 3),fun q3 yG=>?_⟩)))
   have py:=L2.Paired.cQ py fun _ _ z=>pH.ao (ay.of (new (o:=.tup [V.ref r0,.str x1,.ref tf]) yG)) z
   have Dg:=new (o:=.tup [V.ref r0,.str x1,.ref tf]) yG
   have yE:upd G0 q3 (.tup [V.ref r0,.str x1,.ref tf]) q3=some (.tup [V.ref r0,.str x1,.ref tf]):=af
   have LW:=Dg _ _ LW
   have sA:=sA.trans Dg
   clear Dg
   generalize upd G0 q3 (.tup [V.ref r0,.str x1,.ref tf])=G1 at sA LW py yE ⊢
   refine (cV rfl (cV rfl ⟨r,cV rfl ⟨aW.of (sA _ _ er),(fun z=>absurd z.1 (show ¬(2:Nat)=0 by decide)),fun q4 Dv=>?_⟩⟩))
   rw [show kD _ (some 2) none=[V.ref v0,V.str x1,V.ref v2] from rfl]
   have xT:=new (o:=.tup [V.ref v0,V.str x1,V.ref v2]) Dv
   have LY:upd G1 q4 (.tup [V.ref v0,V.str x1,V.ref v2]) q4=some (.tup [V.ref v0,V.str x1,V.ref v2]):=af
   have LW:=xT _ _ LW
   have py:=L2.Paired.cQ py fun _ _ z=>pH.ao (ay.of xT) z
   have yE:=xT _ _ yE
   have sA:=sA.trans xT
   clear xT
   generalize upd G1 q4 (.tup [V.ref v0,V.str x1,V.ref v2])=G2 at sA LW py yE LY ⊢
   exact eT (cA (n:=8) yE LY (.cons (cA (sA _ _ Q0) (sA _ _ a4t) (iU _)) (.cons (cY rfl) (.cons (cA LW (sA _ _ a4s) (m7 (fun u v a h g=>by obtain ⟨z1,rfl,hz1⟩:=h;obtain ⟨z2,rfl,hz2⟩:=g;exact bT (fu hz1 hz2) (by decide)) py (L2.Paired.cQ Xl fun _ _ z=>z.ao (ay.of sA)))) .nil)))) (k _ sA)
theorem Kc {f:Addr} {fd:FuncData} {Y:Cy} {fS:Addr} {n:Nat} (F:dX K "_law_fields" "_law_fields" eg f fd) (T:Txt K mg Y.z.s) (U:dW K mg Y.z) (J:eW K mg Y fS) (W:Js K Y) (bD:Dn P w K mg base (3*n+9) "_law_block_fields" ["_law_step_here","_law_told"] (gD Y (n+1))):bH P w K mg base dg (3*n+10) f fd ["_law_step_here","_law_told"] (kL Y (n+1)):=by
 refine F.ok dS (fun vs H Q E h=>?_) (fun cdv A outer s H vs Q E hr h=>?_)
 ·obtain ⟨p,v,s0,rfl,hs,hP,ho,hd,JJ,k⟩:=h
  rfl
 ·obtain ⟨p,v,s0,rfl,hs,hP,ho,hd,JJ,k⟩:=h
  obtain ⟨t5,p5,l5⟩:=fl5 (f:=f) (n:=n) T U J W bD (cdv:=cdv) (A:=A) (outer:=outer) (s:=s) (H0:=H) (E:=E) hr
  obtain ⟨t6,p6,l6⟩:=fl6 (f:=f) (n:=n) T U J W bD (cdv:=cdv) (A:=A) (outer:=outer) (s:=s) (H0:=H) (E:=E) hr
  obtain ⟨t7,p7,l7⟩:=fl7 (f:=f) (n:=n) T U J W bD (cdv:=cdv) (A:=A) (outer:=outer) (s:=s) (H0:=H) (E:=E) hr
  obtain ⟨t8,p8,l8⟩:=fl8 (f:=f) (n:=n) T U J W bD (cdv:=cdv) (A:=A) (outer:=outer) (s:=s) (H0:=H) (E:=E) hr
  obtain ⟨t9,p9,l9⟩:=fl9 (f:=f) (n:=n) T U J W bD (cdv:=cdv) (A:=A) (outer:=outer) (s:=s) (H0:=H) (E:=E) hr
  obtain ⟨t10,Yt,JE⟩:=a4b (f:=f) (n:=n) T U J W bD (cdv:=cdv) (A:=A) (outer:=outer) (s:=s) (H0:=H) (E:=E) hr
  obtain ⟨t11,Ys,Nu⟩:=a4a (f:=f) (n:=n) T U J W bD (cdv:=cdv) (A:=A) (outer:=outer) (s:=s) (H0:=H) (E:=E) hr
  have hu:=bh hr
  rw [show av eg=[_,_,_,_,_,sF 5,sF 6,sF 7,sF 8,sF 9,sF 10,sF 11,_] from rfl]
  refine ⟨_,(ai (aT (i:=2) dS.nd rfl (Or.inl rfl) (cP (aa (bA (eV (c:=.ref Y.lt) trivial) (by rfl) T.isinstance boot_isinstance (aa (pv 0) (aa (iA (v:=.ref Y.lt) rfl J.mg0 rfl) ah))) (aa (bA (eV (c:=.ref Y.dv) trivial) (by rfl) T.isinstance boot_isinstance (aa (pv 0) (aa (iA (v:=.ref Y.dv) rfl J.mg1 rfl) ah))) (aa (bA (eV (c:=.ref Y.ft) trivial) (by rfl) T.isinstance boot_isinstance (aa (pv 0) (aa (iA (v:=.ref Y.ft) rfl J.mg2 rfl) ah))) (aa (bA (eV (c:=.ref Y.pt) trivial) (by rfl) T.isinstance boot_isinstance (aa (pv 0) (aa (iA (v:=.ref Y.pt) rfl J.mg3 rfl) ah))) ah))))))
   (ai (aT (i:=2) dS.nd rfl (Or.inl rfl) (bN tW (pv 2) (cP (aa (bA (eV (c:=.ref Y.mq) trivial) (by rfl) T.isinstance boot_isinstance (aa (pv 0) (aa (iA (v:=.ref Y.mq) rfl J.mg4 rfl) ah))) (aa (bA (eV (c:=.ref Y.cm) trivial) (by rfl) T.isinstance boot_isinstance (aa (pv 0) (aa (iA (v:=.ref Y.cm) rfl J.mg5 rfl) ah))) (aa (bA (eV (c:=.ref Y.ch) trivial) (by rfl) T.isinstance boot_isinstance (aa (pv 0) (aa (iA (v:=.ref Y.ch) rfl J.mg7 rfl) ah))) ah))))))
   (ai (aT (i:=2) dS.nd rfl (Or.inl rfl) (bN tW (pv 2) (cP (aa (bA (eV (c:=.ref Y.rp) trivial) (by rfl) T.isinstance boot_isinstance (aa (pv 0) (aa (iA (v:=.ref Y.rp) rfl J.mg8 rfl) ah))) (aa (bA (eV (c:=.ref Y.cl) trivial) (by rfl) T.isinstance boot_isinstance (aa (pv 0) (aa (iA (v:=.ref Y.cl) rfl J.mg6 rfl) ah))) ah)))))
   (ai (aT (i:=3) dS.nd rfl (Or.inl rfl) (cP (oJ (xs:=["let","divide","fetch","put","make","claim","choose","repeat","call"]) rfl)))
   (ai (cH (PW.pt (kE (aN (jG 8 (uL hr)) (pv 2) (cK (br ["_law_word"] ["_law_told"] [1] rfl (by decide +kernel) (by decide +kernel) (by with_unfolding_all rfl) (by exact ⟨rfl,trivial⟩) (by rfl) rfl (by rfl)) rfl (gp (pv 3)) (fun _ _ _ _=>(aP (i:=0) (show List.Nodup (["_law_word","_law_told"]:List Str) by decide +kernel) rfl (Or.inl rfl) (Or.inr rfl))) (fun _ _ _ _=>cy) (fun _ _ _ _=>(eF cS (pv 0) (aJ (Cu (K:=K) rfl) (pv 1) aj (fun _ _=>rfl)) (aR _)))) (aR _)) (kE (pY (m5 (bA (eV (c:=.ref Y.st) trivial) (by rfl) T.isinstance boot_isinstance (aa (pv 0) (aa (iA (v:=.ref Y.st) rfl J.JD rfl) ah))))) (ja (aN Ck (aG (pv 0) rfl) (aJ aI (pv 1) aj (fun _ _=>rfl)) (aR _)))))) (aA (aM jy)) bw)
   (ai p5 (ai p6 (ai p7 (ai p8 (ai p9 (ai Yt (ai Ys (aA (aM (au bD.ok (hr.mono (by first | decide | omega)) rfl bD.mm bD.kp bD.b .nil aB (aa (pv 0) (aa (pv 1) ah))))))))))))))))),?_⟩
  obtain ⟨r,us,rfl,er⟩:=fJ ho hP
  have hj:=jQ hs
  have O5:∀H',aH H H'→nR K H' (.ref p) (.ref (eY Y (kd s0))):=fun H' sm=>JX T J W (cj.ao (ay.of sm) hs)
  have kk:=fun i hi=>W.kk (kd s0) i hj hi
  have kS:=W.kS (kd s0) hj
  have ty:=O5 H (aH.refl _)
  refine (cV rfl ⟨_,_,_,cV rfl ⟨ty,rfl,kk 0 (by decide),cV rfl ⟨_,_,_,cV rfl ⟨ty,rfl,kk 1 (by decide),cV rfl ⟨_,_,_,cV rfl ⟨ty,rfl,kk 2 (by decide),cV rfl ⟨_,_,_,cV rfl ⟨ty,rfl,kk 3 (by decide),(szl 4),fun z1 hz1=>?_⟩⟩⟩⟩⟩⟩⟩⟩)
  have nz1:=new (o:=.lst [V.bl (decide (kd s0=0)),V.bl (decide (kd s0=1)),V.bl (decide (kd s0=2)),V.bl (decide (kd s0=3))]) hz1
  have uT:upd H z1 (.lst [V.bl (decide (kd s0=0)),V.bl (decide (kd s0=1)),V.bl (decide (kd s0=2)),V.bl (decide (kd s0=3))]) z1=some (.lst [V.bl (decide (kd s0=0)),V.bl (decide (kd s0=1)),V.bl (decide (kd s0=2)),V.bl (decide (kd s0=3))]):=af
  have sA:=nz1
  clear nz1
  generalize upd H z1 (.lst [V.bl (decide (kd s0=0)),V.bl (decide (kd s0=1)),V.bl (decide (kd s0=2)),V.bl (decide (kd s0=3))])=G1 at sA uT ⊢
  have ty:=O5 _ sA
  refine (cV rfl (cV rfl ⟨_,_,_,cV rfl ⟨ty,rfl,kk 4 (by decide),cV rfl ⟨_,_,_,cV rfl ⟨ty,rfl,kk 5 (by decide),cV rfl ⟨_,_,_,cV rfl ⟨ty,rfl,kk 7 (by decide),(szl 3),fun z2 hz2=>?_⟩⟩⟩⟩⟩⟩))
  have nz2:=new (o:=.lst [V.bl (decide (kd s0=4)),V.bl (decide (kd s0=5)),V.bl (decide (kd s0=7))]) hz2
  have xq:upd G1 z2 (.lst [V.bl (decide (kd s0=4)),V.bl (decide (kd s0=5)),V.bl (decide (kd s0=7))]) z2=some (.lst [V.bl (decide (kd s0=4)),V.bl (decide (kd s0=5)),V.bl (decide (kd s0=7))]):=af
  have uT:=nz2 _ _ uT
  have sA:=sA.trans nz2
  clear nz2
  generalize upd G1 z2 (.lst [V.bl (decide (kd s0=4)),V.bl (decide (kd s0=5)),V.bl (decide (kd s0=7))])=G2 at sA uT xq ⊢
  refine ⟨z1,z2,_,cV rfl ⟨rfl,uT,xq,(szl 7),fun z3 hz3=>?_⟩⟩
  have TF:=new (o:=.lst ([V.bl (decide (kd s0=0)),V.bl (decide (kd s0=1)),V.bl (decide (kd s0=2)),V.bl (decide (kd s0=3))]++[V.bl (decide (kd s0=4)),V.bl (decide (kd s0=5)),V.bl (decide (kd s0=7))])) hz3
  have BG:upd G2 z3 (.lst ([V.bl (decide (kd s0=0)),V.bl (decide (kd s0=1)),V.bl (decide (kd s0=2)),V.bl (decide (kd s0=3))]++[V.bl (decide (kd s0=4)),V.bl (decide (kd s0=5)),V.bl (decide (kd s0=7))])) z3=some (.lst ([V.bl (decide (kd s0=0)),V.bl (decide (kd s0=1)),V.bl (decide (kd s0=2)),V.bl (decide (kd s0=3))]++[V.bl (decide (kd s0=4)),V.bl (decide (kd s0=5)),V.bl (decide (kd s0=7))])):=af
  have uT:=TF _ _ uT
  have xq:=TF _ _ xq
  have sA:=sA.trans TF
  clear TF
  generalize upd G2 z3 (.lst ([V.bl (decide (kd s0=0)),V.bl (decide (kd s0=1)),V.bl (decide (kd s0=2)),V.bl (decide (kd s0=3))]++[V.bl (decide (kd s0=4)),V.bl (decide (kd s0=5)),V.bl (decide (kd s0=7))]))=G3 at sA uT xq BG ⊢
  have ty:=O5 _ sA
  refine (cV rfl (cV rfl ⟨_,_,_,cV rfl ⟨ty,rfl,kk 8 (by decide),cV rfl ⟨_,_,_,cV rfl ⟨ty,rfl,kk 6 (by decide),(szl 2),fun z4 hz4=>?_⟩⟩⟩⟩))
  have PL:=new (o:=.lst [V.bl (decide (kd s0=8)),V.bl (decide (kd s0=6))]) hz4
  have Eh:upd G3 z4 (.lst [V.bl (decide (kd s0=8)),V.bl (decide (kd s0=6))]) z4=some (.lst [V.bl (decide (kd s0=8)),V.bl (decide (kd s0=6))]):=af
  have uT:=PL _ _ uT
  have xq:=PL _ _ xq
  have BG:=PL _ _ BG
  have sA:=sA.trans PL
  clear PL
  generalize upd G3 z4 (.lst [V.bl (decide (kd s0=8)),V.bl (decide (kd s0=6))])=G4 at sA uT xq BG Eh ⊢
  refine ⟨z3,z4,_,cV rfl ⟨rfl,BG,Eh,(szl 9),fun z5 hz5=>?_⟩⟩
  have OI:=new (o:=.lst ([V.bl (decide (kd s0=0)),V.bl (decide (kd s0=1)),V.bl (decide (kd s0=2)),V.bl (decide (kd s0=3))]++[V.bl (decide (kd s0=4)),V.bl (decide (kd s0=5)),V.bl (decide (kd s0=7))]++[V.bl (decide (kd s0=8)),V.bl (decide (kd s0=6))])) hz5
  have K6:upd G4 z5 (.lst ([V.bl (decide (kd s0=0)),V.bl (decide (kd s0=1)),V.bl (decide (kd s0=2)),V.bl (decide (kd s0=3))]++[V.bl (decide (kd s0=4)),V.bl (decide (kd s0=5)),V.bl (decide (kd s0=7))]++[V.bl (decide (kd s0=8)),V.bl (decide (kd s0=6))])) z5=some (.lst ([V.bl (decide (kd s0=0)),V.bl (decide (kd s0=1)),V.bl (decide (kd s0=2)),V.bl (decide (kd s0=3))]++[V.bl (decide (kd s0=4)),V.bl (decide (kd s0=5)),V.bl (decide (kd s0=7))]++[V.bl (decide (kd s0=8)),V.bl (decide (kd s0=6))])):=af
  have uT:=OI _ _ uT
  have xq:=OI _ _ xq
  have BG:=OI _ _ BG
  have Eh:=OI _ _ Eh
  have sA:=sA.trans OI
  clear OI
  generalize upd G4 z5 (.lst ([V.bl (decide (kd s0=0)),V.bl (decide (kd s0=1)),V.bl (decide (kd s0=2)),V.bl (decide (kd s0=3))]++[V.bl (decide (kd s0=4)),V.bl (decide (kd s0=5)),V.bl (decide (kd s0=7))]++[V.bl (decide (kd s0=8)),V.bl (decide (kd s0=6))]))=G5 at sA uT xq BG Eh K6 ⊢
  refine ⟨(szl 9),fun z6 hz6=>?_⟩
  have Ni:=new (o:=.lst (([("let":Str),"divide","fetch","put","make","claim","choose","repeat","call"]:List Str).map V.str)) hz6
  have K5:upd G5 z6 (.lst (([("let":Str),"divide","fetch","put","make","claim","choose","repeat","call"]:List Str).map V.str)) z6=some (.lst (([("let":Str),"divide","fetch","put","make","claim","choose","repeat","call"]:List Str).map V.str)):=af
  have uT:=Ni _ _ uT
  have xq:=Ni _ _ xq
  have BG:=Ni _ _ BG
  have Eh:=Ni _ _ Eh
  have K6:=Ni _ _ K6
  have sA:=sA.trans Ni
  clear Ni
  generalize upd G5 z6 (.lst (([("let":Str),"divide","fetch","put","make","claim","choose","repeat","call"]:List Str).map V.str))=G6 at sA uT xq BG Eh K6 K5 ⊢
  have K5:G6 z6=some (.lst (HU.map V.str)):=K5
  have kl:HU.length=9:=rfl
  refine (cV rfl (cV rfl ⟨z6,rfl,⟨_,bS.of K5⟩,eS (xs:=HU.map V.str) (fun i ys H'=>H'=G6∧ys=(HU.take i).map (fun w=>V.bl (decide (V.str w=V.str (EE (kd s0)))))) ⟨rfl,rfl⟩ (fun i ys H' _ q=>by rw [q.1];exact bS.of K5) ?_ ?_⟩))
  ·rintro i x ys H' hix ⟨rfl,rfl⟩
   obtain ⟨y,hy,rfl⟩:=ie hix
   have wR:=(List.getElem?_eq_some_iff.mp hy).1
   refine ⟨Ext.one,gk (cV rfl (cV rfl (cI (aW.of (sA _ _ er)) (yK _ _) ⟨rfl,?_,rfl,?_⟩)))⟩
   ·rw [List.length_map,List.length_take];exact line _ (by omega)
   ·rw [take_snoc hy,List.map_append]
    rfl
  rintro ys H' ⟨rfl,rfl⟩ z7 hz7
  rw [List.length_map,List.take_length,HV hj]
  have Lz:=new (o:=.lst ((([0,1,2,3,4,5,7,8,6]:List Nat)).map (fun i=>V.bl (decide (kd s0=i))))) hz7
  have Ez7:upd H' z7 (.lst ((([0,1,2,3,4,5,7,8,6]:List Nat)).map (fun i=>V.bl (decide (kd s0=i))))) z7=some (.lst ((([0,1,2,3,4,5,7,8,6]:List Nat)).map (fun i=>V.bl (decide (kd s0=i))))):=af
  have uT:=Lz _ _ uT
  have xq:=Lz _ _ xq
  have BG:=Lz _ _ BG
  have Eh:=Lz _ _ Eh
  have K6:=Lz _ _ K6
  have K5:=Lz _ _ K5
  have sA:=sA.trans Lz
  clear Lz
  generalize upd H' z7 (.lst ((([0,1,2,3,4,5,7,8,6]:List Nat)).map (fun i=>V.bl (decide (kd s0=i)))))=G7 at sA uT xq BG Eh K6 K5 Ez7 ⊢
  refine ⟨z5,z7,_,cV rfl ⟨rfl,.inl ⟨bS.of K6,bS.of Ez7⟩,qA (vs:=(([0,1,2,3,4,5,7,8,6]:List Nat)).map (fun i=>V.bl (decide (kd s0=i)))) rfl,cV rfl (fB ?_)⟩⟩
  have ty:=O5 _ sA
  refine (cV rfl ⟨_,_,_,true,rfl,ty,rfl,kS,cV rfl (fB ?_)⟩)
  have hs7:=cj.ao (ay.of sA) hs
  have hP7:=fE.ao (ay.of sA) hP
  obtain ⟨dx,fs,ep,lk⟩:=step_at hs7
  refine (cV rfl (cF ep (J.cl _ hj) (J.na _ _ hj (SD hj)) lk (cV rfl (cI (aW.of (sA _ _ er)) (bI (j:=1) rfl) ⟨rfl,cV rfl (jz rfl ?_)⟩))))
  have k:=fun H9 (z:aH G7 H9)=>k H9 (sA.trans z)
  clear uT xq BG Eh K6 K5 Ez7 ty O5 ep lk sA er
  refine l5 _ p r s0 _ _ G7 hs7 hP7 ho (fun G9 s9=>?_) k
  have NF:=cj.ao (ay.of s9) hs7
  have NI:=fE.ao (ay.of s9) hP7
  have k:=fun H9 (z:aH G9 H9)=>k H9 (s9.trans z)
  refine l6 _ p r s0 _ _ G9 NF NI ho (fun h0=>?_) k
  refine l7 _ p r s0 _ _ G9 NF NI ho (fun h1=>?_) k
  refine l8 _ p r s0 _ _ G9 NF NI ho (fun h2=>?_) k
  refine l9 _ p r s0 _ _ G9 NF NI ho (fun h3=>?_) k
  refine JE _ p r s0 _ _ G9 NF NI ho (fun h4=>?_) k
  refine Nu _ p r s0 _ _ G9 NF NI ho (fun h6=>?_) k
  exact (cV rfl (cV rfl ⟨p,_,s0,rfl,(by omega),NF,NI,ho,hd,JJ,k⟩))
abbrev lg:Stmt:=top 54
theorem fc:aQ ["_law_step_here","_law_told","_law_keeps","_law_falls"] ["_law_step_here","_law_told"] (ak lg):=⟨rfl,rfl,rfl,by decide +kernel,rfl,by decide +kernel,by decide +kernel⟩
theorem Kd {f:Addr} {fd:FuncData} {Y:Cy} {fS:Addr} {n:Nat} (F:dX K "_law_block_fields" "_law_block_fields" lg f fd) (T:Txt K mg Y.z.s) (U:dW K mg Y.z) (J:eW K mg Y fS) (bM:M4 P w K mg base 4 Y.z "told" ["self"] (cZ Y.z 3)) (bX:Dn P w K mg base (3*n+8) "_law_all_fields" ["_law_steps_here","_law_told"] (vR Y n)):bH P w K mg base dg (3*n+9) f fd ["_law_step_here","_law_told"] (gD Y (n+1)):=by
 refine F.ok fc (fun vs H Q E h=>?_) (fun cdv A outer s H vs Q E hr h=>?_)
 ·obtain ⟨p,v,s,rfl,hkd,hs,hP,ho,hd,LI,k⟩:=h
  rfl
 ·obtain ⟨p,v,s,rfl,hkd,hs,hP,ho,hd,LI,k⟩:=h
  have hu:=bh hr
  rw [show av lg=[_,_,_,_,_,_,_,_] from rfl]
  refine ⟨_,(ai (cH (aN (jG 8 (uL hr)) (gG (Z:=Y.z) (aG (pv 0) rfl) U.cl fQ bM (hr.mono (by first | decide | omega)) aB) (aJ aI (pv 1) aj (fun _ _=>rfl)) (aR _)) (aA (aM jy)) bw)
   (ai (cH (aN cS (aJ aI (pv 1) aj (fun _ _=>rfl)) bf (aR _)) (aA (aM jy)) bw)
   (ai (cH (aN cS (aJ aI (pv 1) aj (fun _ _=>rfl)) bf (aR _)) (aA (aM (lH (au bX.ok (hr.mono (by first | decide | omega)) rfl bX.mm bX.kp bX.b .nil aB (aa (aG (pv 0) rfl) (aa (aJ aI (pv 1) aj (fun _ _=>rfl)) ah))) (lG (au bX.ok (hr.mono (by first | decide | omega)) rfl bX.mm bX.kp bX.b .nil aB (aa (aG (pv 0) rfl) (aa (aJ aI (pv 1) aj (fun _ _=>rfl)) ah))))))) bw)
   (ai (jx (i:=2) fc.nd rfl (Or.inl rfl) (br ["_law_at","_law_one"] [] [] rfl (by decide +kernel) (by decide +kernel) (by with_unfolding_all rfl) (by exact trivial) (by rfl) rfl (by rfl)) rfl (eX (aG (pv 0) rfl)) (fun _ _ _ _=>(oH (K:=K) (n:=2) rfl rfl (bZ (aP (i:=0) (show List.Nodup (["_law_at","_law_one"]:List Str) by decide +kernel) rfl (Or.inl rfl) (Or.inr rfl)) (bZ (aP (i:=1) (show List.Nodup (["_law_at","_law_one"]:List Str) by decide +kernel) rfl (Or.inl rfl) (Or.inr rfl)) iz)))) (fun _ _ _ _=>cy) (fun _ _ _ _=>(aS (aa (pv 0) (aa (gG (Z:=Y.z) (pv 1) U.cl fQ bM (hr.mono (by first | decide | omega)) aB) ah)))))
   (ai (cH (PW.pt (kE (pY (m5 (bA (eV (c:=.ty "tuple") trivial) (by rfl) T.isinstance boot_isinstance (aa (aG (pv 0) rfl) (aa (se (v:=.ty "tuple") rfl T.tuple boot_tuple rfl) ah))))) (ja (aN (jG 8 (uL hr)) (pv 2) (aU gh (by rfl) T.list boot_list (aa (aJ aI (pv 1) aj (fun _ _=>rfl)) ah)) (aR _))))) (aA (aM jy)) bw)
   (ai (aT (i:=3) fc.nd rfl (Or.inl rfl) gZ)
   (ai (cH (aN oK (aG (pv 0) rfl) gZ (aR _)) (aA (aT (i:=3) fc.nd rfl (Or.inl rfl) (aS (aa (aJ aI (aG (pv 0) rfl) aj (fun _ _=>rfl)) (aa (aS (aa (aG (aJ aI (aG (pv 0) rfl) aj (fun _ _=>rfl)) rfl) (aa (aG (aJ aI (aG (pv 0) rfl) aj (fun _ _=>rfl)) rfl) ah))) ah))))) bw)
   (aA (aM (lH (eF (J5 8 (uL hr)) (pv 3) (aJ aI (pv 1) aj (fun _ _=>rfl)) (aR _)) (lG (au bX.ok (hr.mono (by first | decide | omega)) rfl bX.mm bX.kp bX.b .nil aB (aa (aG (pv 0) rfl) (aa (aJ aI (pv 1) aj (fun _ _=>rfl)) ah)))))))))))))),?_⟩
  cases s with
  | flat kk at_ as =>
   have hkd:kk=5∨7≤kk:=hkd
   unfold cj at hs
   unfold fE at hP
   unfold cO.ok at ho
   obtain ⟨q,dx,us,e,sh,ep,pp⟩:=hs
   cases e
   obtain ⟨r,us',rfl,er,fU⟩:=hP
   have h7:=JZ sh
   obtain rfl:kk=5:=by omega
   obtain ⟨c,rfl⟩:=sh
   cases pp with
   | cons h0 pp =>
    cases pp
    cases fU with
    | cons h0' fU =>
     cases fU
     obtain ⟨pc,rfl⟩:=eU h0
     have hc:cJ Y.z H c (.ref pc):=h0
     have hc':bg H c _:=h0'
     have JJ:c.dep≤3:=(ho.2 (.cd c) (List.mem_cons_self ..)).2
     refine (cV rfl (cF ep (J.cl 5 (by decide)) (J.na 5 _ (by decide) (by decide +kernel)) dG ⟨pc,c,rfl,hc,pc,c,rfl,rfl,hc,JJ,fun v1 H1 s1 D1=>?_⟩))
     refine (cV rfl (cI (aW.of (s1 _ _ er)) rfl (mQ D1 (bg.ao (ay.of s1) hc') (by omega) (cV rfl (fB ?_)))))
     exact (cV rfl (cI (aW.of (s1 _ _ er)) rfl ⟨rfl,cV rfl (cW rfl (k _ s1))⟩))
  | jD at_ c t e =>
   unfold cj at hs
   unfold fE at hP
   unfold cO.ok at ho
   unfold cO.dep at hd LI
   obtain ⟨q,dx,uc,t1,t2,us,ws,e0,ep,hc,e1,l1,h1,e2,l2,h2⟩:=hs
   cases e0
   obtain ⟨r,VF,t1',rD,us',Ll,rfl,er,hc',Od,yI,Ec,h2'⟩:=hP
   obtain ⟨pc,rfl⟩:=eU hc
   have JJ:=ho.1.2
   refine (cV rfl (cF ep (J.cl 7 (by decide)) (J.na 7 _ (by decide) (by decide +kernel)) (cu (by decide +kernel) (cu (by decide +kernel) (dG))) ⟨pc,c,rfl,hc,pc,c,rfl,rfl,hc,JJ,fun v1 H1 s1 D1=>?_⟩))
   refine (cV rfl (cI (aW.of (s1 _ _ er)) rfl (mQ D1 (bg.ao (ay.of s1) hc') (by omega) (cV rfl (fB ?_)))))
   refine (cV rfl (cI (aW.of (s1 _ _ er)) rfl ⟨rfl,cV rfl (bC (bE (by decide +kernel)) ?_)⟩))
   refine (cV rfl (cI (aW.of (s1 _ _ er)) rfl ⟨rfl,cV rfl (cW rfl ?_)⟩))
   refine (cV rfl (cF (s1 _ _ ep) (J.cl 7 (by decide)) (J.na 7 _ (by decide) (by decide +kernel)) (cu (by decide +kernel) (dG)) (cV rfl (cI (aW.of (s1 _ _ er)) rfl ⟨t1,t1',us,us',t,rfl,s1 _ _ e1,h1.ao (ay.of s1),s1 _ _ Od,yI.ao (ay.of s1),ho.2.2.2.1,by omega,by omega,ho.2.1,fun H2 s2=>?_⟩))))
   refine (cV rfl (qD ?_))
   have sA:=s1.trans s2
   exact (cV rfl (cF (sA _ _ ep) (J.cl 7 (by decide)) (J.na 7 _ (by decide) (by decide +kernel)) dG (cV rfl (cI (aW.of (sA _ _ er)) rfl ⟨t2,rD,ws,Ll,e,rfl,sA _ _ e2,h2.ao (ay.of sA),sA _ _ Ec,h2'.ao (ay.of sA),ho.2.2.2.2,by omega,by omega,ho.2.2.1,fun H3 s3=>k _ (sA.trans s3)⟩))))
  | rep at_ c hh ff b =>
   unfold cj at hs
   unfold fE at hP
   unfold cO.ok at ho
   unfold cO.dep at hd LI
   obtain ⟨q,dx,uc,uh,uf,t2,ws,e0,ep,hc,hR,hF,e2,l2,h2⟩:=hs
   cases e0
   obtain ⟨r,VF,uh',uf',rD,Ll,rfl,er,hc',hR',UK,Ec,h2'⟩:=hP
   obtain ⟨pc,rfl⟩:=eU hc
   have JJ:=ho.1.2
   refine (cV rfl (cF ep (J.cl 8 (by decide)) (J.na 8 _ (by decide) (by decide +kernel)) (cu (by decide +kernel) (cu (by decide +kernel) (cu (by decide +kernel) (dG)))) ⟨pc,c,rfl,hc,pc,c,rfl,rfl,hc,JJ,fun v1 H1 s1 D1=>?_⟩))
   refine (cV rfl (cI (aW.of (s1 _ _ er)) rfl (mQ D1 (bg.ao (ay.of s1) hc') (by omega) (cV rfl (fB ?_)))))
   refine (cV rfl (cI (aW.of (s1 _ _ er)) rfl ⟨rfl,cV rfl (bC (bE (by decide +kernel)) ?_)⟩))
   refine (cV rfl (cI (aW.of (s1 _ _ er)) rfl ⟨rfl,cV rfl (bC (bE (by decide +kernel)) ?_)⟩))
   obtain ⟨tk,xs,rfl,etk,lk,pk⟩:=hR
   obtain ⟨tk',xs',rfl,a4n,pk'⟩:=hR'
   have lxs:=aD pk
   refine (cV rfl (cF (s1 _ _ ep) (J.cl 8 (by decide)) (J.na 8 _ (by decide) (by decide +kernel)) (cu (by decide +kernel) (cu (by decide +kernel) (dG))) ⟨tk,rfl,⟨xs,aW.of (s1 _ _ etk)⟩,cT (xs:=xs) (fun i ys H'=>aH H1 H'∧Paired (sH H') ys (hh.take i)) ⟨aH.refl _,.nil⟩ (fun i ys H' _ q=>aW.of (q.1 _ _ (s1 _ _ etk))) ?_ ?_⟩))
   ·rintro i x ys H' hix ⟨sm,py⟩
    obtain ⟨c2,fK,r2,w2,rfl,KC,hc2⟩:=bB pk hix
    have oU:=List.mem_of_getElem? fK
    have wR:=(List.getElem?_eq_some_iff.mp fK).1
    have mH:ys.length≤i:=by
     rw [aD py,List.length_take]
     omega
    have sB:=s1.trans sm
    have yd:=hc2.ao (ay.of sB)
    obtain ⟨pu,rfl⟩:=eU hc2
    refine ⟨r2,cV rfl ⟨aW.of (sB _ _ KC),rfl,_,cV rfl ⟨_,cV rfl ⟨rfl,Ext.two,gk (cV rfl (cV rfl ⟨pu,c2.2,rfl,yd,pu,c2.2,rfl,rfl,yd,(ho.2.2.1 c2 oU).2,fun v H3 s3 d3=>⟨(szl 2),fun q hq=>⟨line _ (by omega),(sm.trans s3).trans (new hq),?_⟩⟩⟩))⟩⟩⟩⟩
    rw [take_snoc fK]
    exact bx (sH.all (ay.of (s3.trans (new hq))) py) ⟨q,v,rfl,af,d3.ao (ay.of (new hq))⟩
   rintro ys H' ⟨sm,py⟩ lq D6
   rw [lxs,List.take_length] at py
   have sA:=(s1.trans sm).trans (new (o:=.lst ys) D6)
   have N7:upd H' lq (.lst ys) lq=some (.lst ys):=af
   have py:=sH.all (ay.of (new (o:=.lst ys) D6)) py
   generalize upd H' lq (.lst ys)=H3 at sA N7 py ⊢
   refine (cV rfl (cF (sA _ _ ep) (J.cl 8 (by decide)) (J.na 8 _ (by decide) (by decide +kernel)) (cu (by decide +kernel) (cu (by decide +kernel) (dG))) ⟨_,_,_,true,rfl,.tup (sA _ _ etk),rfl,T.kT,cV rfl (fB ?_)⟩))
   refine (cV rfl (cV rfl (cI (aW.of (sA _ _ er)) rfl ⟨tk',cV rfl ⟨.inr (aW.of (sA _ _ a4n)),fun l3 hl3=>?_⟩⟩)))
   have s3:=new (o:=.lst xs') hl3
   have sB:=sA.trans s3
   refine ⟨lq,l3,_,cV rfl ⟨rfl,.inl ⟨bS.of (s3 _ _ N7),bS.of af⟩,Gv (fun q hq=>(ho.2.2.1 q hq).2) (sH.all (ay.of s3) py) (sH.all (ay.of sB) pk'),cV rfl (fB ?_)⟩⟩
   generalize upd H3 l3 (.lst xs')=H4 at sB ⊢
   clear N7 py sA s3 hl3 D6
   cases ff with
   | none =>
    have hF:uf=V.dM:=hF
    subst hF
    have UK:uf'=V.dM:=UK
    subst UK
    refine (cV rfl (cF (sB _ _ ep) (J.cl 8 (by decide)) (J.na 8 _ (by decide) (by decide +kernel)) (cu (by decide +kernel) (dG)) ⟨rfl,cV rfl (jz rfl ?_)⟩))
    refine (cV rfl (cV rfl (cI (aW.of (sB _ _ er)) rfl (.inl ⟨rfl,rfl,cV rfl (qD ?_)⟩))))
    exact (cV rfl (cF (sB _ _ ep) (J.cl 8 (by decide)) (J.na 8 _ (by decide) (by decide +kernel)) dG (cV rfl (cI (aW.of (sB _ _ er)) rfl ⟨t2,rD,ws,Ll,b,rfl,sB _ _ e2,h2.ao (ay.of sB),sB _ _ Ec,h2'.ao (ay.of sB),ho.2.2.2.2.2,by omega,by omega,ho.2.2.2.2.1,fun H5 s5=>k _ (sB.trans s5)⟩))))
   | some q =>
    obtain ⟨rf,df,rfl,KA,Sf⟩:=hF
    obtain ⟨rf',df',rfl,a4u,Df'⟩:=UK
    obtain ⟨dd,tt,es,Tt,_⟩:=id Sf
    refine (cV rfl (cF (sB _ _ ep) (J.cl 8 (by decide)) (J.na 8 _ (by decide) (by decide +kernel)) (cu (by decide +kernel) (dG)) ⟨rfl,cV rfl (lQ (fun z=>by cases z) ?_)⟩))
    refine (cV rfl (cF (sB _ _ ep) (J.cl 8 (by decide)) (J.na 8 _ (by decide) (by decide +kernel)) (cu (by decide +kernel) (dG)) (cI (aW.of (sB _ _ KA)) rfl ?_)))
    refine (cV rfl (cF (sB _ _ ep) (J.cl 8 (by decide)) (J.na 8 _ (by decide) (by decide +kernel)) (cu (by decide +kernel) (dG)) (cI (aW.of (sB _ _ KA)) rfl (cF (sB _ _ es) T.cl T.nT (dR _ _) ?_))))
    refine (cV rfl (cF (sB _ _ ep) (J.cl 8 (by decide)) (J.na 8 _ (by decide) (by decide +kernel)) (cu (by decide +kernel) (dG)) (cI (aW.of (sB _ _ KA)) rfl (cF (sB _ _ es) T.cl T.nN (dI _ _) ⟨(szl 2),fun q1 hq1=>⟨(szl 2),fun q2 hq2=>?_⟩⟩))))
    have s12:=(new (o:=.tup [V.ref tt,.int q.2.2]) hq1).trans (new (o:=.tup [.int q.1,.ref q1]) hq2)
    have FT:LV (upd (upd H4 q1 (.tup [V.ref tt,.int q.2.2])) q2 (.tup [.int q.1,.ref q1])) (some q) (.ref q2):=⟨q2,q1,rfl,af,tt,new hq2 _ _ af,Tt.same (sB.trans s12)⟩
    generalize upd (upd H4 q1 (.tup [V.ref tt,.int q.2.2])) q2 (.tup [.int q.1,.ref q1])=H5 at s12 FT ⊢
    have sB:=sB.trans s12
    have FT':LV H5 (some q) (.ref rf'):=⟨rf',df',rfl,sB _ _ a4u,Df'.same sB⟩
    refine (cV rfl (cV rfl (cI (aW.of (sB _ _ er)) rfl (.inr (eT (bT (yi FT FT') (by decide)) (cV rfl (qD ?_)))))))
    exact (cV rfl (cF (sB _ _ ep) (J.cl 8 (by decide)) (J.na 8 _ (by decide) (by decide +kernel)) dG (cV rfl (cI (aW.of (sB _ _ er)) rfl ⟨t2,rD,ws,Ll,b,rfl,sB _ _ e2,h2.ao (ay.of sB),sB _ _ Ec,h2'.ao (ay.of sB),ho.2.2.2.2.2,by omega,by omega,ho.2.2.2.2.1,fun H5 s5=>k _ (sB.trans s5)⟩))))
abbrev ly:Stmt:=top 55
theorem jo:aQ ["_law_steps_here","_law_told","_law_k"] ["_law_steps_here","_law_told"] (ak ly):=⟨rfl,rfl,rfl,by decide +kernel,rfl,by decide +kernel,by decide +kernel⟩
theorem Cn {f:Addr} {fd:FuncData} {Y:Cy} {fS:Addr} {n:Nat} (F:dX K "_law_all_fields" "_law_all_fields" ly f fd) (T:Txt K mg Y.z.s) (U:dW K mg Y.z) (J:eW K mg Y fS) (fk:M9 P w K mg base (2*n+6) Y "told" ["self"] (dH Y n)) (o7:Dn P w K mg base (3*n+7) "_law_fields" ["_law_step_here","_law_told"] (kL Y n)):bH P w K mg base dg (3*n+8) f fd ["_law_steps_here","_law_told"] (vR Y n):=by
 refine F.ok jo (fun vs H Q E h=>?_) (fun cdv A outer s H vs Q E hr h=>?_)
 ·obtain ⟨t,r,us,ws,l,rfl,et,hs,er,hw,ho,hd,JJ,hl,k⟩:=h
  rfl
 ·obtain ⟨t,r,us,ws,l,rfl,et,hs,er,hw,ho,hd,JJ,hl,k⟩:=h
  have hu:=bh hr
  rw [show av ly=[_,_,_] from rfl]
  refine ⟨_,(ai (cH (PW.pt (kE (pY (m5 (bA (eV (c:=.ty "tuple") trivial) (by rfl) T.isinstance boot_isinstance (aa (pv 0) (aa (se (v:=.ty "tuple") rfl T.tuple boot_tuple rfl) ah))))) (ja (aN Ck (bA bR (by rfl) T.len PySem.boot_len (aa (pv 0) ah)) (bA bR (by rfl) T.len PySem.boot_len (aa (pv 1) ah)) (aR _))))) (aA (aM jy)) bw)
   (ai (kc PassesOwn.never rfl (fq rfl T.range (aa (bA bR (by rfl) T.len PySem.boot_len (aa (pv 1) ah)) ah)) (aP (i:=2) jo.nd rfl (Or.inl rfl)) (aA (cH (PW.pt (kE (aN (jG 16 (uL hr)) (wc (Y:=Y) (aJ aI (pv 0) (pv 2) (fun _ _=>rfl)) J.cl lJ fk (hr.mono (by first | decide | omega)) aB) (aJ aI (pv 1) (pv 2) (fun _ _=>rfl)) (aR _)) (ja (pY (m5 (au o7.ok (hr.mono (by first | decide | omega)) rfl o7.mm o7.kp o7.b .nil aB (aa (aJ aI (pv 0) (pv 2) (fun _ _=>rfl)) (aa (aJ aI (pv 1) (pv 2) (fun _ _=>rfl)) ah)))))))) (aA (aM jy)) bw)))
   (aA (aM jy)))),?_⟩
  have hp:=dF.mp hs
  have hq:=fY.mp hw
  have nJ:=aD hp
  have OL:=aD hq
  refine (cV rfl ⟨_,_,_,true,rfl,.tup et,rfl,T.kT,cV rfl (fB ?_)⟩)
  refine (cV rfl ⟨t,cV rfl ⟨.inr (aW.of et),cV rfl ⟨r,cV rfl ⟨.inr (aW.of er),rfl,cV rfl (jz (by rw [nJ,OL]) ?_)⟩⟩⟩⟩)
  refine (cV rfl ⟨r,cV rfl ⟨.inr (aW.of er),cV rfl ⟨by omega,by omega,jR (n:=ws.length) (fun i σ H'=>∃k2:Option V,σ=[some (.ref t),some (.ref r),k2]∧aH H H') ⟨none,rfl,aH.refl _⟩ ?_ ?_⟩⟩⟩)
  ·rintro i σ H1 hi ⟨k2,rfl,sm⟩
   have hix:us[i]?=some us[i]:=List.getElem?_eq_getElem (by omega)
   have Kv:ws[i]?=some ws[i]:=List.getElem?_eq_getElem hi
   obtain ⟨c,fK,hx⟩:=bB hp hix
   obtain ⟨c',QA,hv⟩:=bB hq Kv
   rw [fK] at QA
   cases QA
   have oU:=List.mem_of_getElem? fK
   have dd:=lT oU
   have oc:=oN ho oU
   generalize us[i]=x at hix hx
   generalize ws[i]=v at Kv hv
   obtain ⟨p,rfl⟩:=xy hx
   have Qw:=cj.ao (ay.of sm) hx
   refine (cV rfl (cV rfl (cI (aW.of (sm _ _ et)) (bI (by rw [Nat.zero_add];exact hix)) ⟨p,c,rfl,Qw,p,c,rfl,rfl,Qw,by omega,oc,fun v1 H2 s2 P1=>?_⟩)))
   obtain ⟨r1,_,rfl,_⟩:=fJ oc P1
   obtain ⟨rv,_,rfl,_⟩:=fJ oc hv
   have sA:=sm.trans s2
   have hv2:=fE.ao (ay.of sA) hv
   refine (cV rfl (cV rfl (cI (aW.of (sA _ _ er)) (bI (by rw [Nat.zero_add];exact Kv)) (eT (bT (oG (n:=3) oc (by omega) P1 hv2) (by decide)) (cV rfl (fB ?_))))))
   refine (cV rfl (cV rfl (cI (aW.of (sA _ _ et)) (bI (by rw [Nat.zero_add];exact hix)) (cV rfl (cV rfl (cI (aW.of (sA _ _ er)) (bI (by rw [Nat.zero_add];exact Kv)) ⟨p,_,c,rfl,cj.ao (ay.of sA) hx,hv2,oc,by omega,by omega,fun H3 s3=>?_⟩))))))
   exact (cV rfl (fB (cV rfl (sA.trans s3))))
  rintro σ H1 ⟨k2,rfl,sm⟩
  exact k _ sm
abbrev i0:Stmt:=top 56
theorem e8:aQ ["_law_helper_here","_law_told","_law_found","_law_needs","_law_gives"] ["_law_helper_here","_law_told"] (ak i0):=⟨rfl,rfl,rfl,by decide +kernel,rfl,by decide +kernel,by decide +kernel⟩
theorem C7 {f:Addr} {fd:FuncData} {Y:Cy} {fS:Addr} {n:Nat} (F:dX K "_law_helper_right" "_law_helper_right" i0 f fd) (T:Txt K mg Y.z.s) (U:dW K mg Y.z) (J:eW K mg Y fS) (kC:Mt P w K mg base 15 Y.hp "told" ["self"] (rX Y)) (bM:M4 P w K mg base 4 Y.z "told" ["self"] (cZ Y.z 3)) (bX:Dn P w K mg base 17 "_law_all_fields" ["_law_steps_here","_law_told"] (vR Y 3)):bH P w K mg base dg 18 f fd ["_law_helper_here","_law_told"] (iB Y):=by
 refine F.ok e8 (fun vs H Q E h=>?_) (fun cdv A outer s H vs Q E hr h=>?_)
 ·obtain ⟨p,v,h,rfl,hA,hT,ho,k⟩:=h
  rfl
 ·obtain ⟨p,v,h,rfl,hA,hT,ho,k⟩:=h
  have hu:=bh hr
  rw [show av i0=[_,_,_,_,_] from rfl]
  refine ⟨_,(ai (aT (i:=2) e8.nd rfl (Or.inl rfl) (aS (aa (aG (pv 0) rfl) (aa (aG (pv 0) rfl) (aa (aG (pv 0) rfl) (aa (aG (pv 0) rfl) ah))))))
   (ai (cH (PW.pt (kE (aN (jG 16 (uL hr)) (pv 2) (eu kN (pv 1) (dO aj) (dO aj)) (aR _)) (ja (aN (jG 16 (uL hr)) (eE (pv 0) J.ch kC.me kC.ok (hr.mono (by first | decide | omega)) kC.b .nil aB) (pv 1) (aR _))))) (aA (aM jy)) bw)
   (ai (aT (i:=3) e8.nd rfl (Or.inl rfl) (aU aK (by rfl) T.tuple boot_tuple (aa (cK (br ["_law_at","_law_one"] [] [] rfl (by decide +kernel) (by decide +kernel) (by with_unfolding_all rfl) (by exact trivial) (by rfl) rfl (by rfl)) rfl (eX (aG (pv 0) rfl)) (fun _ _ _ _=>(oH (K:=K) (n:=2) rfl rfl (bZ (aP (i:=0) (show List.Nodup (["_law_at","_law_one"]:List Str) by decide +kernel) rfl (Or.inl rfl) (Or.inr rfl)) (bZ (aP (i:=1) (show List.Nodup (["_law_at","_law_one"]:List Str) by decide +kernel) rfl (Or.inl rfl) (Or.inr rfl)) iz)))) (fun _ _ _ _=>cy) (fun _ _ _ _=>(aS (aa (pv 0) (aa (gG (Z:=Y.z) (pv 1) U.cl fQ bM (hr.mono (by first | decide | omega)) aB) ah))))) ah)))
   (ai (aT (i:=4) e8.nd rfl (Or.inl rfl) (aU aK (by rfl) T.tuple boot_tuple (aa (cK (br ["_law_at","_law_one"] [] [] rfl (by decide +kernel) (by decide +kernel) (by with_unfolding_all rfl) (by exact trivial) (by rfl) rfl (by rfl)) rfl (eX (aG (pv 0) rfl)) (fun _ _ _ _=>(oH (K:=K) (n:=2) rfl rfl (bZ (aP (i:=0) (show List.Nodup (["_law_at","_law_one"]:List Str) by decide +kernel) rfl (Or.inl rfl) (Or.inr rfl)) (bZ (aP (i:=1) (show List.Nodup (["_law_at","_law_one"]:List Str) by decide +kernel) rfl (Or.inl rfl) (Or.inr rfl)) iz)))) (fun _ _ _ _=>cy) (fun _ _ _ _=>(aS (aa (pv 0) (aa (gG (Z:=Y.z) (pv 1) U.cl fQ bM (hr.mono (by first | decide | omega)) aB) ah))))) ah)))
   (aA (aM (lH (eF (lI 16 (uL hr)) (aS (aa (pv 3) (aa (pv 4) ah))) (eu kN (pv 1) (dO aj) (dO aj)) (aR _)) (lG (au bX.ok (hr.mono (by first | decide | omega)) rfl bX.mm bX.kp bX.b .nil aB (aa (aG (pv 0) rfl) (aa (aJ aI (pv 1) aj (fun _ _=>rfl)) ah))))))))))),?_⟩
  obtain ⟨p',dx,t1,t2,v1,v2,t3,us,e0,ep,e1,e2,h1,h2,e3,l3,h3⟩:=id hA
  cases e0
  obtain ⟨r,t1',rD,v1',v2',t3',us',rfl,er,Od,Ec,yI,h2',KG,h3'⟩:=id hT
  refine (cV rfl (cF ep J.ch (J.nh _ (by decide +kernel)) (by unfold wX;exact cu (by decide +kernel) (cu (by decide +kernel) (cu (by decide +kernel) (cu (by decide +kernel) (cu (by decide +kernel) (cu (by decide +kernel) (dG))))))) ?_))
  refine (cV rfl (cF ep J.ch (J.nh _ (by decide +kernel)) (by unfold wX;exact cu (by decide +kernel) (cu (by decide +kernel) (cu (by decide +kernel) (cu (by decide +kernel) (cu (by decide +kernel) (dG)))))) ?_))
  refine (cV rfl (cF ep J.ch (J.nh _ (by decide +kernel)) (by unfold wX;exact cu (by decide +kernel) (cu (by decide +kernel) (cu (by decide +kernel) (cu (by decide +kernel) (dG))))) ?_))
  refine (cV rfl (cF ep J.ch (J.nh _ (by decide +kernel)) (by unfold wX;exact cu (by decide +kernel) (cu (by decide +kernel) (cu (by decide +kernel) (dG)))) ⟨(szl 4),fun q1 hq1=>?_⟩))
  have qY:=new (o:=.tup [V.int h.at_,.str h.nm,.ref t1,.ref t2]) hq1
  have gB:upd H q1 (.tup [V.int h.at_,.str h.nm,.ref t1,.ref t2]) q1=some (.tup [V.int h.at_,.str h.nm,.ref t1,.ref t2]):=af
  have sA:=qY
  clear qY
  generalize upd H q1 (.tup [V.int h.at_,.str h.nm,.ref t1,.ref t2])=G1 at sA gB ⊢
  refine (cV rfl (cV rfl (cV rfl (cV rfl ⟨r,cV rfl ⟨aW.of (sA _ _ er),(fun z=>absurd z.1 (show ¬(1:Nat)=0 by decide)),fun q2 hq2=>?_⟩⟩))))
  rw [show kD _ (some 1) (some 5)=[V.int h.at_,.str h.nm,.ref t1',.ref rD] from rfl]
  have Dh:=new (o:=.tup [V.int h.at_,.str h.nm,.ref t1',.ref rD]) hq2
  have mz:upd G1 q2 (.tup [V.int h.at_,.str h.nm,.ref t1',.ref rD]) q2=some (.tup [V.int h.at_,.str h.nm,.ref t1',.ref rD]):=af
  have gB:=Dh _ _ gB
  have sA:=sA.trans Dh
  clear Dh
  generalize upd G1 q2 (.tup [V.int h.at_,.str h.nm,.ref t1',.ref rD])=G2 at sA gB mz ⊢
  refine eT (cA (n:=16) gB mz (.cons (cY rfl) (.cons (cY rfl) (.cons (cA (sA _ _ e1) (sA _ _ Od) (iU _)) (.cons (cA (sA _ _ e2) (sA _ _ Ec) (iU _)) .nil))))) (cV rfl (fB ?_))
  refine (cV rfl ⟨p,dx,cV rfl ⟨sA _ _ ep,(by unfold wX;exact iE (by decide +kernel) (iE (by decide +kernel) (iE (by decide +kernel) (iE (by decide +kernel) (iE (by decide +kernel) (iE (by decide +kernel) (iE (by decide +kernel) (rfl)))))))),p,h,rfl,hA.ao (ay.of sA),ho,fun vT H7 s7 T7=>?_⟩⟩)
  have gB:=s7 _ _ gB
  have mz:=s7 _ _ mz
  have sA:=sA.trans s7
  obtain ⟨rT,_,_,_,_,_,_,rfl,_⟩:=id T7
  refine (cV rfl (eT (bT (yc ho T7 (hT.ao (ay.of sA))) (by decide)) (cV rfl (fB ?_))))
  obtain ⟨tk2,pN,rfl,QY,lk2,pk2⟩:=h1
  have a0E:=aD pk2
  refine (cV rfl (cF (sA _ _ ep) J.ch (J.nh _ (by decide +kernel)) (by unfold wX;exact cu (by decide +kernel) (cu (by decide +kernel) (dG))) ⟨tk2,rfl,⟨pN,aW.of (sA _ _ QY)⟩,cT (xs:=pN) (fun i ys H'=>aH H7 H'∧Paired (sH H') ys (h.nd.take i)) ⟨aH.refl _,.nil⟩ (fun i ys H' _ q=>aW.of (q.1 _ _ (sA _ _ QY))) ?_ ?_⟩))
  ·rintro i x ys H' hix ⟨sm,py⟩
   obtain ⟨c2,fK,r2,w2,rfl,KC,hc2⟩:=bB pk2 hix
   have oU:=List.mem_of_getElem? fK
   have wR:=(List.getElem?_eq_some_iff.mp fK).1
   have ll:=ho.nl
   have mH:ys.length≤i:=by
    rw [aD py,List.length_take]
    omega
   have sB:=sA.trans sm
   have yd:=hc2.ao (ay.of sB)
   obtain ⟨pu,rfl⟩:=eU hc2
   refine ⟨r2,cV rfl ⟨aW.of (sB _ _ KC),rfl,_,cV rfl ⟨_,cV rfl ⟨rfl,Ext.two,gk (cV rfl (cV rfl ⟨pu,c2.2,rfl,yd,pu,c2.2,rfl,rfl,yd,(ho.nd c2 oU).2,fun v H3 s3 d3=>⟨(szl 2),fun q hq=>⟨line _ (by omega),(sm.trans s3).trans (new hq),?_⟩⟩⟩))⟩⟩⟩⟩
   rw [take_snoc fK]
   exact bx (sH.all (ay.of (s3.trans (new hq))) py) ⟨q,v,rfl,af,d3.ao (ay.of (new hq))⟩
  rintro Mh K2 ⟨Tr,Fj⟩ TM a3I
  rw [a0E,List.take_length] at Fj
  refine ⟨TM,cV rfl (.inl ⟨bS.of af,fun qa hqa=>?_⟩)⟩
  have s9:aH K2 (upd (upd K2 TM (.lst Mh)) qa (.tup Mh)):=aH.new (new a3I) hqa
  have Ju:upd (upd K2 TM (.lst Mh)) qa (.tup Mh) qa=some (.tup Mh):=af
  have Fj:=sH.all (ay.of s9) Fj
  have sN:=Tr.trans s9
  clear s9
  have gB:=sN _ _ gB
  have mz:=sN _ _ mz
  have sA:=sA.trans sN
  generalize upd (upd K2 TM (.lst Mh)) qa (.tup Mh)=M2 at sA sN Ju Fj gB mz ⊢
  obtain ⟨tk3,Th,rfl,QX,lk3,pk3⟩:=h2
  have a0D:=aD pk3
  refine (cV rfl (cF (sA _ _ ep) J.ch (J.nh _ (by decide +kernel)) (by unfold wX;exact cu (by decide +kernel) (dG)) ⟨tk3,rfl,⟨Th,aW.of (sA _ _ QX)⟩,cT (xs:=Th) (fun i ys H'=>aH M2 H'∧Paired (sH H') ys (h.gv.take i)) ⟨aH.refl _,.nil⟩ (fun i ys H' _ q=>aW.of (q.1 _ _ (sA _ _ QX))) ?_ ?_⟩))
  ·rintro i x ys H' hix ⟨sm,py⟩
   obtain ⟨c2,fK,r2,w2,rfl,KC,hc2⟩:=bB pk3 hix
   have oU:=List.mem_of_getElem? fK
   have wR:=(List.getElem?_eq_some_iff.mp fK).1
   have ll:=ho.gl
   have mH:ys.length≤i:=by
    rw [aD py,List.length_take]
    omega
   have sB:=sA.trans sm
   have yd:=hc2.ao (ay.of sB)
   obtain ⟨pu,rfl⟩:=eU hc2
   refine ⟨r2,cV rfl ⟨aW.of (sB _ _ KC),rfl,_,cV rfl ⟨_,cV rfl ⟨rfl,Ext.two,gk (cV rfl (cV rfl ⟨pu,c2.2,rfl,yd,pu,c2.2,rfl,rfl,yd,(ho.gv c2 oU).2,fun v H3 s3 d3=>⟨(szl 2),fun q hq=>⟨line _ (by omega),(sm.trans s3).trans (new hq),?_⟩⟩⟩))⟩⟩⟩⟩
   rw [take_snoc fK]
   exact bx (sH.all (ay.of (s3.trans (new hq))) py) ⟨q,v,rfl,af,d3.ao (ay.of (new hq))⟩
  rintro Mg K3 ⟨sm3,Fi⟩ TL a3H
  rw [a0D,List.take_length] at Fi
  refine ⟨TL,cV rfl (.inl ⟨bS.of af,fun qb LG=>?_⟩)⟩
  have s9:aH K3 (upd (upd K3 TL (.lst Mg)) qb (.tup Mg)):=aH.new (new a3H) LG
  have LX:upd (upd K3 TL (.lst Mg)) qb (.tup Mg) qb=some (.tup Mg):=af
  have Fi:=sH.all (ay.of s9) Fi
  have sN:=sm3.trans s9
  clear s9
  have gB:=sN _ _ gB
  have mz:=sN _ _ mz
  have Ju:=sN _ _ Ju
  have sA:=sA.trans sN
  generalize upd (upd K3 TL (.lst Mg)) qb (.tup Mg)=M3 at sA sN LX Fi gB mz Ju ⊢
  refine (cV rfl (cV rfl ⟨(szl 2),fun q5 hq5=>?_⟩))
  have Fj:=sH.all (ay.of (new (o:=.tup [V.ref qa,.ref qb]) hq5)) (sH.all (ay.of sN) Fj)
  have Fi:=sH.all (ay.of (new (o:=.tup [V.ref qa,.ref qb]) hq5)) Fi
  clear sN
  have OJ:=new (o:=.tup [V.ref qa,.ref qb]) hq5
  have SS:upd M3 q5 (.tup [V.ref qa,.ref qb]) q5=some (.tup [V.ref qa,.ref qb]):=af
  have gB:=OJ _ _ gB
  have mz:=OJ _ _ mz
  have Ju:=OJ _ _ Ju
  have LX:=OJ _ _ LX
  have sA:=sA.trans OJ
  clear OJ
  generalize upd M3 q5 (.tup [V.ref qa,.ref qb])=G5 at sA gB mz Ju LX Fj Fi SS ⊢
  refine (cV rfl (cV rfl (cV rfl ⟨r,cV rfl ⟨aW.of (sA _ _ er),(fun z=>absurd z.1 (show ¬(5:Nat)=0 by decide)),fun q6 OO=>?_⟩⟩)))
  rw [show kD _ (some 5) (some 7)=[v1',v2'] from rfl]
  have Fj:=sH.all (ay.of (new (o:=.tup [v1',v2']) OO)) Fj
  have Fi:=sH.all (ay.of (new (o:=.tup [v1',v2']) OO)) Fi
  have Nj:=new (o:=.tup [v1',v2']) OO
  have Eq6:upd G5 q6 (.tup [v1',v2']) q6=some (.tup [v1',v2']):=af
  have gB:=Nj _ _ gB
  have mz:=Nj _ _ mz
  have Ju:=Nj _ _ Ju
  have LX:=Nj _ _ LX
  have SS:=Nj _ _ SS
  have sA:=sA.trans Nj
  clear Nj
  generalize upd G5 q6 (.tup [v1',v2'])=G6 at sA gB mz Ju LX Fj Fi SS Eq6 ⊢
  have PA:DP G6 h.nd (.ref qa):=⟨qa,_,rfl,Ju,Fj⟩
  have PB:DP G6 h.gv (.ref qb):=⟨qb,_,rfl,LX,Fi⟩
  refine eT (cA (n:=16) SS Eq6 (.cons (bT (lF (fun q hq=>(ho.nd q hq).2) PA (yI.ao (ay.of sA))) (by decide)) (.cons (bT (lF (fun q hq=>(ho.gv q hq).2) PB (h2'.ao (ay.of sA))) (by decide)) .nil))) (cV rfl (qD ?_))
  exact (cV rfl (cF (sA _ _ ep) J.ch (J.nh _ (by decide +kernel)) (by unfold wX;exact dG) (cV rfl (cI (aW.of (sA _ _ er)) rfl ⟨t3,t3',us,us',h.st,rfl,sA _ _ e3,h3.ao (ay.of sA),sA _ _ KG,h3'.ao (ay.of sA),ho.st,ho.dp,ho.dp,ho.sl,fun H9 s9=>k _ (sA.trans s9)⟩))))
abbrev jF:Stmt:=top 57
theorem gu:aQ ["_law_script","_law_draw","_law_told","_law_helpers","_law_program_here","_law_first","_law_steps_here","_law_condition_here","_law_block","_law_loop","_law_begin","_law_turn","_law_due","_law_k","_law_doubled"] ["_law_script"] (ak jF):=⟨rfl,rfl,rfl,by decide +kernel,rfl,by decide +kernel,by decide +kernel⟩
abbrev sW (i:Nat):Stmt:=(av jF).getD i (.Pass ⟨0,0,0,0⟩)
theorem a0J {f:Addr} {Y:Cy} {fS:Addr} (T:Txt K mg Y.z.s) (U:dW K mg Y.z) (J:eW K mg Y fS) (N:BF K Y) (cR:Dn P w K mg base 2 "_law_cell_at" ["_law_script","_law_k"] (kM K)) (dP:Dn P w K mg base 15 "_law_program" ["_law_draw","_law_many"] jn) (bO:Dn P w K mg base 13 "_law_helper_placed" ["_law_helper_here","_law_draw"] qM) (bJ:Dn P w K mg base 17 "_law_helper_made" ["_law_told"] (qO Y)) (iP:Mr P w K mg base 1 Y.pg ["self","helpers"] (qN Y)) (aV:Dn P w K mg base 16 "_law_steps_made" ["_law_steps_here"] (jE Y 3)) (az:Dn P w K mg base 5 "_law_condition" ["_law_draw","_law_things","_law_deep"] (cU 2)) (aF:Dn P w K mg base 8 "_law_condition_made" ["_law_told"] (fP Y.z 3)) (gO:Mr P w K mg base 2 Y.ch ["self","at","condition","then","other"] (mF Y)) (gK:Mr P w K mg base 2 Y.rp ["self","at","condition","keeps","falls","body"] (mD Y)) (gM:Mr P w K mg base 2 Y.cm ["self","at","condition"] (mE Y 5)) (iO:Mt P w K mg base 17 Y.pg "told" ["self"] (jl Y)) (fk:M9 P w K mg base 14 Y "told" ["self"] (dH Y 4)) (bM:M4 P w K mg base 4 Y.z "told" ["self"] (cZ Y.z 3)) (bV:Dn P w K mg base 18 "_law_helper_right" ["_law_helper_here","_law_told"] (iB Y)) (dQ:Mt P w K mg base 1 Y.pg "named" ["self","name"] (jm Y)) {cdv:Value} {A:Around} {outer:List Env} {s:Shared} {H0:Hp} {E:XK} (hr:dD 19 (A.deeper (envOfC "law" (ak jF) s.heap.objs.size f cdv))) :
  ∃t,PS (gP dg P w K mg base ["_law_script","_law_draw","_law_told","_law_helpers","_law_program_here","_law_first","_law_steps_here","_law_condition_here","_law_block","_law_loop","_law_begin","_law_turn","_law_due","_law_k","_law_doubled"] "law" (ak jF) f cdv A outer s H0 E).qc (sW 13) t∧∀(D:Ends) (x0 x1 x3 x5 x6:Option V) (tt pg pc pb pl:Addr) (us ws:List V) (hs:List Hl) (c:Cd) (h0:Hl) (u0:V) (b:Int) (nP nO oQ wO:Option V) (G:Hp),WL Y G tt pg pc pb pl us ws hs c h0 u0→(∀(G':Hp) (nP nO:Option V),aH G G'→D.nx [x0,x1,some (.ref tt),x3,some (.ref pg),x5,x6,some (.ref pc),some (.ref pb),some (.ref pl),some (.int b),nP,nO,oQ,wO] G')→t D [x0,x1,some (.ref tt),x3,some (.ref pg),x5,x6,some (.ref pc),some (.ref pb),some (.ref pl),some (.int b),nP,nO,oQ,wO] G:=by
 have hu:=bh hr
 refine ⟨_,(kc PassesOwn.never rfl (gp (cP (aa (pv 10) (aa (bN iK (bN gx (pv 10) aj) aj) (aa (bN iK (bN gx (pv 10) aj) aj) ah))))) (aP (i:=11) gu.nd rfl (Or.inl rfl)) (ai (cH (PW.pt (iJ (aN cS (pv 11) aj (aR _)) (gF (PW.pt (kE (pY (m5 (bA (eV (c:=.ty "tuple") trivial) (by rfl) T.isinstance boot_isinstance (aa (eE (pv 4) J.cp iO.me iO.ok (hr.mono (by first | decide | omega)) iO.b .nil aB) (aa (se (v:=.ty "tuple") rfl T.tuple boot_tuple rfl) ah))))) (ja (aN (jG 18 (uL hr)) (eE (pv 4) J.cp iO.me iO.ok (hr.mono (by first | decide | omega)) iO.b .nil aB) (pv 2) (aR _)))))))) (aA (aM jy)) bw)
   (ai (cH (PW.pt (iJ (aN cS (pv 11) aj (aR _)) (gF (aN (jG 18 (uL hr)) (wc (Y:=Y) (pv 8) J.cl lJ fk (hr.mono (by first | decide | omega)) aB) (aS (aa bf (aa aj (aa (gG (Z:=Y.z) (pv 7) U.cl fQ bM (hr.mono (by first | decide | omega)) aB) (aa (aJ aI (aJ aI (pv 2) aj (fun _ _=>rfl)) aj (fun _ _=>rfl)) (aa (aJ aI (aJ aI (pv 2) aj (fun _ _=>rfl)) aj (fun _ _=>rfl)) ah)))))) (aR _))))) (aA (aM jy)) bw)
   (ai (aT (i:=12) gu.nd rfl (Or.inl rfl) (aS (aa bf (aa aj (aa (gG (Z:=Y.z) (pv 7) U.cl fQ bM (hr.mono (by first | decide | omega)) aB) (aa (aS (aa (aS (aa aj (aa (gG (Z:=Y.z) (pv 7) U.cl fQ bM (hr.mono (by first | decide | omega)) aB) ah))) ah)) (aa gZ (aa (aJ aI (aJ aI (pv 2) aj (fun _ _=>rfl)) aj (fun _ _=>rfl)) ah))))))))
   (aA (cH (PW.pt (iJ (aN cS (pv 11) aj (aR _)) (gF (aN (jG 18 (uL hr)) (wc (Y:=Y) (pv 9) J.cl lJ fk (hr.mono (by first | decide | omega)) aB) (pv 12) (aR _))))) (aA (aM jy)) bw)))))),fun D x0 x1 x3 x5 x6 tt pg pc pb pl us ws hs c h0 u0 b nP nO oQ wO G W nx=>?_⟩
 refine (cV rfl (cV rfl ⟨_,cV rfl ⟨rfl,_,cV rfl ⟨rfl,(show (0:Int)<3 by decide),cV rfl ⟨_,cV rfl ⟨rfl,_,cV rfl ⟨rfl,(show (0:Int)<3 by decide),(szl 3),fun lz hlz=>⟨lz,rfl,⟨_,bS.of af⟩,?_⟩⟩⟩⟩⟩⟩⟩))
 have sz:=new (o:=.lst [.int b,.int ((b+1) % 3),.int ((b+2) % 3)]) hlz
 have W:=W.same sz
 have elz:upd G lz (.lst [.int b,.int ((b+1) % 3),.int ((b+2) % 3)]) lz=some (.lst [.int b,.int ((b+1) % 3),.int ((b+2) % 3)]):=af
 have nx:=fun G9 nP nO (z:aH (upd G lz (.lst [.int b,.int ((b+1) % 3),.int ((b+2) % 3)])) G9)=>nx G9 nP nO (sz.trans z)
 generalize upd G lz (.lst [.int b,.int ((b+1) % 3),.int ((b+2) % 3)])=G1 at W elz nx ⊢
 refine yh (xs:=[.int b,.int ((b+1) % 3),.int ((b+2) % 3)]) (fun i σ H'=>∃nP nO:Option V,σ=[x0,x1,some (.ref tt),x3,some (.ref pg),x5,x6,some (.ref pc),some (.ref pb),some (.ref pl),some (.int b),nP,nO,oQ,wO]∧aH G1 H') ⟨_,cV rfl (aH.refl _)⟩ (fun i σ H' _ q=>by obtain ⟨_,_,_,q⟩:=q;exact bS.of (q _ _ elz)) ?_ ?_
 rotate_left
 ·rintro σ H' ⟨nP,nO,rfl,sm⟩
  exact nx _ _ _ sm
 rintro i x σ H1 hi ⟨nP,nO,rfl,sm⟩
 obtain ⟨xv,rfl⟩:∃xv:Int,x=.int xv:=by
  have:=List.mem_of_getElem? hi
  simp only [List.mem_cons,List.mem_nil_iff,or_false] at this
  rcases this with e | e | e<;>exact ⟨_,e⟩
 have W:=W.same sm
 by_cases hx:xv=0
 ·refine (cV rfl ⟨rfl,cV rfl (cW (by rw [hx]) ?_)⟩)
  obtain ⟨LL,tp,Ea,_⟩:=id W.pg
  refine (cV rfl ⟨pg,LL,cV rfl ⟨Ea,(iE (by decide +kernel) rfl),pg,us,hs,rfl,W.pg,W.ok,fun r1 ws1 H2 s2 rA P1=>?_⟩⟩)
  refine ⟨_,_,_,true,rfl,.tup rA,rfl,T.kT,cV rfl (fB ?_)⟩
  have W:=W.same s2
  refine (cV rfl ⟨pg,LL,cV rfl ⟨s2 _ _ Ea,(iE (by decide +kernel) rfl),pg,us,hs,rfl,W.pg,W.ok,fun r2 Lk H3 s3 KC P2=>?_⟩⟩)
  have W:=W.same s3
  refine (cV rfl (eT (cA (n:=18) KC W.et (iD (fun u v a m h g=>bT (yc (W.ok a m) h g) (by decide)) P2 W.pt)) (cV rfl (fB ?_))))
  have sm:=(sm.trans s2).trans s3
  refine (cV rfl ⟨rfl,cV rfl (bC (fun e=>absurd (hx.symm.trans (V.int.inj e)) (by decide)) (fB ?_))⟩)
  refine (cV rfl ⟨pc,c,rfl,W.cc,pc,c,rfl,rfl,W.cc,W.cg.2,fun va H4 s4 D4=>?_⟩)
  have W:=W.same s4
  refine (cV rfl ⟨pc,c,rfl,W.cc,pc,c,rfl,rfl,W.cc,W.cg.2,fun vd H5 s5 D5=>⟨(szl 2),fun q2 hq2=>⟨(szl 1),fun q3 yG=>?_⟩⟩⟩)
  have W:=W.same s5
  have n2:=new (o:=.tup [.int 9,vd]) hq2
  have n3:=new (o:=.tup [.ref q2]) yG
  have W:=(W.same n2).same n3
  obtain ⟨r0,t1,t2,v1,v2,t3,xs,w0,lS,e3,h3,D7,hm0⟩:=W.first
  refine (cV rfl (cI (aW.of W.et) (bI (j:=0) w0) (cI (aW.of lS) rfl ⟨(szl 6),fun q4 Dv=>?_⟩)))
  have n4:=new (o:=.tup [.str "repeat",.int 8,va,.ref q3,.dM,.ref t3]) Dv
  have Bl:=n3.trans n4
  have wJ:=n2.trans Bl
  have PR:fE (upd (upd (upd H5 q2 (.tup [.int 9,vd])) q3 (.tup [.ref q2])) q4 (.tup [.str "repeat",.int 8,va,.ref q3,.dM,.ref t3])) (.rep 8 c [(9,c)] none h0.st) (.ref q4):=by unfold fE;exact ⟨q4,va,.ref q3,.dM,t3,xs,rfl,af,D4.ao (ay.of (s5.trans wJ)),⟨q3,[.ref q2],rfl,n4 _ _ af,.cons ⟨q2,vd,rfl,Bl _ _ af,D5.ao (ay.of wJ)⟩ .nil⟩,rfl,n4 _ _ e3,h3.ao (ay.of n4)⟩
  have W:=W.same n4
  have sm:=((sm.trans s4).trans s5).trans wJ
  clear n2 n3 n4 Bl wJ lS e3 h3 D7 w0 hm0 D4 D5
  generalize upd (upd (upd H5 q2 (.tup [.int 9,vd])) q3 (.tup [.ref q2])) q4 (.tup [.str "repeat",.int 8,va,.ref q3,.dM,.ref t3])=H6 at W sm PR ⊢
  refine (cV rfl ⟨rfl,cV rfl (bC (fun e=>absurd (hx.symm.trans (V.int.inj e)) (by decide)) (fB ⟨_,cV rfl sm⟩))⟩)
 have n0:=hx
 by_cases hx:xv=1
 ·refine (cV rfl ⟨rfl,cV rfl (bC (fun e=>absurd (hx.symm.trans (V.int.inj e)) (by decide)) (fB ?_))⟩)
  refine (cV rfl ⟨rfl,cV rfl (cW (by rw [hx]) ?_)⟩)
  refine (cV rfl ⟨pb,cV rfl ⟨W.sb,pb,cV rfl ⟨rfl,W.sb,W.uu.2,W.uu.1,fun vb H2 s2 P1=>?_⟩⟩⟩)
  have W:=W.same s2
  refine (cV rfl ⟨pc,c,rfl,W.cc,pc,c,rfl,rfl,W.cc,W.cg.2,fun vc H3 s3 D3=>?_⟩)
  have W:=W.same s3
  obtain ⟨r0,t1,t2,v1,v2,t3,xs,w0,lS,e3,h3,D7,hm0⟩:=W.first
  refine (cV rfl (cI (aW.of W.et) (bI (j:=0) w0) (cI (aW.of lS) rfl ?_)))
  refine (cV rfl (cI (aW.of W.et) (bI (j:=0) w0) (cI (aW.of lS) rfl ⟨(szl 5),fun q1 hq1=>?_⟩)))
  have nq:=new (o:=.tup [.str "choose",.int 7,vc,.ref t3,.ref t3]) hq1
  have P9:fE (upd H3 q1 (.tup [.str "choose",.int 7,vc,.ref t3,.ref t3])) (.jD 7 c h0.st h0.st) (.ref q1):=by unfold fE;exact ⟨q1,vc,t3,t3,xs,xs,rfl,af,D3.ao (ay.of nq),nq _ _ e3,h3.ao (ay.of nq),nq _ _ e3,h3.ao (ay.of nq)⟩
  obtain ⟨rb,_,rfl,_⟩:=fJ W.uu.1 P1
  refine eT (bT (oG (n:=4) W.uu.1 W.uu.2 (fE.ao (ay.of (s3.trans nq)) P1) P9) (by decide)) (cV rfl (fB ?_))
  have W:=W.same nq
  have sm:=((sm.trans s2).trans s3).trans nq
  clear nq P9 P1 lS e3 h3 D7 w0 hm0 D3
  generalize upd H3 q1 (.tup [.str "choose",.int 7,vc,.ref t3,.ref t3])=H3 at W sm ⊢
  refine (cV rfl ⟨pc,c,rfl,W.cc,pc,c,rfl,rfl,W.cc,W.cg.2,fun va H4 s4 D4=>?_⟩)
  have W:=W.same s4
  refine (cV rfl ⟨pc,c,rfl,W.cc,pc,c,rfl,rfl,W.cc,W.cg.2,fun vd H5 s5 D5=>⟨(szl 2),fun q2 hq2=>⟨(szl 1),fun q3 yG=>?_⟩⟩⟩)
  have W:=W.same s5
  have n2:=new (o:=.tup [.int 9,vd]) hq2
  have n3:=new (o:=.tup [.ref q2]) yG
  have W:=(W.same n2).same n3
  obtain ⟨r0,t1,t2,v1,v2,t3,xs,w0,lS,e3,h3,D7,hm0⟩:=W.first
  refine (cV rfl (cI (aW.of W.et) (bI (j:=0) w0) (cI (aW.of lS) rfl ⟨(szl 6),fun q4 Dv=>?_⟩)))
  have n4:=new (o:=.tup [.str "repeat",.int 8,va,.ref q3,.dM,.ref t3]) Dv
  have Bl:=n3.trans n4
  have wJ:=n2.trans Bl
  have PR:fE (upd (upd (upd H5 q2 (.tup [.int 9,vd])) q3 (.tup [.ref q2])) q4 (.tup [.str "repeat",.int 8,va,.ref q3,.dM,.ref t3])) (.rep 8 c [(9,c)] none h0.st) (.ref q4):=by unfold fE;exact ⟨q4,va,.ref q3,.dM,t3,xs,rfl,af,D4.ao (ay.of (s5.trans wJ)),⟨q3,[.ref q2],rfl,n4 _ _ af,.cons ⟨q2,vd,rfl,Bl _ _ af,D5.ao (ay.of wJ)⟩ .nil⟩,rfl,n4 _ _ e3,h3.ao (ay.of n4)⟩
  have W:=W.same n4
  have sm:=((sm.trans s4).trans s5).trans wJ
  clear n2 n3 n4 Bl wJ lS e3 h3 D7 w0 hm0 D4 D5
  generalize upd (upd (upd H5 q2 (.tup [.int 9,vd])) q3 (.tup [.ref q2])) q4 (.tup [.str "repeat",.int 8,va,.ref q3,.dM,.ref t3])=H6 at W sm PR ⊢
  refine (cV rfl ⟨rfl,cV rfl (bC (fun e=>absurd (hx.symm.trans (V.int.inj e)) (by decide)) (fB ⟨_,cV rfl sm⟩))⟩)
 have n1:=hx
 by_cases hx:xv=2
 ·refine (cV rfl ⟨rfl,cV rfl (bC (fun e=>absurd (hx.symm.trans (V.int.inj e)) (by decide)) (fB ?_))⟩)
  refine (cV rfl ⟨rfl,cV rfl (bC (fun e=>absurd (hx.symm.trans (V.int.inj e)) (by decide)) (fB ?_))⟩)
  refine (cV rfl ⟨pc,c,rfl,W.cc,pc,c,rfl,rfl,W.cc,W.cg.2,fun va H4 s4 D4=>?_⟩)
  have W:=W.same s4
  refine (cV rfl ⟨pc,c,rfl,W.cc,pc,c,rfl,rfl,W.cc,W.cg.2,fun vd H5 s5 D5=>⟨(szl 2),fun q2 hq2=>⟨(szl 1),fun q3 yG=>?_⟩⟩⟩)
  have W:=W.same s5
  have n2:=new (o:=.tup [.int 9,vd]) hq2
  have n3:=new (o:=.tup [.ref q2]) yG
  have W:=(W.same n2).same n3
  obtain ⟨r0,t1,t2,v1,v2,t3,xs,w0,lS,e3,h3,D7,hm0⟩:=W.first
  refine (cV rfl (cI (aW.of W.et) (bI (j:=0) w0) (cI (aW.of lS) rfl ⟨(szl 6),fun q4 Dv=>?_⟩)))
  have n4:=new (o:=.tup [.str "repeat",.int 8,va,.ref q3,.dM,.ref t3]) Dv
  have Bl:=n3.trans n4
  have wJ:=n2.trans Bl
  have PR:fE (upd (upd (upd H5 q2 (.tup [.int 9,vd])) q3 (.tup [.ref q2])) q4 (.tup [.str "repeat",.int 8,va,.ref q3,.dM,.ref t3])) (.rep 8 c [(9,c)] none h0.st) (.ref q4):=by unfold fE;exact ⟨q4,va,.ref q3,.dM,t3,xs,rfl,af,D4.ao (ay.of (s5.trans wJ)),⟨q3,[.ref q2],rfl,n4 _ _ af,.cons ⟨q2,vd,rfl,Bl _ _ af,D5.ao (ay.of wJ)⟩ .nil⟩,rfl,n4 _ _ e3,h3.ao (ay.of n4)⟩
  have W:=W.same n4
  have sm:=((sm.trans s4).trans s5).trans wJ
  clear n2 n3 n4 Bl wJ lS e3 h3 D7 w0 hm0 D4 D5
  generalize upd (upd (upd H5 q2 (.tup [.int 9,vd])) q3 (.tup [.ref q2])) q4 (.tup [.str "repeat",.int 8,va,.ref q3,.dM,.ref t3])=H6 at W sm PR ⊢
  refine (cV rfl ⟨rfl,cV rfl (cW (by rw [hx]) ?_)⟩)
  refine (cV rfl ⟨pl,cV rfl ⟨W.sl,pl,cV rfl ⟨rfl,W.sl,W.tR.2,W.tR.1,fun vl H7 s7 P7=>?_⟩⟩⟩)
  obtain ⟨rl,_,rfl,_⟩:=fJ W.tR.1 P7
  refine (cV rfl (eT (bT (oG (n:=4) W.tR.1 W.tR.2 P7 (fE.ao (ay.of s7) PR)) (by decide)) (cV rfl (fB ?_))))
  exact ⟨_,cV rfl (sm.trans s7)⟩
 have n2:=hx
 refine (cV rfl ⟨rfl,cV rfl (bC (fun e=>n0 (V.int.inj e)) (fB ?_))⟩)
 refine (cV rfl ⟨rfl,cV rfl (bC (fun e=>n1 (V.int.inj e)) (fB ?_))⟩)
 refine (cV rfl ⟨pc,c,rfl,W.cc,pc,c,rfl,rfl,W.cc,W.cg.2,fun va H4 s4 D4=>?_⟩)
 have W:=W.same s4
 refine (cV rfl ⟨pc,c,rfl,W.cc,pc,c,rfl,rfl,W.cc,W.cg.2,fun vd H5 s5 D5=>⟨(szl 2),fun q2 hq2=>⟨(szl 1),fun q3 yG=>?_⟩⟩⟩)
 have W:=W.same s5
 have n2:=new (o:=.tup [.int 9,vd]) hq2
 have n3:=new (o:=.tup [.ref q2]) yG
 have W:=(W.same n2).same n3
 obtain ⟨r0,t1,t2,v1,v2,t3,xs,w0,lS,e3,h3,D7,hm0⟩:=W.first
 refine (cV rfl (cI (aW.of W.et) (bI (j:=0) w0) (cI (aW.of lS) rfl ⟨(szl 6),fun q4 Dv=>?_⟩)))
 have n4:=new (o:=.tup [.str "repeat",.int 8,va,.ref q3,.dM,.ref t3]) Dv
 have Bl:=n3.trans n4
 have wJ:=n2.trans Bl
 have PR:fE (upd (upd (upd H5 q2 (.tup [.int 9,vd])) q3 (.tup [.ref q2])) q4 (.tup [.str "repeat",.int 8,va,.ref q3,.dM,.ref t3])) (.rep 8 c [(9,c)] none h0.st) (.ref q4):=by unfold fE;exact ⟨q4,va,.ref q3,.dM,t3,xs,rfl,af,D4.ao (ay.of (s5.trans wJ)),⟨q3,[.ref q2],rfl,n4 _ _ af,.cons ⟨q2,vd,rfl,Bl _ _ af,D5.ao (ay.of wJ)⟩ .nil⟩,rfl,n4 _ _ e3,h3.ao (ay.of n4)⟩
 have W:=W.same n4
 have sm:=((sm.trans s4).trans s5).trans wJ
 clear n2 n3 n4 Bl wJ lS e3 h3 D7 w0 hm0 D4 D5
 generalize upd (upd (upd H5 q2 (.tup [.int 9,vd])) q3 (.tup [.ref q2])) q4 (.tup [.str "repeat",.int 8,va,.ref q3,.dM,.ref t3])=H6 at W sm PR ⊢
 refine (cV rfl ⟨rfl,cV rfl (bC (fun e=>n2 (V.int.inj e)) (fB ⟨_,cV rfl sm⟩))⟩)
theorem a0I {f:Addr} {Y:Cy} {fS:Addr} (T:Txt K mg Y.z.s) (U:dW K mg Y.z) (J:eW K mg Y fS) (N:BF K Y) (cR:Dn P w K mg base 2 "_law_cell_at" ["_law_script","_law_k"] (kM K)) (dP:Dn P w K mg base 15 "_law_program" ["_law_draw","_law_many"] jn) (bO:Dn P w K mg base 13 "_law_helper_placed" ["_law_helper_here","_law_draw"] qM) (bJ:Dn P w K mg base 17 "_law_helper_made" ["_law_told"] (qO Y)) (iP:Mr P w K mg base 1 Y.pg ["self","helpers"] (qN Y)) (aV:Dn P w K mg base 16 "_law_steps_made" ["_law_steps_here"] (jE Y 3)) (az:Dn P w K mg base 5 "_law_condition" ["_law_draw","_law_things","_law_deep"] (cU 2)) (aF:Dn P w K mg base 8 "_law_condition_made" ["_law_told"] (fP Y.z 3)) (gO:Mr P w K mg base 2 Y.ch ["self","at","condition","then","other"] (mF Y)) (gK:Mr P w K mg base 2 Y.rp ["self","at","condition","keeps","falls","body"] (mD Y)) (gM:Mr P w K mg base 2 Y.cm ["self","at","condition"] (mE Y 5)) (iO:Mt P w K mg base 17 Y.pg "told" ["self"] (jl Y)) (fk:M9 P w K mg base 14 Y "told" ["self"] (dH Y 4)) (bM:M4 P w K mg base 4 Y.z "told" ["self"] (cZ Y.z 3)) (bV:Dn P w K mg base 18 "_law_helper_right" ["_law_helper_here","_law_told"] (iB Y)) (dQ:Mt P w K mg base 1 Y.pg "named" ["self","name"] (jm Y)) {cdv:Value} {A:Around} {outer:List Env} {s:Shared} {H0:Hp} {E:XK} (hr:dD 19 (A.deeper (envOfC "law" (ak jF) s.heap.objs.size f cdv))) :
  ∃t,PS (gP dg P w K mg base ["_law_script","_law_draw","_law_told","_law_helpers","_law_program_here","_law_first","_law_steps_here","_law_condition_here","_law_block","_law_loop","_law_begin","_law_turn","_law_due","_law_k","_law_doubled"] "law" (ak jF) f cdv A outer s H0 E).qc (sW 14) t∧∀(D:Ends) (x0 x1 x3 x5 x6:Option V) (tt pg pc pb pl:Addr) (us ws:List V) (hs:List Hl) (c:Cd) (h0:Hl) (u0:V) (b:Int) (nP nO oQ wO:Option V) (G:Hp),WL Y G tt pg pc pb pl us ws hs c h0 u0→(∀(G':Hp) (oQ:Option V),aH G G'→D.nx [x0,x1,some (.ref tt),x3,some (.ref pg),x5,x6,some (.ref pc),some (.ref pb),some (.ref pl),some (.int b),nP,nO,oQ,wO] G')→t D [x0,x1,some (.ref tt),x3,some (.ref pg),x5,x6,some (.ref pc),some (.ref pb),some (.ref pl),some (.int b),nP,nO,oQ,wO] G:=by
 have hu:=bh hr
 refine ⟨_,(kc PassesOwn.never rfl (fq rfl T.range (aa (bA bR (by rfl) T.len PySem.boot_len (aa (pv 2) ah)) ah)) (aP (i:=13) gu.nd rfl (Or.inl rfl)) (aA (cH (PW.pt (kE (pY (m5 (au bV.ok (hr.mono (by first | decide | omega)) rfl bV.mm bV.kp bV.b .nil aB (aa (aJ aI (aG (pv 4) rfl) (pv 13) (fun _ _=>rfl)) (aa (aJ aI (pv 2) (pv 13) (fun _ _=>rfl)) ah))))) (ja (aN (vj hu) (we (pv 4) J.cp dQ.me dQ.ok (hr.mono (by first | decide | omega)) dQ.b .nil aB (aa (aJ aI (aJ aI (pv 2) (pv 13) (fun _ _=>rfl)) aj (fun _ _=>rfl)) ah)) (aJ aI (aG (pv 4) rfl) (pv 13) (fun _ _=>rfl)) (aR _))))) (aA (aM jy)) bw))),fun D x0 x1 x3 x5 x6 tt pg pc pb pl us ws hs c h0 u0 b nP nO oQ wO G W nx=>?_⟩
 have lw:=aD W.pt
 obtain ⟨LL,tp,Ea,fO,lz,pp⟩:=id W.pg
 have lu:=aD pp
 have lh:=W.lh
 refine (cV rfl ⟨tt,cV rfl ⟨.inr (aW.of W.et),cV rfl ⟨by omega,by omega,jR (n:=ws.length) (fun i σ H'=>∃oQ:Option V,σ=[x0,x1,some (.ref tt),x3,some (.ref pg),x5,x6,some (.ref pc),some (.ref pb),some (.ref pl),some (.int b),nP,nO,oQ,wO]∧aH G H') (cV rfl (aH.refl _)) ?_ ?_⟩⟩⟩)
 rotate_left
 ·rintro σ H' ⟨oQ,rfl,sm⟩
  exact nx _ _ sm
 rintro i σ H1 hi ⟨oQ,rfl,sm⟩
 have hiu:us[i]?=some us[i]:=List.getElem?_eq_getElem (by omega)
 have Kv:ws[i]?=some ws[i]:=List.getElem?_eq_getElem hi
 obtain ⟨h,hh,hA⟩:=bB pp hiu
 obtain ⟨h',UI,hT⟩:=bB W.pt Kv
 rw [hh] at UI
 cases UI
 have hm:=List.mem_of_getElem? hh
 generalize us[i]=u at hiu hA
 generalize ws[i]=v at Kv hT
 obtain ⟨p,dxu,_,_,_,_,_,_,rfl,epu,_⟩:=id hA
 obtain ⟨r,t1,t2,v1,v2,t3,xs,rfl,er,_⟩:=id hT
 have W1:=W.same sm
 refine (cV rfl (cF (sm _ _ Ea) J.cp J.np dG (cV rfl (cI (aW.of (sm _ _ fO)) (bI (by rw [Nat.zero_add];exact hiu)) (cV rfl (cV rfl (cI (aW.of W1.et) (bI (by rw [Nat.zero_add];exact Kv)) ⟨p,_,h,rfl,hA.ao (ay.of sm),hT.ao (ay.of sm),W.ok h hm,fun H2 s2=>(cV rfl (fB ?_))⟩)))))))
 have sA:=sm.trans s2
 have W2:=W1.same s2
 refine (cV rfl ⟨pg,LL,cV rfl ⟨sA _ _ Ea,(iE (by decide +kernel) rfl),cV rfl (cV rfl (cI (aW.of W2.et) (bI (by rw [Nat.zero_add];exact Kv)) (cI (aW.of (sA _ _ er)) rfl ⟨pg,h.nm,us,hs,rfl,W2.pg,fun H3 s3=>?_⟩)))⟩⟩)
 rw [I9 W.nd hiu hh rfl]
 have sB:=sA.trans s3
 exact (cV rfl (cF (sB _ _ Ea) J.cp J.np dG (cV rfl (cI (aW.of (sB _ _ fO)) (bI (by rw [Nat.zero_add];exact hiu)) ⟨p,Y.hp,dxu,cV rfl ⟨rfl,sB _ _ epu,N.ne,N.eq,N.om,cV rfl (fB (cV rfl sB))⟩⟩))))
theorem a0H {f:Addr} {Y:Cy} {fS:Addr} (T:Txt K mg Y.z.s) (U:dW K mg Y.z) (J:eW K mg Y fS) (N:BF K Y) (cR:Dn P w K mg base 2 "_law_cell_at" ["_law_script","_law_k"] (kM K)) (dP:Dn P w K mg base 15 "_law_program" ["_law_draw","_law_many"] jn) (bO:Dn P w K mg base 13 "_law_helper_placed" ["_law_helper_here","_law_draw"] qM) (bJ:Dn P w K mg base 17 "_law_helper_made" ["_law_told"] (qO Y)) (iP:Mr P w K mg base 1 Y.pg ["self","helpers"] (qN Y)) (aV:Dn P w K mg base 16 "_law_steps_made" ["_law_steps_here"] (jE Y 3)) (az:Dn P w K mg base 5 "_law_condition" ["_law_draw","_law_things","_law_deep"] (cU 2)) (aF:Dn P w K mg base 8 "_law_condition_made" ["_law_told"] (fP Y.z 3)) (gO:Mr P w K mg base 2 Y.ch ["self","at","condition","then","other"] (mF Y)) (gK:Mr P w K mg base 2 Y.rp ["self","at","condition","keeps","falls","body"] (mD Y)) (gM:Mr P w K mg base 2 Y.cm ["self","at","condition"] (mE Y 5)) (iO:Mt P w K mg base 17 Y.pg "told" ["self"] (jl Y)) (fk:M9 P w K mg base 14 Y "told" ["self"] (dH Y 4)) (bM:M4 P w K mg base 4 Y.z "told" ["self"] (cZ Y.z 3)) (bV:Dn P w K mg base 18 "_law_helper_right" ["_law_helper_here","_law_told"] (iB Y)) (dQ:Mt P w K mg base 1 Y.pg "named" ["self","name"] (jm Y)) {cdv:Value} {A:Around} {outer:List Env} {s:Shared} {H0:Hp} {E:XK} (hr:dD 19 (A.deeper (envOfC "law" (ak jF) s.heap.objs.size f cdv))) :
  ∃t,PS (gP dg P w K mg base ["_law_script","_law_draw","_law_told","_law_helpers","_law_program_here","_law_first","_law_steps_here","_law_condition_here","_law_block","_law_loop","_law_begin","_law_turn","_law_due","_law_k","_law_doubled"] "law" (ak jF) f cdv A outer s H0 E).qc (sW 15) t∧∀(D:Ends) (x0 x1 x3 x5 x6:Option V) (tt pg pc pb pl:Addr) (us ws:List V) (hs:List Hl) (c:Cd) (h0:Hl) (u0:V) (b:Int) (nP nO oQ wO:Option V) (G:Hp),WL Y G tt pg pc pb pl us ws hs c h0 u0→(∀(G':Hp) (z:Addr) (vh:V),aH G G'→rP Y G' z [vh,u0] [h0,h0]→D.nx [x0,x1,some (.ref tt),x3,some (.ref pg),some u0,x6,some (.ref pc),some (.ref pb),some (.ref pl),some (.int b),nP,nO,oQ,some (.ref z)] G')→t D [x0,x1,some (.ref tt),x3,some (.ref pg),some u0,x6,some (.ref pc),some (.ref pb),some (.ref pl),some (.int b),nP,nO,oQ,wO] G:=by
 have hu:=bh hr
 refine ⟨_,(aT (i:=14) gu.nd rfl (Or.inl rfl) (dh iP.me iP.ok (hr.mono (by first | decide | omega)) rfl J.mgP iP.b .nil aB (aa (cP (aa (au bJ.ok (hr.mono (by first | decide | omega)) rfl bJ.mm bJ.kp bJ.b .nil aB (aa (aJ aI (pv 2) aj (fun _ _=>rfl)) ah)) (aa (pv 5) ah))) ah))),fun D x0 x1 x3 x5 x6 tt pg pc pb pl us ws hs c h0 u0 b nP nO oQ wO G W nx=>?_⟩
 obtain ⟨r0,t1,t2,v1,v2,t3,xs,w0,lS,e3,h3,D7,hm0⟩:=W.first
 obtain ⟨LL,tp,Ea,fO,lz,pp⟩:=id W.pg
 obtain ⟨h9,hh9,hA0⟩:=bB pp W.uz
 rw [W.hz] at hh9
 cases hh9
 refine (cV rfl (cI (aW.of W.et) (bI (j:=0) w0) ⟨.ref r0,h0,rfl,D7,W.ok _ hm0,fun vh H1 s1 hA=>?_⟩))
 refine (cV rfl ⟨(szl 2),fun lq D6=>?_⟩)
 have s2:=new (o:=.lst [vh,u0]) D6
 refine fun z dz hz kH ne=>?_
 have g9:=cM (o:=.own z) (o':=.ins Y.pg dz []) hz kH
 refine ⟨z,dz,lq,cV rfl ⟨af,g9 _ _ af,fun t9 H9 but e9 F9=>⟨rfl,?_⟩⟩⟩
 have s9:aH (upd H1 lq (.lst [vh,u0])) H9:=fun b' o q=>but b' o (g9 _ _ q) (aE q hz)
 have sA:=(s1.trans s2).trans s9
 refine nx H9 z vh sA ⟨dz,t9,e9,F9,(by show 2≤1000;decide),.cons (hA.ao (ay.of (s2.trans s9))) (.cons (hA0.ao (ay.of sA)) .nil)⟩
theorem a0G {f:Addr} {Y:Cy} {fS:Addr} (T:Txt K mg Y.z.s) (U:dW K mg Y.z) (J:eW K mg Y fS) (N:BF K Y) (cR:Dn P w K mg base 2 "_law_cell_at" ["_law_script","_law_k"] (kM K)) (dP:Dn P w K mg base 15 "_law_program" ["_law_draw","_law_many"] jn) (bO:Dn P w K mg base 13 "_law_helper_placed" ["_law_helper_here","_law_draw"] qM) (bJ:Dn P w K mg base 17 "_law_helper_made" ["_law_told"] (qO Y)) (iP:Mr P w K mg base 1 Y.pg ["self","helpers"] (qN Y)) (aV:Dn P w K mg base 16 "_law_steps_made" ["_law_steps_here"] (jE Y 3)) (az:Dn P w K mg base 5 "_law_condition" ["_law_draw","_law_things","_law_deep"] (cU 2)) (aF:Dn P w K mg base 8 "_law_condition_made" ["_law_told"] (fP Y.z 3)) (gO:Mr P w K mg base 2 Y.ch ["self","at","condition","then","other"] (mF Y)) (gK:Mr P w K mg base 2 Y.rp ["self","at","condition","keeps","falls","body"] (mD Y)) (gM:Mr P w K mg base 2 Y.cm ["self","at","condition"] (mE Y 5)) (iO:Mt P w K mg base 17 Y.pg "told" ["self"] (jl Y)) (fk:M9 P w K mg base 14 Y "told" ["self"] (dH Y 4)) (bM:M4 P w K mg base 4 Y.z "told" ["self"] (cZ Y.z 3)) (bV:Dn P w K mg base 18 "_law_helper_right" ["_law_helper_here","_law_told"] (iB Y)) (dQ:Mt P w K mg base 1 Y.pg "named" ["self","name"] (jm Y)) {cdv:Value} {A:Around} {outer:List Env} {s:Shared} {H0:Hp} {E:XK} (hr:dD 19 (A.deeper (envOfC "law" (ak jF) s.heap.objs.size f cdv))) :
  ∃t,PS (gP dg P w K mg base ["_law_script","_law_draw","_law_told","_law_helpers","_law_program_here","_law_first","_law_steps_here","_law_condition_here","_law_block","_law_loop","_law_begin","_law_turn","_law_due","_law_k","_law_doubled"] "law" (ak jF) f cdv A outer s H0 E).qc (sW 16) t∧∀(D:Ends) (x0 x1 x3 x5 x6:Option V) (tt pg pc pb pl:Addr) (us ws:List V) (hs:List Hl) (c:Cd) (h0:Hl) (u0:V) (b:Int) (nP nO oQ:Option V) (z:Addr) (vh:V) (G:Hp),WL Y G tt pg pc pb pl us ws hs c h0 u0→rP Y G z [vh,u0] [h0,h0]→(∀(G':Hp),aH G G'→D.nx [x0,x1,some (.ref tt),x3,some (.ref pg),some u0,x6,some (.ref pc),some (.ref pb),some (.ref pl),some (.int b),nP,nO,oQ,some (.ref z)] G')→t D [x0,x1,some (.ref tt),x3,some (.ref pg),some u0,x6,some (.ref pc),some (.ref pb),some (.ref pl),some (.int b),nP,nO,oQ,some (.ref z)] G:=by
 have hu:=bh hr
 refine ⟨_,(cH (PW.pt (kE (aN (vj hu) (we (pv 14) J.cp dQ.me dQ.ok (hr.mono (by first | decide | omega)) dQ.b .nil aB (aa (aJ aI (aJ aI (pv 2) aj (fun _ _=>rfl)) aj (fun _ _=>rfl)) ah)) (aJ aI (aG (pv 14) rfl) aj (fun _ _=>rfl)) (aR _)) (ja (aN oK (we (pv 4) J.cp dQ.me dQ.ok (hr.mono (by first | decide | omega)) dQ.b .nil aB (aa bf ah)) gZ (aR _))))) (aA (aM jy)) bw),fun D x0 x1 x3 x5 x6 tt pg pc pb pl us ws hs c h0 u0 b nP nO oQ z vh G W hz nx=>?_⟩
 obtain ⟨r0,t1,t2,v1,v2,t3,xs,w0,lS,e3,h3,D7,hm0⟩:=W.first
 obtain ⟨LL,tp,Ea,fO,lz,pp⟩:=id W.pg
 obtain ⟨dz,t9,ez,et9,_,pz⟩:=id hz
 obtain ⟨pv,dv,_,_,_,_,_,_,rfl,epv,_⟩:=id (by cases pz with | cons a r=>exact a:qJ Y G h0 vh)
 refine (cV rfl ⟨z,dz,cV rfl ⟨ez,(iE (by decide +kernel) rfl),cV rfl (cI (aW.of W.et) (bI (j:=0) w0) (cI (aW.of lS) rfl ⟨z,h0.nm,_,cV rfl ⟨hz,fun H1 s1=>?_⟩⟩))⟩⟩)
 rw [show jA h0.nm [.ref pv,u0] [h0,h0]=.ref pv by unfold jA;rw [if_pos rfl]]
 refine (cV rfl (cF (s1 _ _ ez) J.cp J.np dG (cI (aW.of (s1 _ _ et9)) rfl ⟨pv,Y.hp,dv,cV rfl ⟨rfl,s1 _ _ epv,N.ne,N.eq,N.om,cV rfl (fB ?_)⟩⟩)))
 refine (cV rfl ⟨pg,LL,cV rfl ⟨s1 _ _ Ea,(iE (by decide +kernel) rfl),pg,_,us,hs,rfl,W.pg.same s1,fun H2 s2=>?_⟩⟩)
 rw [yf fun h m=>Nl (W.nm h m)]
 exact ⟨rfl,cV rfl (jz rfl (nx _ (s1.trans s2)))⟩
theorem a0F {f:Addr} {Y:Cy} {fS:Addr} (T:Txt K mg Y.z.s) (U:dW K mg Y.z) (J:eW K mg Y fS) (N:BF K Y) (cR:Dn P w K mg base 2 "_law_cell_at" ["_law_script","_law_k"] (kM K)) (dP:Dn P w K mg base 15 "_law_program" ["_law_draw","_law_many"] jn) (bO:Dn P w K mg base 13 "_law_helper_placed" ["_law_helper_here","_law_draw"] qM) (bJ:Dn P w K mg base 17 "_law_helper_made" ["_law_told"] (qO Y)) (iP:Mr P w K mg base 1 Y.pg ["self","helpers"] (qN Y)) (aV:Dn P w K mg base 16 "_law_steps_made" ["_law_steps_here"] (jE Y 3)) (az:Dn P w K mg base 5 "_law_condition" ["_law_draw","_law_things","_law_deep"] (cU 2)) (aF:Dn P w K mg base 8 "_law_condition_made" ["_law_told"] (fP Y.z 3)) (gO:Mr P w K mg base 2 Y.ch ["self","at","condition","then","other"] (mF Y)) (gK:Mr P w K mg base 2 Y.rp ["self","at","condition","keeps","falls","body"] (mD Y)) (gM:Mr P w K mg base 2 Y.cm ["self","at","condition"] (mE Y 5)) (iO:Mt P w K mg base 17 Y.pg "told" ["self"] (jl Y)) (fk:M9 P w K mg base 14 Y "told" ["self"] (dH Y 4)) (bM:M4 P w K mg base 4 Y.z "told" ["self"] (cZ Y.z 3)) (bV:Dn P w K mg base 18 "_law_helper_right" ["_law_helper_here","_law_told"] (iB Y)) (dQ:Mt P w K mg base 1 Y.pg "named" ["self","name"] (jm Y)) {cdv:Value} {A:Around} {outer:List Env} {s:Shared} {H0:Hp} {E:XK} (hr:dD 19 (A.deeper (envOfC "law" (ak jF) s.heap.objs.size f cdv))) :
  ∃t,PS (gP dg P w K mg base ["_law_script","_law_draw","_law_told","_law_helpers","_law_program_here","_law_first","_law_steps_here","_law_condition_here","_law_block","_law_loop","_law_begin","_law_turn","_law_due","_law_k","_law_doubled"] "law" (ak jF) f cdv A outer s H0 E).qc (sW 17) t∧∀(D:Ends) (x0 x1 x3 x5 x6:Option V) (tt pg pc pb pl:Addr) (us ws:List V) (hs:List Hl) (c:Cd) (h0:Hl) (u0:V) (b:Int) (nP nO oQ wO:Option V) (G:Hp),WL Y G tt pg pc pb pl us ws hs c h0 u0→D.rt (.bl true) G→t D [x0,x1,some (.ref tt),x3,some (.ref pg),x5,x6,some (.ref pc),some (.ref pb),some (.ref pl),some (.int b),nP,nO,oQ,wO] G:=by
 have hu:=bh hr
 refine ⟨_,(aM (lH (bA (eV (c:=.ty "tuple") trivial) (by rfl) T.isinstance boot_isinstance (aa (aG (pv 4) rfl) (aa (se (v:=.ty "tuple") rfl T.tuple boot_tuple rfl) ah))) (lG (eF cS (bA bR (by rfl) T.len PySem.boot_len (aa (aG (pv 4) rfl) ah)) (bA bR (by rfl) T.len PySem.boot_len (aa (pv 2) ah)) (aR _))))),fun D x0 x1 x3 x5 x6 tt pg pc pb pl us ws hs c h0 u0 b nP nO oQ wO G W k=>?_⟩
 obtain ⟨LL,tp,Ea,fO,lz,pp⟩:=id W.pg
 have lu:=aD pp
 have lw:=aD W.pt
 refine (cV rfl (cF Ea J.cp J.np dG ⟨_,_,_,true,rfl,.tup fO,rfl,T.kT,cV rfl (qD ?_)⟩))
 refine (cV rfl (cF Ea J.cp J.np dG ⟨tp,cV rfl ⟨.inr (aW.of fO),cV rfl ⟨tt,cV rfl ⟨.inr (aW.of W.et),rfl,?_⟩⟩⟩⟩))
 rw [decide_eq_true (congrArg (fun n:Nat=>V.int (n:Int)) (lu.trans lw.symm))]
 exact k
theorem M7 {f:Addr} {fd:FuncData} {Y:Cy} {fS:Addr} (F:dX K "law" "law" jF f fd) (T:Txt K mg Y.z.s) (U:dW K mg Y.z) (J:eW K mg Y fS) (N:BF K Y) (cR:Dn P w K mg base 2 "_law_cell_at" ["_law_script","_law_k"] (kM K)) (dP:Dn P w K mg base 15 "_law_program" ["_law_draw","_law_many"] jn) (bO:Dn P w K mg base 13 "_law_helper_placed" ["_law_helper_here","_law_draw"] qM) (bJ:Dn P w K mg base 17 "_law_helper_made" ["_law_told"] (qO Y)) (iP:Mr P w K mg base 1 Y.pg ["self","helpers"] (qN Y)) (aV:Dn P w K mg base 16 "_law_steps_made" ["_law_steps_here"] (jE Y 3)) (az:Dn P w K mg base 5 "_law_condition" ["_law_draw","_law_things","_law_deep"] (cU 2)) (aF:Dn P w K mg base 8 "_law_condition_made" ["_law_told"] (fP Y.z 3)) (gO:Mr P w K mg base 2 Y.ch ["self","at","condition","then","other"] (mF Y)) (gK:Mr P w K mg base 2 Y.rp ["self","at","condition","keeps","falls","body"] (mD Y)) (gM:Mr P w K mg base 2 Y.cm ["self","at","condition"] (mE Y 5)) (iO:Mt P w K mg base 17 Y.pg "told" ["self"] (jl Y)) (fk:M9 P w K mg base 14 Y "told" ["self"] (dH Y 4)) (bM:M4 P w K mg base 4 Y.z "told" ["self"] (cZ Y.z 3)) (bV:Dn P w K mg base 18 "_law_helper_right" ["_law_helper_here","_law_told"] (iB Y)) (dQ:Mt P w K mg base 1 Y.pg "named" ["self","name"] (jm Y)):bH P w K mg base dg 20 f fd ["_law_script"] (BV K):=by
 refine F.ok gu (fun vs H Q E h=>?_) (fun cdv A outer s H vs Q E hr h=>?_)
 ·obtain ⟨a,ns,rfl,hS,hz,k⟩:=h
  rfl
 ·obtain ⟨a,ns,rfl,hS,hz,k⟩:=h
  obtain ⟨t13,p13,Qm⟩:=a0J (f:=f) T U J N cR dP bO bJ iP aV az aF gO gK gM iO fk bM bV dQ (cdv:=cdv) (A:=A) (outer:=outer) (s:=s) (H0:=H) (E:=E) hr
  obtain ⟨Tq,p14,LB⟩:=a0I (f:=f) T U J N cR dP bO bJ iP aV az aF gO gK gM iO fk bM bV dQ (cdv:=cdv) (A:=A) (outer:=outer) (s:=s) (H0:=H) (E:=E) hr
  obtain ⟨t15,p15,Ql⟩:=a0H (f:=f) T U J N cR dP bO bJ iP aV az aF gO gK gM iO fk bM bV dQ (cdv:=cdv) (A:=A) (outer:=outer) (s:=s) (H0:=H) (E:=E) hr
  obtain ⟨t16,p16,Qk⟩:=a0G (f:=f) T U J N cR dP bO bJ iP aV az aF gO gK gM iO fk bM bV dQ (cdv:=cdv) (A:=A) (outer:=outer) (s:=s) (H0:=H) (E:=E) hr
  obtain ⟨t17,p17,Qj⟩:=a0F (f:=f) T U J N cR dP bO bJ iP aV az aF gO gK gM iO fk bM bV dQ (cdv:=cdv) (A:=A) (outer:=outer) (s:=s) (H0:=H) (E:=E) hr
  have hu:=bh hr
  rw [show av jF=[_,_,_,_,_,_,_,_,_,_,_,_,_,sW 13,sW 14,sW 15,sW 16,sW 17] from rfl]
  refine ⟨_,(ai (aT (i:=1) gu.nd rfl (Or.inr rfl) (cP (aa (au cR.ok (hr.mono (by first | decide | omega)) rfl cR.mm cR.kp cR.b .nil aB (aa (pv 0) (aa aj ah))) (aa aj ah))))
   (ai (aT (i:=2) gu.nd rfl (Or.inl rfl) (aU aK (by rfl) T.tuple boot_tuple (aa (cK (br ["_law_one"] ["_law_draw"] [1] rfl (by decide +kernel) (by decide +kernel) (by with_unfolding_all rfl) (by exact ⟨rfl,trivial⟩) (by rfl) rfl (by rfl)) rfl (gp (au dP.ok (hr.mono (by first | decide | omega)) rfl dP.mm dP.kp dP.b .nil aB (aa (pv 1) (aa aj ah)))) (fun _ _ _ _=>(aP (i:=0) (show List.Nodup (["_law_one","_law_draw"]:List Str) by decide +kernel) rfl (Or.inl rfl) (Or.inr rfl))) (fun _ _ _ _=>cy) (fun _ _ _ _=>(au bO.ok (hr.mono (by first | decide | omega)) rfl bO.mm bO.kp bO.b .nil aB (aa (pv 0) (aa (pv 1) ah))))) ah)))
   (ai (jx (i:=3) gu.nd rfl (Or.inl rfl) (br ["_law_one"] [] [] rfl (by decide +kernel) (by decide +kernel) (by with_unfolding_all rfl) (by exact trivial) (by rfl) rfl (by rfl)) rfl (eX (pv 2)) (fun _ _ _ _=>(aP (i:=0) (show List.Nodup (["_law_one"]:List Str) by decide +kernel) rfl (Or.inl rfl) (Or.inr rfl))) (fun _ _ _ _=>cy) (fun _ _ _ _=>(au bJ.ok (hr.mono (by first | decide | omega)) rfl bJ.mm bJ.kp bJ.b .nil aB (aa (pv 0) ah))))
   (ai (aT (i:=4) gu.nd rfl (Or.inl rfl) (dh iP.me iP.ok (hr.mono (by first | decide | omega)) rfl J.mgP iP.b .nil aB (aa (pv 3) ah)))
   (ai (aT (i:=5) gu.nd rfl (Or.inl rfl) (aJ cN (pv 3) aj (fun _ _=>rfl)))
   (ai (fh (MO PySem.F.plainAttrs_list PySem.F.slot_list_reverse PySem.F.type_list_reverse Bm (pv 3)))
   (ai (fh (m6 PySem.F.plainAttrs_list PySem.F.slot_list_append PySem.F.type_list_append iW (pv 3) (aa (pv 5) ah)))
   (ai (aT (i:=6) gu.nd rfl (Or.inl rfl) (au aV.ok (hr.mono (by first | decide | omega)) rfl aV.mm aV.kp aV.b .nil aB (aa (aJ aI (aJ aI (pv 2) aj (fun _ _=>rfl)) aj (fun _ _=>rfl)) ah)))
   (ai (aT (i:=7) gu.nd rfl (Or.inl rfl) (au aF.ok (hr.mono (by first | decide | omega)) rfl aF.mm aF.kp aF.b .nil aB (aa (au az.ok (hr.mono (by first | decide | omega)) rfl az.mm az.kp az.b .nil aB (aa (pv 1) (aa (cP (aa bf (aa bf ah))) (aa aj ah)))) ah)))
   (ai (aT (i:=8) gu.nd rfl (Or.inl rfl) (dh gO.me gO.ok (hr.mono (by first | decide | omega)) rfl J.mg7 gO.b .nil aB (aa aj (aa (pv 7) (aa (pv 6) (aa (pv 6) ah))))))
   (ai (aT (i:=9) gu.nd rfl (Or.inl rfl) (dh gK.me gK.ok (hr.mono (by first | decide | omega)) rfl J.mg8 gK.b .nil aB (aa aj (aa (pv 7) (aa (cP (aa (aS (aa aj (aa (pv 7) ah))) ah)) (aa gZ (aa (pv 6) ah)))))))
   (ai (fh (m6 PySem.F.plainAttrs_list PySem.F.slot_list_append PySem.F.type_list_append iW (pv 6) (aa (dh gM.me gM.ok (hr.mono (by first | decide | omega)) rfl J.mg5 gM.b .nil aB (aa aj (aa (pv 7) ah))) ah)))
   (ai (aT (i:=10) gu.nd rfl (Or.inl rfl) (bN iK (au cR.ok (hr.mono (by first | decide | omega)) rfl cR.mm cR.kp cR.b .nil aB (aa (pv 0) (aa aj ah))) aj))
   (ai p13 (ai p14 (ai p15 (ai p16 (aA p17)))))))))))))))))),?_⟩
  refine (cV rfl ⟨a,ns,0,rfl,hS,fun r0=>⟨(szl 2),fun d hd=>?_⟩⟩)
  have S0:aH H (upd H d (.lst [.int r0,.int 0])):=new hd
  have D0:Dr (upd H d (.lst [.int r0,.int 0])) d:=⟨_,_,af⟩
  generalize upd H d (.lst [.int r0,.int 0])=H0 at S0 D0 ⊢
  refine (cV rfl ⟨d,2,rfl,D0,(by decide),fun lp fL hs0 H1 b1 D1 f1 A1 n1 nd1=>?_⟩)
  have S1:aH H H1:=bz.back S0 b1 hd
  refine ⟨lp,rfl,⟨_,bS.of A1.1⟩,eS (xs:=fL) (fun i ys H'=>bz d H1 H'∧Dr H' d∧∃hs:List Hl,Paired (fun u h=>nU H' h u) ys hs∧(∀h∈hs,h.ok)∧hs.map (·.nm)=(hs0.take i).map (·.nm)) ⟨fun _ _ z _=>z,D1,[],.nil,(fun _ h=>nomatch h),rfl⟩ (fun i ys H' _ q=>bS.of (A1.next D1 q.1).1) ?_ ?_⟩
  ·rintro i x ys H' hix ⟨F,D,hs,py,oks,nms⟩
   obtain ⟨h,fK,hR⟩:=bB A1.2.1 hix
   have hm:=List.mem_of_getElem? fK
   have wR:=(List.getElem?_eq_some_iff.mp fK).1
   have JE:=A1.2.2.2
   have mH:ys.length≤i:=by
    have z:=congrArg List.length nms
    rw [List.length_map,List.length_map,List.length_take] at z
    rw [aD py]
    omega
   refine ⟨Ext.one,gk (cV rfl (cV rfl ⟨x,d,h,rfl,Ef.ao (D1.soft F) hR,(A1.2.2.1 h hm).ok,D,fun v' h' H2 b2 D2 hT' ok2 nm2=>⟨line _ (by omega),F.trans b2,D2,hs++[h'],?_,?_,?_⟩⟩))⟩
   ·exact bx (L2.Paired.cQ py fun _ _ z=>z.ao (D.soft b2)) hT'
   ·intro g hg
    rcases List.mem_append.mp hg with z | z
    ·exact oks g z
    ·rw [List.mem_singleton.mp z];exact ok2
   ·rw [List.map_append,nms,take_snoc fK,List.map_append]
    show _++[h'.nm]=_++[h.nm]
    rw [nm2]
  rintro ws H2 ⟨F,D2,hs,py,Yv,PY⟩ lq D6
  rw [aD A1.2.1,List.take_length] at PY
  have lhs:hs.length=hs0.length:=by
   have z:=congrArg List.length PY
   rw [List.length_map,List.length_map] at z
   exact z
  have ndh:(hs.map (·.nm)).Nodup:=by rw [PY];exact nd1
  have nmo:∀h∈hs,nS h.nm:=fun h hm=>by
   have m:h.nm∈hs0.map (·.nm):=PY▸List.mem_map.mpr ⟨h,hm,rfl⟩
   obtain ⟨g,hg,e⟩:=List.mem_map.mp m
   rw [←e]
   exact (A1.2.2.1 g hg).nm.nm
  have JE:hs.length≤10:=by have:=A1.2.2.2;omega
  have l1:1≤hs.length:=by omega
  have S2:aH H H2:=bz.back S1 F hd
  clear PY n1 nd1 A1 F b1 D1 D0 S0 S1 f1
  refine ⟨lq,cV rfl (.inl ⟨bS.of af,fun tt htt=>?_⟩)⟩
  have s3:aH H2 (upd (upd H2 lq (.lst ws)) tt (.tup ws)):=aH.new (new D6) htt
  have et:upd (upd H2 lq (.lst ws)) tt (.tup ws) tt=some (.tup ws):=af
  have pt:=L2.Paired.cQ py fun _ _ z=>nU.ao (ay.of s3) z
  have S:=S2.trans s3
  have D:=D2.same s3
  clear s3 S2 D2 py
  generalize upd (upd H2 lq (.lst ws)) tt (.tup ws)=G0 at et pt S D ⊢
  have OL:=aD pt
  refine (cV rfl ⟨tt,rfl,⟨ws,aW.of et⟩,cT (xs:=ws) (fun i zs H'=>aH G0 H'∧Paired (fun u h=>qJ Y H' h u) zs (hs.take i)) ⟨aH.refl _,.nil⟩ (fun i zs H' _ q=>aW.of (q.1 _ _ et)) ?_ ?_⟩)
  ·rintro i x zs H' hix ⟨sm,py⟩
   obtain ⟨h,fK,hT⟩:=bB pt hix
   have hm:=List.mem_of_getElem? fK
   have wR:=(List.getElem?_eq_some_iff.mp fK).1
   have mH:zs.length≤i:=by
    rw [aD py,List.length_take]
    omega
   refine ⟨Ext.one,gk (cV rfl ⟨x,h,rfl,hT.ao (ay.of sm),Yv h hm,fun v' H3 s3 hA=>⟨line _ (by omega),sm.trans s3,?_⟩⟩)⟩
   rw [take_snoc fK]
   exact bx (L2.Paired.cQ py fun _ _ z=>z.ao (ay.of s3)) hA
  rintro us H3 ⟨sm,pu⟩ lh UG
  rw [OL,List.take_length] at pu
  have n3:=new (o:=.lst us) UG
  have CG:upd H3 lh (.lst us) lh=some (.lst us):=af
  have Qy:H lh=none:=vo (S.trans sm) UG
  have nlh:lh≠d:=(D.same sm).ne UG
  have pu:=L2.Paired.cQ pu fun _ _ z=>qJ.ao (ay.of n3) z
  have pt:=L2.Paired.cQ pt fun _ _ z=>nU.ao (ay.of (sm.trans n3)) z
  have et:=(sm.trans n3) _ _ et
  have S:=S.trans (sm.trans n3)
  have D:=D.same (sm.trans n3)
  clear n3 sm UG
  generalize upd H3 lh (.lst us)=G1 at CG pu pt et S D ⊢
  have nJ:=aD pu
  refine (cV rfl ?_)
  refine fun pg dz hpg kH ne=>?_
  have g9:=cM (o:=.own pg) (o':=.ins Y.pg dz []) hpg kH
  refine ⟨pg,dz,lh,cV rfl ⟨af,g9 _ _ CG,fun tp H9 but e9 F9=>⟨rfl,?_⟩⟩⟩
  have s9:aH G1 H9:=fun b' o q=>but b' o (g9 _ _ q) (aE q hpg)
  have PG:rP Y H9 pg us hs:=⟨dz,tp,e9,F9,by omega,L2.Paired.cQ pu fun _ _ z=>qJ.ao (ay.of s9) z⟩
  have CG:=s9 _ _ CG
  have pt:=L2.Paired.cQ pt fun _ _ z=>nU.ao (ay.of s9) z
  have et:=s9 _ _ et
  have S:=S.trans s9
  have D:=D.same s9
  clear s9 but e9 F9 g9 hpg kH ne pu
  obtain ⟨u0,us',rfl⟩:∃u r,us=u::r:=by
   cases us with
   | nil=>simp at nJ;omega
   | cons u r=>exact ⟨u,r,rfl⟩
  refine (cV rfl (cL (bS.of CG) (bI (j:=0) rfl) ?_))
  refine (cV rfl ⟨.inl ⟨rfl,_,bS.of CG⟩,lh,cV rfl ⟨rfl,CG,?_⟩⟩)
  have k5:=qF (ys:=(u0::us').reverse) CG
  have PG:=PG.ao k5
  have pt:=L2.Paired.cQ pt fun _ _ z=>nU.ao k5 z
  have et:=k5.t _ _ et
  have S:=pX (o:=.lst (u0::us').reverse) S Qy
  have D:Dr (upd H9 lh (.lst (u0::us').reverse)) d:=by obtain ⟨x8,y8,q8⟩:=D;exact ⟨x8,y8,by rw [aY nlh.symm];exact q8⟩
  have CG:upd H9 lh (.lst (u0::us').reverse) lh=some (.lst (u0::us').reverse):=af
  clear k5
  generalize upd H9 lh (.lst (u0::us').reverse)=G2 at CG PG pt et S D ⊢
  refine (cV rfl ⟨.inl ⟨rfl,_,bS.of CG⟩,cV rfl ⟨lh,_,cV rfl ⟨rfl,CG,(by rw [List.length_reverse];exact line _ (by omega)),?_⟩⟩⟩)
  have k6:=qF (ys:=(u0::us').reverse++[u0]) CG
  have PG:=PG.ao k6
  have pt:=L2.Paired.cQ pt fun _ _ z=>nU.ao k6 z
  have et:=k6.t _ _ et
  have S:=pX (o:=.lst ((u0::us').reverse++[u0])) S Qy
  have D:Dr (upd G2 lh (.lst ((u0::us').reverse++[u0]))) d:=by obtain ⟨x8,y8,q8⟩:=D;exact ⟨x8,y8,by rw [aY nlh.symm];exact q8⟩
  clear k6 CG
  generalize upd G2 lh (.lst ((u0::us').reverse++[u0]))=G3 at PG pt et S D ⊢
  obtain ⟨h0,hs',rfl⟩:∃h r,hs=h::r:=by
   cases hs with
   | nil=>simp at l1
   | cons h r=>exact ⟨h,r,rfl⟩
  obtain ⟨w0,Ll,rfl⟩:∃u r,ws=u::r:=by
   cases ws with
   | nil=>simp at OL
   | cons u r=>exact ⟨u,r,rfl⟩
  obtain ⟨r0,t1,t2,v1,v2,t3,xs,rfl,lS,_,_,_,_,e3,h3⟩:=(by cases pt with | cons a r=>exact a:nU G3 h0 w0)
  have o0:=Yv h0 (List.mem_cons_self ..)
  refine (cV rfl (cI (aW.of et) (bI (j:=0) rfl) (cI (aW.of lS) rfl ⟨t3,xs,h0.st,rfl,e3,h3,o0.st,o0.dp,o0.sl,fun ls ss G4 s4 f4 els P4=>?_⟩)))
  have a3G:H ls=none:=vo S f4
  have nls:ls≠d:=D.ne f4
  have S:=S.trans s4
  have D:=D.same s4
  have PG:=PG.ao (ay.of s4)
  have pt:=L2.Paired.cQ pt fun _ _ z=>nU.ao (ay.of s4) z
  have et:=s4 _ _ et
  clear lS e3 h3 s4 f4
  refine (cV rfl ⟨(szl 2),fun lx hlx=>?_⟩)
  have n5:=new (o:=.lst [.str "x",.str "y"]) hlx
  refine ⟨d,lx,1,[("x":Str),"y"],rfl,(by decide),D.same n5,af,(by decide),(by decide +kernel),fun vt c G5 b5 D5 ht ID hg=>?_⟩
  have S5:aH H G5:=bz.back (S.trans n5) b5 hd
  have k5:ay G4 G5:=(ay.of n5).trans ((D.same n5).soft b5)
  have els:=b5 _ _ (n5 _ _ els) nls
  have P4:=P4.ao k5
  have PG:=PG.ao k5
  have pt:=L2.Paired.cQ pt fun _ _ z=>nU.ao k5 z
  have et:=k5.t _ _ et
  clear n5 b5 k5 S D hlx
  have hd2:c.dep≤2:=ID
  refine ⟨vt,c,cV rfl ⟨ht,by omega,hg,fun vc G6 s6 hc=>?_⟩⟩
  have cg:BJ c:=⟨⟨_,hg⟩,by omega⟩
  obtain ⟨pc,rfl⟩:=eU hc
  have S:=S5.trans s6
  have els:=s6 _ _ els
  have P4:=P4.ao (ay.of s6)
  have PG:=PG.ao (ay.of s6)
  have pt:=L2.Paired.cQ pt fun _ _ z=>nU.ao (ay.of s6) z
  have et:=s6 _ _ et
  clear s6 S5 D5 ht
  have lss:=aD (dF.mp P4)
  have lst:=o0.sl
  refine (cV rfl (cV rfl (cV rfl ?_)))
  refine fun pb dz Ku kH ne=>?_
  have g7:=cM (o:=.own pb) (o':=.ins Y.ch dz []) Ku kH
  refine ⟨pb,dz,ls,ls,7,.ref pc,ss,ss,rfl,af,g7 _ _ els,g7 _ _ els,fun t1' rD G7 but e7 F1 F2=>⟨rfl,?_⟩⟩
  have s7:aH G6 G7:=fun b' o q=>but b' o (g7 _ _ q) (aE q Ku)
  have SB:cj Y G7 (.jD 7 c h0.st h0.st) (.ref pb):=by
   unfold cj
   exact ⟨pb,dz,.ref pc,t1',rD,ss,ss,rfl,e7,hc.ao (ay.of s7),F1,by omega,P4.ao (ay.of s7),F2,by omega,P4.ao (ay.of s7)⟩
  have S:=S.trans s7
  have els:=s7 _ _ els
  have P4:=P4.ao (ay.of s7)
  have PG:=PG.ao (ay.of s7)
  have pt:=L2.Paired.cQ pt fun _ _ z=>nU.ao (ay.of s7) z
  have et:=s7 _ _ et
  have hc:=hc.ao (ay.of s7)
  clear s7 but e7 F1 F2 g7 Ku kH ne
  refine (cV rfl (cV rfl ⟨(szl 2),fun q1 hq1=>⟨(szl 1),fun lq D6=>(cV rfl ?_)⟩⟩))
  have n8:=(new (o:=.tup [.int 9,.ref pc]) hq1).trans (new (o:=.lst [.ref q1]) D6)
  have eq1:upd (upd G7 q1 (.tup [.int 9,.ref pc])) lq (.lst [.ref q1]) q1=some (.tup [.int 9,.ref pc]):=new D6 _ _ af
  have N7:upd (upd G7 q1 (.tup [.int 9,.ref pc])) lq (.lst [.ref q1]) lq=some (.lst [.ref q1]):=af
  generalize upd (upd G7 q1 (.tup [.int 9,.ref pc])) lq (.lst [.ref q1])=G8 at n8 eq1 N7 ⊢
  refine fun pl dz hpl kH ne=>?_
  have g8:=cM (o:=.own pl) (o':=.ins Y.rp dz []) hpl kH
  refine ⟨pl,dz,lq,ls,8,.ref pc,.dM,[.ref q1],ss,rfl,af,g8 _ _ N7,(by show 1≤1000;decide),(fun u hu=>?_),g8 _ _ (n8 _ _ els),fun t1' rD G9 but e9 F1 F2=>⟨rfl,?_⟩⟩
  ·rw [List.mem_singleton.mp hu]
   exact ⟨q1,cV rfl (g8 _ _ eq1)⟩
  have s8:aH G8 G9:=fun b' o q=>but b' o (g8 _ _ q) (aE q hpl)
  have s7:=n8.trans s8
  have SL:cj Y G9 (.rep 8 c [(9,c)] none h0.st) (.ref pl):=by
   unfold cj
   exact ⟨pl,dz,.ref pc,.ref t1',.dM,rD,ss,rfl,e9,hc.ao (ay.of s7),⟨t1',[.ref q1],rfl,F1,(by show 1≤1000;decide),.cons ⟨q1,.ref pc,rfl,s8 _ _ eq1,hc.ao (ay.of s7)⟩ .nil⟩,rfl,F2,by omega,P4.ao (ay.of s7)⟩
  have S:=S.trans s7
  have els:=s7 _ _ els
  have PG:=PG.ao (ay.of s7)
  have pt:=L2.Paired.cQ pt fun _ _ z=>nU.ao (ay.of s7) z
  have et:=s7 _ _ et
  have hc:=hc.ao (ay.of s7)
  have SB:=cj.ao (ay.of s7) SB
  clear s7 s8 but e9 F1 F2 g8 hpl kH ne n8 eq1 N7 P4
  refine (cV rfl ⟨.inl ⟨rfl,_,bS.of els⟩,cV rfl ?_⟩)
  refine fun pz dz hpz kH ne=>?_
  have g9:=cM (o:=.own pz) (o':=.ins Y.cm dz []) hpz kH
  refine ⟨pz,dz,1,.ref pc,rfl,af,fun GA but eA=>⟨rfl,?_⟩⟩
  have sA:aH G9 GA:=fun b' o q=>but b' o (g9 _ _ q) (aE q hpz)
  have els:=sA _ _ els
  refine ⟨ls,_,cV rfl ⟨rfl,els,(line _ (by omega)),?_⟩⟩
  have kB:ay G9 (upd GA ls (.lst (ss++[.ref pz]))):=(ay.of sA).trans (qF els)
  have S:=pX (o:=.lst (ss++[.ref pz])) (S.trans sA) a3G
  have PG:=PG.ao kB
  have pt:=L2.Paired.cQ pt fun _ _ z=>nU.ao kB z
  have et:=kB.t _ _ et
  have hc:=hc.ao kB
  have SB:=cj.ao kB SB
  have SL:=cj.ao kB SL
  clear kB sA but eA g9 hpz kH ne els
  generalize upd GA ls (.lst (ss++[.ref pz]))=GB at S PG pt et hc SB SL ⊢
  refine (cV rfl ⟨a,ns,1,rfl,S.seq hS,fun rb=>⟨_,cV rfl ⟨rfl,(show (0:Int)<3 by decide),?_⟩⟩⟩)
  have W:WL Y GB tt pg pc pb pl (u0::us') (.ref r0::Ll) (h0::hs') c h0 u0:=⟨et,pt,PG,Yv,ndh,nmo,JE,rfl,rfl,cg,hc,SB,SL⟩
  refine Qm _ _ _ _ _ _ tt pg pc pb pl _ _ _ c h0 u0 _ _ _ _ _ GB W fun GC nP nO sC=>?_
  have W:=W.same sC
  refine LB _ _ _ _ _ _ tt pg pc pb pl _ _ _ c h0 u0 _ _ _ _ _ GC W fun GD oQ sD=>?_
  have W:=W.same sD
  refine Ql _ _ _ _ none _ tt pg pc pb pl _ _ _ c h0 u0 _ _ _ _ _ GD W fun GE z vh sE hz=>?_
  have W:=W.same sE
  refine Qk _ _ _ _ none _ tt pg pc pb pl _ _ _ c h0 u0 _ _ _ _ z vh GE W hz fun GF sF=>?_
  have W:=W.same sF
  exact Qj _ _ _ _ _ _ tt pg pc pb pl _ _ _ c h0 u0 _ _ _ _ _ GF W (k GF)
theorem MI (Z:Cz):∀vs H Q E,¬fP Z 0 vs H Q E:=fun _ _ _ _ ⟨_,c,_,_,_,d,_⟩=>by have:=CH c;omega
theorem DN {Z:Cz} {f0 f1 f2 f3:Addr} {rm wY N5 fd3:FuncData} (T:Txt K mg Z.s) (U:dW K mg Z) (F0:dX K "told" "Compare.told" lE f0 rm) (h0:Meth K (mK Z 0) "told" f0) (b0:Binds K rm ["self"] []) (F1:dX K "told" "Turned.told" kO f1 wY) (h1:Meth K (mK Z 1) "told" f1) (b1:Binds K wY ["self"] []) (F2:dX K "told" "Every.told" lC f2 N5) (h2:Meth K (mK Z 2) "told" f2) (b2:Binds K N5 ["self"] []) (F3:dX K "told" "Some.told" kR f3 fd3) (h3:Meth K (mK Z 3) "told" f3) (b3:Binds K fd3 ["self"] []) (bK:Mt P w K mg base 1 Z.s "told" ["self"] (iI Z.s)):∀n,M4 P w K mg base (n+1) Z "told" ["self"] (cZ Z n):=by
 refine HM (lv:=fun n=>n+1) (sp:=fun n=>cZ Z n) (fun j=>match j with | 0=>f0 | 1=>f1 | 2=>f2 | _=>f3) (fun j=>match j with | 0=>rm | 1=>wY | 2=>N5 | _=>fd3) (fun j hj=>?_) (fun j hj=>?_) (O6 Z) (fun n R j hj=>?_)
 ·match j,hj with
  | 0,_=>exact h0
  | 1,_=>exact h1
  | 2,_=>exact h2
  | 3,_=>exact h3
 ·match j,hj with
  | 0,_=>exact b0
  | 1,_=>exact b1
  | 2,_=>exact b2
  | 3,_=>exact b3
 ·match j,hj with
  | 0,_=>exact Hh (n:=n) F0 T U bK
  | 1,_=>exact Gy (n:=n) F1 T U R
  | 2,_=>exact GX (n:=n) F2 T U R
  | 3,_=>exact GN (n:=n) F3 T U R
theorem DJ {Y:Cy} {fS:Addr} (T:Txt K mg Y.z.s) (U:dW K mg Y.z) (J:eW K mg Y fS) {g0 g1 g2 g3 g4 g5 g6 g7 g8:Addr} {gd0 gd1 gd2 gd3 gd4 gd5 gd6 gd7 gd8:FuncData} (G0:dX K "told" "Let.told" kX g0 gd0) (h0:Meth K (eY Y 0) "told" g0) (b0:Binds K gd0 ["self"] []) (G1:dX K "told" "Divide.told" lD g1 gd1) (h1:Meth K (eY Y 1) "told" g1) (b1:Binds K gd1 ["self"] []) (G2:dX K "told" "Fetch.told" lA g2 gd2) (h2:Meth K (eY Y 2) "told" g2) (b2:Binds K gd2 ["self"] []) (G3:dX K "told" "Put.told" kQ g3 gd3) (h3:Meth K (eY Y 3) "told" g3) (b3:Binds K gd3 ["self"] []) (G4:dX K "told" "Make.told" kW g4 gd4) (h4:Meth K (eY Y 4) "told" g4) (b4:Binds K gd4 ["self"] []) (G5:dX K "told" "Claim.told" ju g5 gd5) (h5:Meth K (eY Y 5) "told" g5) (b5:Binds K gd5 ["self"] []) (G6:dX K "told" "Call.told" jv g6 gd6) (h6:Meth K (eY Y 6) "told" g6) (b6:Binds K gd6 ["self"] []) (G7:dX K "told" "Choose.told" jw g7 gd7) (h7:Meth K (eY Y 7) "told" g7) (b7:Binds K gd7 ["self"] []) (G8:dX K "told" "Repeat.told" jr g8 gd8) (h8:Meth K (eY Y 8) "told" g8) (b8:Binds K gd8 ["self"] []) {f0:Addr} {rm:FuncData} (F0:dX K "told_each" "told_each" rK f0 rm) (hm0:mg "told_each"=some (.ref f0)) (hk0:PySem.W.keepIn K (.ref f0)=true) (hb0:Binds K rm ["parts"] []) (bK:Mt P w K mg base 1 Y.z.s "told" ["self"] (iI Y.z.s)) (bM:M4 P w K mg base 4 Y.z "told" ["self"] (cZ Y.z 3)) (vC:Dn P w K mg base 2 "told_each" ["parts"] (BS Y.z)) (jh:Dn P w K mg base 5 "told_pairs" ["pairs"] (xC Y.z)):∀n,M9 P w K mg base (2*n+6) Y "told" ["self"] (dH Y n):=by
 refine HL (lv:=fun n=>2*n+6) (sp:=fun n=>dH Y n) (fun j=>match j with | 0=>g0 | 1=>g1 | 2=>g2 | 3=>g3 | 4=>g4 | 5=>g5 | 6=>g6 | 7=>g7 | _=>g8) (fun j=>match j with | 0=>gd0 | 1=>gd1 | 2=>gd2 | 3=>gd3 | 4=>gd4 | 5=>gd5 | 6=>gd6 | 7=>gd7 | _=>gd8) (fun j hj=>?_) (fun j hj=>?_) (My Y) (fun n R j hj=>?_)
 ·match j,hj with
  | 0,_=>exact h0
  | 1,_=>exact h1
  | 2,_=>exact h2
  | 3,_=>exact h3
  | 4,_=>exact h4
  | 5,_=>exact h5
  | 6,_=>exact h6
  | 7,_=>exact h7
  | 8,_=>exact h8
 ·match j,hj with
  | 0,_=>exact b0
  | 1,_=>exact b1
  | 2,_=>exact b2
  | 3,_=>exact b3
  | 4,_=>exact b4
  | 5,_=>exact b5
  | 6,_=>exact b6
  | 7,_=>exact b7
  | 8,_=>exact b8
 ·match j,hj with
  | 0,_=>exact GU (n:=n) G0 T U J bK
  | 1,_=>exact GZ (n:=n) G1 T U J bK
  | 2,_=>exact GW (n:=n) G2 T U J bK
  | 3,_=>exact GJ (n:=n) G3 T U J bK
  | 4,_=>exact GR (n:=n) G4 T U J bK
  | 5,_=>exact C8 (n:=n) G5 T U J bM
  | 6,_=>exact C9 (n:=n) G6 T U J vC
  | 7,_=>exact Dd (n:=n) G7 T U J bM (⟨f0,rm,Bh (n:=n) F0 T U J R,hm0,hk0,hb0⟩)
  | 8,_=>exact C4 (n:=n) G8 T U J bM bK jh (⟨f0,rm,Bh (n:=n) F0 T U J R,hm0,hk0,hb0⟩)
theorem DL {Y:Cy} {fS:Addr} (T:Txt K mg Y.z.s) (U:dW K mg Y.z) (J:eW K mg Y fS) {f0:Addr} {rm:FuncData} (F0:dX K "_law_condition" "_law_condition" kZ f0 rm) (hm0:mg "_law_condition"=some (.ref f0)) (hk0:PySem.W.keepIn K (.ref f0)=true) (hb0:Binds K rm ["_law_draw","_law_things","_law_deep"] [])  (aq:Dn P w K mg base 2 "_law_next" ["_law_draw","_law_size"] dJ) (aZ:Dn P w K mg base 3 "_law_sum" ["_law_draw","_law_things"] fM):∀n,Dn P w K mg base (n+3) "_law_condition" ["_law_draw","_law_things","_law_deep"] (cU n) :=
 nQ (lv:=fun n=>n+3) (sp:=fun n=>cU n) hm0 hk0 hb0 (MJ) fun n R=>wk (n:=n) F0 T U J aq aZ R
theorem DK {Y:Cy} {fS:Addr} (T:Txt K mg Y.z.s) (U:dW K mg Y.z) (J:eW K mg Y fS) {f0:Addr} {rm:FuncData} (F0:dX K "_law_condition_made" "_law_condition_made" jt f0 rm) (hm0:mg "_law_condition_made"=some (.ref f0)) (hk0:PySem.W.keepIn K (.ref f0)=true) (hb0:Binds K rm ["_law_told"] [])  (aL:Dn P w K mg base 4 "_law_sum_made" ["_law_one"] (lX Y.z)) (pA:Mr P w K mg base 1 Y.z.c ["self","one","sign","other"] (rY Y.z)) (oY:Mr P w K mg base 1 Y.z.t ["self","condition"] (rV Y.z)) (o8:Mr P w K mg base 1 Y.z.e ["self","conditions"] (jk Y.z.e)) (o4:Mr P w K mg base 1 Y.z.o ["self","conditions"] (jk Y.z.o)):∀n,Dn P w K mg base (n+5) "_law_condition_made" ["_law_told"] (fP Y.z n) :=
 nQ (lv:=fun n=>n+5) (sp:=fun n=>fP Y.z n) hm0 hk0 hb0 (MI Y.z) fun n R=>GI (n:=n) F0 T U J aL pA oY o8 o4 R
theorem BB {Y:Cy} {fS:Addr} (T:Txt K mg Y.z.s) (U:dW K mg Y.z) (J:eW K mg Y fS) {f0:Addr} {rm:FuncData} (F0:dX K "_law_placed" "_law_placed" xN f0 rm) (hm0:mg "_law_placed"=some (.ref f0)) (hk0:PySem.W.keepIn K (.ref f0)=true) (hb0:Binds K rm ["_law_step_here","_law_draw"] []) {f1:Addr} {wY:FuncData} (F1:dX K "_law_all_placed" "_law_all_placed" qU f1 wY) (hm1:mg "_law_all_placed"=some (.ref f1)) (hk1:PySem.W.keepIn K (.ref f1)=true) (hb1:Binds K wY ["_law_steps_here","_law_draw"] []) (aq:Dn P w K mg base 2 "_law_next" ["_law_draw","_law_size"] dJ) (bQ:Dn P w K mg base 3 "_law_pairs_placed" ["_law_conditions","_law_draw"] xF):∀n,Dn P w K mg base (2*n+5) "_law_placed" ["_law_step_here","_law_draw"] (EK n) :=
 nQ (lv:=fun n=>2*n+5) (sp:=fun n=>EK n) hm0 hk0 hb0 (pl0) fun n R=>PK (n:=n) F0 T U J aq bQ (⟨f1,wY,GK (n:=n) F1 T U J R,hm1,hk1,hb1⟩)
theorem uS {Y:Cy} {fS:Addr} (T:Txt K mg Y.z.s) (U:dW K mg Y.z) (J:eW K mg Y fS) {f0:Addr} {rm:FuncData} (F0:dX K "_law_step_made" "_law_step_made" qT f0 rm) (hm0:mg "_law_step_made"=some (.ref f0)) (hk0:PySem.W.keepIn K (.ref f0)=true) (hb0:Binds K rm ["_law_told"] []) {f1:Addr} {wY:FuncData} (F1:dX K "_law_steps_made" "_law_steps_made" kY f1 wY) (hm1:mg "_law_steps_made"=some (.ref f1)) (hk1:PySem.W.keepIn K (.ref f1)=true) (hb1:Binds K wY ["_law_steps_here"] []) (aL:Dn P w K mg base 4 "_law_sum_made" ["_law_one"] (lX Y.z)) (aF:Dn P w K mg base 8 "_law_condition_made" ["_law_told"] (fP Y.z 3)) (cG:Dn P w K mg base 9 "_law_pairs_made" ["_law_pairs"] (n9 Y.z)) (yr:Mr P w K mg base 2 Y.lt ["self","at","name","total"] (qQ Y 0)) (yu:Mr P w K mg base 2 Y.dv ["self","at","name","word","total","by"] (BW Y 1)) (yt:Mr P w K mg base 2 Y.ft ["self","at","name","row","place"] (qP Y 2)) (yp:Mr P w K mg base 2 Y.pt ["self","at","row","place","total"] (qP Y 3)) (yq:Mr P w K mg base 2 Y.mq ["self","at","row","size"] (qQ Y 4)) (gM:Mr P w K mg base 2 Y.cm ["self","at","condition"] (mE Y 5)) (yv:Mr P w K mg base 2 Y.cl ["self","at","names","helper","given"] (BX Y)) (gO:Mr P w K mg base 2 Y.ch ["self","at","condition","then","other"] (mF Y)) (gK:Mr P w K mg base 2 Y.rp ["self","at","condition","keeps","falls","body"] (mD Y)):∀n,Dn P w K mg base (2*n+9) "_law_step_made" ["_law_told"] (xE Y n) :=
 nQ (lv:=fun n=>2*n+9) (sp:=fun n=>xE Y n) hm0 hk0 hb0 (VZ Y) fun n R=>MU (n:=n) F0 T U J aL aF cG (⟨f1,wY,Cm (n:=n) F1 T U J R,hm1,hk1,hb1⟩) yr yu yt yp yq gM yv gO gK
theorem DM {Y:Cy} {fS:Addr} (T:Txt K mg Y.z.s) (U:dW K mg Y.z) (J:eW K mg Y fS) {f0:Addr} {rm:FuncData} (F0:dX K "_law_step" "_law_step" cE f0 rm) (hm0:mg "_law_step"=some (.ref f0)) (hk0:PySem.W.keepIn K (.ref f0)=true) (hb0:Binds K rm ["_law_draw","_law_own","_law_deep","_law_helpers"] []) {f1:Addr} {wY:FuncData} (F1:dX K "_law_steps" "_law_steps" iC f1 wY) (hm1:mg "_law_steps"=some (.ref f1)) (hk1:PySem.W.keepIn K (.ref f1)=true) (hb1:Binds K wY ["_law_draw","_law_own","_law_many","_law_deep","_law_helpers"] []) (aq:Dn P w K mg base 2 "_law_next" ["_law_draw","_law_size"] dJ) (aZ:Dn P w K mg base 3 "_law_sum" ["_law_draw","_law_things"] fM) (az:Dn P w K mg base 5 "_law_condition" ["_law_draw","_law_things","_law_deep"] (cU 2)) (cz:Dn P w K mg base 1 "_law_plain" ["_law_helpers"] fF) (dm:Dn P w K mg base 4 "_law_call" ["_law_draw","_law_own","_law_helper_here"] fG):∀n,Dn P w K mg base (2*n+6) "_law_step" ["_law_draw","_law_own","_law_deep","_law_helpers"] (oh n) :=
 nQ (lv:=fun n=>2*n+6) (sp:=fun n=>oh n) hm0 hk0 hb0 (Oe) fun n R=>Hf (n:=n) F0 T U J aq aZ az (⟨f1,wY,vn (n:=n) F1 T U J R,hm1,hk1,hb1⟩) cz dm
theorem BC {Y:Cy} {fS:Addr} (T:Txt K mg Y.z.s) (U:dW K mg Y.z) (J:eW K mg Y fS) {f0:Addr} {rm:FuncData} (F0:dX K "_law_fields" "_law_fields" eg f0 rm) (hm0:mg "_law_fields"=some (.ref f0)) (hk0:PySem.W.keepIn K (.ref f0)=true) (hb0:Binds K rm ["_law_step_here","_law_told"] []) {f1:Addr} {wY:FuncData} (F1:dX K "_law_block_fields" "_law_block_fields" lg f1 wY) (hm1:mg "_law_block_fields"=some (.ref f1)) (hk1:PySem.W.keepIn K (.ref f1)=true) (hb1:Binds K wY ["_law_step_here","_law_told"] []) {f2:Addr} {N5:FuncData} (F2:dX K "_law_all_fields" "_law_all_fields" ly f2 N5) (hm2:mg "_law_all_fields"=some (.ref f2)) (hk2:PySem.W.keepIn K (.ref f2)=true) (hb2:Binds K N5 ["_law_steps_here","_law_told"] []) (M9:∀n,M9 P w K mg base (2*n+6) Y "told" ["self"] (dH Y n)) (W:Js K Y) (bM:M4 P w K mg base 4 Y.z "told" ["self"] (cZ Y.z 3)):∀n,Dn P w K mg base (3*n+7) "_law_fields" ["_law_step_here","_law_told"] (kL Y n) :=
 nQ (lv:=fun n=>3*n+7) (sp:=fun n=>kL Y n) hm0 hk0 hb0 (Kz Y) fun n R=>Kc (n:=n) F0 T U J W (⟨f1,wY,Kd (n:=n) F1 T U J bM (⟨f2,N5,Cn (n:=n) F2 T U J (M9 n) R,hm2,hk2,hb2⟩),hm1,hk1,hb1⟩)
end
end Hw
namespace Hw
open PySem L2 PyProof.Rows
theorem zzN {P:Nat→Prop} (a:P 0) (b:P 1) (c:P 2) (d:P 3) (e:P 4) (f:P 5) (g:P 6) (h:P 7) (i:P 8):∀j,j<9→P j
 | 0,_=>a
 | 1,_=>b
 | 2,_=>c
 | 3,_=>d
 | 4,_=>e
 | 5,_=>f
 | 6,_=>g
 | 7,_=>h
 | 8,_=>i
theorem zzF {P:Nat→Prop} (a:P 0) (b:P 1) (c:P 2) (d:P 3):∀j,j<4→P j
 | 0,_=>a
 | 1,_=>b
 | 2,_=>c
 | 3,_=>d
theorem zzM {P:Nat→Nat→Prop} (a:∀i,i<9→P 0 i) (b:∀i,i<9→P 1 i) (c:∀i,i<9→P 2 i) (d:∀i,i<9→P 3 i) (e:∀i,i<9→P 4 i) (f:∀i,i<9→P 5 i) (g:∀i,i<9→P 6 i) (h:∀i,i<9→P 7 i) (i:∀i,i<9→P 8 i) (j k:Nat) (u:j<9) (v:k<9):P j k := zzN (P:=fun j=>∀k,k<9→P j k) a b c d e f g h i j u k v
theorem zzu0 {A:FuncData} {B:List Str} (us:List Value) (hl:us.length=0) (k:bindArgs A ⟨[],[]⟩=pure (B.zip [])):bindArgs A ⟨us,[]⟩=pure (B.zip us):=match us,hl with | [],_=>k
theorem zzu1 {A:FuncData} {B:List Str} (us:List Value) (hl:us.length=1) (k:∀a,bindArgs A ⟨[a],[]⟩=pure (B.zip [a])):bindArgs A ⟨us,[]⟩=pure (B.zip us):=match us,hl with | [a],_=>k a
theorem zzu2 {A:FuncData} {B:List Str} (us:List Value) (hl:us.length=2) (k:∀a b,bindArgs A ⟨[a,b],[]⟩=pure (B.zip [a,b])):bindArgs A ⟨us,[]⟩=pure (B.zip us):=match us,hl with | [a,b],_=>k a b
theorem zzu3 {A:FuncData} {B:List Str} (us:List Value) (hl:us.length=3) (k:∀a b c,bindArgs A ⟨[a,b,c],[]⟩=pure (B.zip [a,b,c])):bindArgs A ⟨us,[]⟩=pure (B.zip us):=match us,hl with | [a,b,c],_=>k a b c
theorem zzu4 {A:FuncData} {B:List Str} (us:List Value) (hl:us.length=4) (k:∀a b c d,bindArgs A ⟨[a,b,c,d],[]⟩=pure (B.zip [a,b,c,d])):bindArgs A ⟨us,[]⟩=pure (B.zip us):=match us,hl with | [a,b,c,d],_=>k a b c d
theorem zzu5 {A:FuncData} {B:List Str} (us:List Value) (hl:us.length=5) (k:∀a b c d e,bindArgs A ⟨[a,b,c,d,e],[]⟩=pure (B.zip [a,b,c,d,e])):bindArgs A ⟨us,[]⟩=pure (B.zip us):=match us,hl with | [a,b,c,d,e],_=>k a b c d e
theorem zzu6 {A:FuncData} {B:List Str} (us:List Value) (hl:us.length=6) (k:∀a b c d e f,bindArgs A ⟨[a,b,c,d,e,f],[]⟩=pure (B.zip [a,b,c,d,e,f])):bindArgs A ⟨us,[]⟩=pure (B.zip us):=match us,hl with | [a,b,c,d,e,f],_=>k a b c d e f
theorem zzu8 {A:FuncData} {B:List Str} (us:List Value) (hl:us.length=8) (k:∀a b c d e f g h,bindArgs A ⟨[a,b,c,d,e,f,g,h],[]⟩=pure (B.zip [a,b,c,d,e,f,g,h])):bindArgs A ⟨us,[]⟩=pure (B.zip us):=match us,hl with | [a,b,c,d,e,f,g,h],_=>k a b c d e f g h
theorem all_mk {l:PySem.W.OpenLaw} {w:World} {K:PySem.W.Frag} {h:Heap} {mg:Str→Option Value} {fa Cs Cc Ct Ce Co L0 L1 L2 L3 L4 L5 L6 L7 L8 Hp Pg Sp f1 f2 f3 f4 f5 f6 f7 f8 f9 Vj QV QU QT QS QO QN QM QL QK Vi Vh Vg Vf Ve Vd Vc Vb Va QJ QI QH f32 QG U9 U8 OS U7 U6 U5 U4 U3 U1 U0 f44 UZ UY f47 UX UW f50 UU UT f53 US UR UQ UP f58 UO UN f61 f62 UM f64 f65 QF:Addr} (X:K.In h) (G:h.Ns mainGlobals mg) (hfa:mg "law"=some (.ref fa))
  {od1 an1 od2 an2 od3 an3 od4 an4 od5 an5 od6 an6 od7 an7 od8 an8 od9 an9 Zt a8L Zs a8K Zr a8J Zq a8I Zp a8H Zo a8G Zn a8F Zm a8E Zl a8D Zk a8C Zj a8B Zi a8A Zh a8z Zg a8y Zf a8x Ze a8w Zd a8v Zc a8u Zb a8t Za a8s Y9 a8r Y8 a8q Y7 a8p Y6 a8o Y5 a8n Y4 a8m Y3 a8l Y0 a8k YZ a8j YY a8i YX a8h YW a8g YV a8f YU a8e YT a8d YS a8c YR a8b YQ a8a YO a79 YN a78 YM a77 YL a76 YK a75 YJ a74 YI a73 YH a72 YG a71 YF a70 YE a7Z YD a7Y YC a7X YB a7W YA a7V Yz a7U Yy a7T Yx SE Yw a7S:Option Addr} {sl1 sl2 sl3 sl4 sl5 sl6 sl7 sl8 sl9 W3 W0 WZ WY WX WW WV WU WT WS WR WQ WO WN WM WK WJ WI WH WG WE WD WC WB WA Wz Wy Wx Ww Wv Wu Wt Ws Wr Wq Wo Wn Wm Wl Wk Wj Wi Wh Wg Wf We Wd Wc Wb Wa V9 V8 V7 V6 V5 V4 V3:Array (Option Value)} {oc1 kV1 dc1 pm1 cd1 ct1 oc2 kV2 dc2 pm2 cd2 ct2 oc3 kV3 dc3 pm3 cd3 ct3 oc4 kV4 dc4 pm4 cd4 ct4 oc5 kV5 dc5 pm5 cd5 ct5 oc6 kV6 dc6 pm6 cd6 ct6 oc7 kV7 dc7 pm7 cd7 ct7 oc8 kV8 dc8 pm8 cd8 ct8 oc9 kV9 dc9 pm9 cd9 ct9 a0p a2E a5H Yq Su a6P a0o a2D a5G Yp Ss a6O a0n a2C a5F Yo So a6N a0m a2B a5E Yn Sn a6M a0l a2A a5D Ym Sm a6L a0k a2z a5C Yl Sl a6K a0j a2y a5B Yk Sk a6J a0i a2x a5A Yj Sj a6I a0h a2w a5z Yi Si a6H a0g a2v a5y Yh Sh a6G a0f a2u a5x Yg Sg a6F a0e a2t a5w Ye Se a6E a0d a2s a5v Yd Sd a6D a0c a2r a5u Yc R9 a6C a0b a2q a5t Yb R7 a6B a0a a2p a5s X8 R6 a6A Z9 a2o a5r X7 R5 a6z Z8 a2n a5q X6 R4 a6y Z7 a2m a5p X5 R3 a6x Z6 a2l a5o X4 R1 a6w Z5 a2k a5n X3 R0 a6v Z4 a2j a5m X0 RZ a6u Z3 a2i a5l XZ RY a6t Z2 a2h a5k XY RX a6s Z1 a2g a5j XX RW a6r Z0 a2f a5i XW RV a6q ZZ a2e a5h XU RU a6p ZY a2d a5g XT RT a6o ZX a2c a5f XS RS a6n ZW a2b a5e XR RQ a6m ZV a2a a5d XQ RP a6l ZU a1Z a5c XO RO a6k ZT a1Y a5b XN RN a6j ZS a1X a5a XM RM a6i ZR a1W a4Z XJ RL a6h ZQ a1V a4Y XI RK a6g ZP a1U a4X XH RJ a6f ZO a1T a4W XG RI a6e ZN a1S a4V XF RH a6d ZM a1R a4U XE RG a6c ZL a1Q a4T XD RE a6b ZK a1P a4S XC RD a6a ZJ a1O a4R XA RC a5Z ZI a1N a4Q Xz RB a5Y ZH a1M a4P Xy RA a5X ZG a1L a4O Xx Rz a5W ZF a1K a4N Xw Ry a5V ZE a1J a4M Xv Rx a5U ZD a1I a4L Xu Rw a5T ZC a1H a4K Xs Rv a5S ZA a1G a4J Xr Ru a5R Zz a1F a4I Xq Rt a5Q Zy a1E a4H Xp Rr a5P Zx a1D a4G Xo Rq a5O Zw a1C a4F Xn Rp a5N Zv Qn Rh Pz Ol Rm Zu a1B a4E Xm Ro a5M:Value}
  (NX:PySem.W.nsIn K mainGlobals "Sum"=some (some (.ref Cs))) (Gm:PySem.W.plainGet K Cs Str.empty=true) (IU:PySem.W.hasDictIn K Cs=true) (FG:PySem.W.plainOver K Cs=true) (E9:PySem.W.findIn K (.ref Cs) "__setattr__"=some (some (.builtin "object.__setattr__"))) (HF:PySem.W.makesIn K Cs=true) (Iq:PySem.W.keepIn K (.ref Cs)=true)
  (N1:PySem.W.nsIn K mainGlobals "Compare"=some (some (.ref Cc))) (Gq:PySem.W.plainGet K Cc Str.empty=true) (IX:PySem.W.hasDictIn K Cc=true) (FJ:PySem.W.plainOver K Cc=true) (Fd:PySem.W.findIn K (.ref Cc) "__setattr__"=some (some (.builtin "object.__setattr__"))) (HJ:PySem.W.makesIn K Cc=true) (Iv:PySem.W.keepIn K (.ref Cc)=true)
  (NW:PySem.W.nsIn K mainGlobals "Turned"=some (some (.ref Ct))) (Gk:PySem.W.plainGet K Ct Str.empty=true) (IT:PySem.W.hasDictIn K Ct=true) (FF:PySem.W.plainOver K Ct=true) (E8:PySem.W.findIn K (.ref Ct) "__setattr__"=some (some (.builtin "object.__setattr__"))) (HE:PySem.W.makesIn K Ct=true) (Ip:PySem.W.keepIn K (.ref Ct)=true)
  (NZ:PySem.W.nsIn K mainGlobals "Every"=some (some (.ref Ce))) (Gp:PySem.W.plainGet K Ce Str.empty=true) (IW:PySem.W.hasDictIn K Ce=true) (FI:PySem.W.plainOver K Ce=true) (Fc:PySem.W.findIn K (.ref Ce) "__setattr__"=some (some (.builtin "object.__setattr__"))) (HH:PySem.W.makesIn K Ce=true) (Iu:PySem.W.keepIn K (.ref Ce)=true)
  (NY:PySem.W.nsIn K mainGlobals "Some"=some (some (.ref Co))) (Gn:PySem.W.plainGet K Co Str.empty=true) (IV:PySem.W.hasDictIn K Co=true) (FH:PySem.W.plainOver K Co=true) (Fb:PySem.W.findIn K (.ref Co) "__setattr__"=some (some (.builtin "object.__setattr__"))) (HG:PySem.W.makesIn K Co=true) (Ir:PySem.W.keepIn K (.ref Co)=true)
  (NU:PySem.W.nsIn K mainGlobals "Let"=some (some (.ref L0))) (Gi:PySem.W.plainGet K L0 Str.empty=true) (IQ:PySem.W.hasDictIn K L0=true) (FD:PySem.W.plainOver K L0=true) (E6:PySem.W.findIn K (.ref L0) "__setattr__"=some (some (.builtin "object.__setattr__"))) (HC:PySem.W.makesIn K L0=true) (Im:PySem.W.keepIn K (.ref L0)=true)
  (NT:PySem.W.nsIn K mainGlobals "Divide"=some (some (.ref L1))) (Gg:PySem.W.plainGet K L1 Str.empty=true) (IP:PySem.W.hasDictIn K L1=true) (FA:PySem.W.plainOver K L1=true) (EZ:PySem.W.findIn K (.ref L1) "__setattr__"=some (some (.builtin "object.__setattr__"))) (HB:PySem.W.makesIn K L1=true) (Il:PySem.W.keepIn K (.ref L1)=true)
  (NS:PySem.W.nsIn K mainGlobals "Fetch"=some (some (.ref L2))) (Ge:PySem.W.plainGet K L2 Str.empty=true) (IM:PySem.W.hasDictIn K L2=true) (Fz:PySem.W.plainOver K L2=true) (EY:PySem.W.findIn K (.ref L2) "__setattr__"=some (some (.builtin "object.__setattr__"))) (HA:PySem.W.makesIn K L2=true) (Ik:PySem.W.keepIn K (.ref L2)=true)
  (NR:PySem.W.nsIn K mainGlobals "Put"=some (some (.ref L3))) (Gb:PySem.W.plainGet K L3 Str.empty=true) (IL:PySem.W.hasDictIn K L3=true) (Fy:PySem.W.plainOver K L3=true) (EX:PySem.W.findIn K (.ref L3) "__setattr__"=some (some (.builtin "object.__setattr__"))) (Hz:PySem.W.makesIn K L3=true) (Ij:PySem.W.keepIn K (.ref L3)=true)
  (NQ:PySem.W.nsIn K mainGlobals "Make"=some (some (.ref L4))) (Ga:PySem.W.plainGet K L4 Str.empty=true) (IK:PySem.W.hasDictIn K L4=true) (Fx:PySem.W.plainOver K L4=true) (EW:PySem.W.findIn K (.ref L4) "__setattr__"=some (some (.builtin "object.__setattr__"))) (Hy:PySem.W.makesIn K L4=true) (Ii:PySem.W.keepIn K (.ref L4)=true)
  (NP:PySem.W.nsIn K mainGlobals "Claim"=some (some (.ref L5))) (FZ:PySem.W.plainGet K L5 Str.empty=true) (IJ:PySem.W.hasDictIn K L5=true) (Fw:PySem.W.plainOver K L5=true) (EV:PySem.W.findIn K (.ref L5) "__setattr__"=some (some (.builtin "object.__setattr__"))) (Hx:PySem.W.makesIn K L5=true) (Ih:PySem.W.keepIn K (.ref L5)=true)
  (NO:PySem.W.nsIn K mainGlobals "Call"=some (some (.ref L6))) (FY:PySem.W.plainGet K L6 Str.empty=true) (II:PySem.W.hasDictIn K L6=true) (Fv:PySem.W.plainOver K L6=true) (EU:PySem.W.findIn K (.ref L6) "__setattr__"=some (some (.builtin "object.__setattr__"))) (Hv:PySem.W.makesIn K L6=true) (Ig:PySem.W.keepIn K (.ref L6)=true)
  (NN:PySem.W.nsIn K mainGlobals "Choose"=some (some (.ref L7))) (FW:PySem.W.plainGet K L7 Str.empty=true) (IG:PySem.W.hasDictIn K L7=true) (Ft:PySem.W.plainOver K L7=true) (ET:PySem.W.findIn K (.ref L7) "__setattr__"=some (some (.builtin "object.__setattr__"))) (Hu:PySem.W.makesIn K L7=true) (Ie:PySem.W.keepIn K (.ref L7)=true)
  (NL:PySem.W.nsIn K mainGlobals "Repeat"=some (some (.ref L8))) (FU:PySem.W.plainGet K L8 Str.empty=true) (IF:PySem.W.hasDictIn K L8=true) (Fq:PySem.W.plainOver K L8=true) (ES:PySem.W.findIn K (.ref L8) "__setattr__"=some (some (.builtin "object.__setattr__"))) (Ht:PySem.W.makesIn K L8=true) (Ic:PySem.W.keepIn K (.ref L8)=true)
  (NV:PySem.W.nsIn K mainGlobals "Helper"=some (some (.ref Hp))) (Gj:PySem.W.plainGet K Hp Str.empty=true) (IS:PySem.W.hasDictIn K Hp=true) (FE:PySem.W.plainOver K Hp=true) (E7:PySem.W.findIn K (.ref Hp) "__setattr__"=some (some (.builtin "object.__setattr__"))) (HD:PySem.W.makesIn K Hp=true) (Io:PySem.W.keepIn K (.ref Hp)=true)
  (NK:PySem.W.nsIn K mainGlobals "Program"=some (some (.ref Pg))) (FQ:PySem.W.plainGet K Pg Str.empty=true) (IE:PySem.W.hasDictIn K Pg=true) (Fp:PySem.W.plainOver K Pg=true) (ER:PySem.W.findIn K (.ref Pg) "__setattr__"=some (some (.builtin "object.__setattr__"))) (Hs:PySem.W.makesIn K Pg=true) (HZ:PySem.W.keepIn K (.ref Pg)=true)
  (NJ:PySem.W.nsIn K mainGlobals "Step"=some (some (.ref Sp)))
  (Mm:PySem.W.findCls K (.ref Sp) (.type "type") "__init__"=some (.val (.ref QF)))
  (Ml:PySem.W.specialIn K (.ref Sp) "__getattribute__"=some (some (.builtin "type.__getattribute__")))
  (Mj:PySem.W.readsIn K Sp (.type "type")=true)
  (a1:PySem.W.findIn K (.ref Cs) "__init__"=some (some (.ref f1))) (i1:PySem.W.isFn K (.ref f1)=true)
  (l1:K.lookup f1=some ⟨oc1,od1,.func (PySem.W.fnOf "__init__" "Sum.__init__" (aO tQ) (av tQ) (ak tQ) .none kV1 dc1 pm1 an1 cd1 ct1),sl1⟩) (c1:PySem.W.codeIn K cd1 "Sum.__init__"=true) (k1:PySem.W.keepIn K (.ref f1)=true)
  (a2:PySem.W.findIn K (.ref Cs) "told"=some (some (.ref f2))) (i2:PySem.W.isFn K (.ref f2)=true)
  (l2:K.lookup f2=some ⟨oc2,od2,.func (PySem.W.fnOf "told" "Sum.told" (aO mT) (av mT) (ak mT) .none kV2 dc2 pm2 an2 cd2 ct2),sl2⟩) (c2:PySem.W.codeIn K cd2 "Sum.told"=true) (k2:PySem.W.keepIn K (.ref f2)=true)
  (a3:PySem.W.findIn K (.ref Cc) "__init__"=some (some (.ref f3))) (i3:PySem.W.isFn K (.ref f3)=true)
  (l3:K.lookup f3=some ⟨oc3,od3,.func (PySem.W.fnOf "__init__" "Compare.__init__" (aO mY) (av mY) (ak mY) .none kV3 dc3 pm3 an3 cd3 ct3),sl3⟩) (c3:PySem.W.codeIn K cd3 "Compare.__init__"=true) (k3:PySem.W.keepIn K (.ref f3)=true)
  (a4:PySem.W.findIn K (.ref Ct) "__init__"=some (some (.ref f4))) (i4:PySem.W.isFn K (.ref f4)=true)
  (l4:K.lookup f4=some ⟨oc4,od4,.func (PySem.W.fnOf "__init__" "Turned.__init__" (aO mR) (av mR) (ak mR) .none kV4 dc4 pm4 an4 cd4 ct4),sl4⟩) (c4:PySem.W.codeIn K cd4 "Turned.__init__"=true) (k4:PySem.W.keepIn K (.ref f4)=true)
  (a5:PySem.W.findIn K (.ref Ce) "__init__"=some (some (.ref f5))) (i5:PySem.W.isFn K (.ref f5)=true)
  (l5:K.lookup f5=some ⟨oc5,od5,.func (PySem.W.fnOf "__init__" "Several.__init__" (aO gX) (av gX) (ak gX) .none kV5 dc5 pm5 an5 cd5 ct5),sl5⟩) (c5:PySem.W.codeIn K cd5 "Several.__init__"=true) (k5:PySem.W.keepIn K (.ref f5)=true)
  (a6:PySem.W.findIn K (.ref Co) "__init__"=some (some (.ref f6))) (i6:PySem.W.isFn K (.ref f6)=true)
  (l6:K.lookup f6=some ⟨oc6,od6,.func (PySem.W.fnOf "__init__" "Several.__init__" (aO gX) (av gX) (ak gX) .none kV6 dc6 pm6 an6 cd6 ct6),sl6⟩) (c6:PySem.W.codeIn K cd6 "Several.__init__"=true) (k6:PySem.W.keepIn K (.ref f6)=true)
  (a7:PySem.W.findIn K (.ref Cc) "told"=some (some (.ref f7))) (i7:PySem.W.isFn K (.ref f7)=true)
  (l7:K.lookup f7=some ⟨oc7,od7,.func (PySem.W.fnOf "told" "Compare.told" (aO lE) (av lE) (ak lE) .none kV7 dc7 pm7 an7 cd7 ct7),sl7⟩) (c7:PySem.W.codeIn K cd7 "Compare.told"=true) (k7:PySem.W.keepIn K (.ref f7)=true)
  (a8:PySem.W.findIn K (.ref Ct) "told"=some (some (.ref f8))) (i8:PySem.W.isFn K (.ref f8)=true)
  (l8:K.lookup f8=some ⟨oc8,od8,.func (PySem.W.fnOf "told" "Turned.told" (aO kO) (av kO) (ak kO) .none kV8 dc8 pm8 an8 cd8 ct8),sl8⟩) (c8:PySem.W.codeIn K cd8 "Turned.told"=true) (k8:PySem.W.keepIn K (.ref f8)=true)
  (a9:PySem.W.findIn K (.ref Ce) "told"=some (some (.ref f9))) (i9:PySem.W.isFn K (.ref f9)=true)
  (l9:K.lookup f9=some ⟨oc9,od9,.func (PySem.W.fnOf "told" "Every.told" (aO lC) (av lC) (ak lC) .none kV9 dc9 pm9 an9 cd9 ct9),sl9⟩) (c9:PySem.W.codeIn K cd9 "Every.told"=true) (k9:PySem.W.keepIn K (.ref f9)=true)
  (a10:PySem.W.findIn K (.ref Co) "told"=some (some (.ref Vj))) (i10:PySem.W.isFn K (.ref Vj)=true)
  (JE:K.lookup Vj=some ⟨a0p,Zt,.func (PySem.W.fnOf "told" "Some.told" (aO kR) (av kR) (ak kR) .none a2E a5H Yq a8L Su a6P),W3⟩) (c10:PySem.W.codeIn K Su "Some.told"=true) (UC:PySem.W.keepIn K (.ref Vj)=true)
  (a11:PySem.W.findIn K (.ref L0) "__init__"=some (some (.ref QV))) (i11:PySem.W.isFn K (.ref QV)=true)
  (Nu:K.lookup QV=some ⟨a0o,Zs,.func (PySem.W.fnOf "__init__" "Let.__init__" (aO A5) (av A5) (ak A5) .none a2D a5G Yp a8K Ss a6O),W0⟩) (Sz:PySem.W.codeIn K Ss "Let.__init__"=true) (nP:PySem.W.keepIn K (.ref QV)=true)
  (a12:PySem.W.findIn K (.ref L1) "__init__"=some (some (.ref QU))) (i12:PySem.W.isFn K (.ref QU)=true)
  (ON:K.lookup QU=some ⟨a0n,Zr,.func (PySem.W.fnOf "__init__" "Divide.__init__" (aO A8) (av A8) (ak A8) .none a2C a5F Yo a8J So a6N),WZ⟩) (c12:PySem.W.codeIn K So "Divide.__init__"=true) (nO:PySem.W.keepIn K (.ref QU)=true)
  (a13:PySem.W.findIn K (.ref L2) "__init__"=some (some (.ref QT))) (i13:PySem.W.isFn K (.ref QT)=true)
  (Qm:K.lookup QT=some ⟨a0m,Zq,.func (PySem.W.fnOf "__init__" "Fetch.__init__" (aO A7) (av A7) (ak A7) .none a2B a5E Yn a8I Sn a6M),WY⟩) (c13:PySem.W.codeIn K Sn "Fetch.__init__"=true) (oQ:PySem.W.keepIn K (.ref QT)=true)
  (a14:PySem.W.findIn K (.ref L3) "__init__"=some (some (.ref QS))) (i14:PySem.W.isFn K (.ref QS)=true)
  (LB:K.lookup QS=some ⟨a0l,Zp,.func (PySem.W.fnOf "__init__" "Put.__init__" (aO A2) (av A2) (ak A2) .none a2A a5D Ym a8H Sm a6L),WX⟩) (c14:PySem.W.codeIn K Sm "Put.__init__"=true) (wO:PySem.W.keepIn K (.ref QS)=true)
  (a15:PySem.W.findIn K (.ref L4) "__init__"=some (some (.ref QO))) (i15:PySem.W.isFn K (.ref QO)=true)
  (Ql:K.lookup QO=some ⟨a0k,Zo,.func (PySem.W.fnOf "__init__" "Make.__init__" (aO A4) (av A4) (ak A4) .none a2z a5C Yl a8G Sl a6K),WW⟩) (Sy:PySem.W.codeIn K Sl "Make.__init__"=true) (k15:PySem.W.keepIn K (.ref QO)=true)
  (a16:PySem.W.findIn K (.ref L5) "__init__"=some (some (.ref QN))) (i16:PySem.W.isFn K (.ref QN)=true)
  (Qk:K.lookup QN=some ⟨a0j,Zn,.func (PySem.W.fnOf "__init__" "Claim.__init__" (aO A9) (av A9) (ak A9) .none a2y a5B Yk a8F Sk a6J),WV⟩) (c16:PySem.W.codeIn K Sk "Claim.__init__"=true) (k16:PySem.W.keepIn K (.ref QN)=true)
  (a17:PySem.W.findIn K (.ref L6) "__init__"=some (some (.ref QM))) (i17:PySem.W.isFn K (.ref QM)=true)
  (Qj:K.lookup QM=some ⟨a0i,Zm,.func (PySem.W.fnOf "__init__" "Call.__init__" (aO Ba) (av Ba) (ak Ba) .none a2x a5A Yj a8E Sj a6I),WU⟩) (c17:PySem.W.codeIn K Sj "Call.__init__"=true) (k17:PySem.W.keepIn K (.ref QM)=true)
  (a18:PySem.W.findIn K (.ref L7) "__init__"=some (some (.ref QL))) (i18:PySem.W.isFn K (.ref QL)=true)
  (l18:K.lookup QL=some ⟨a0h,Zl,.func (PySem.W.fnOf "__init__" "Choose.__init__" (aO Bb) (av Bb) (ak Bb) .none a2w a5z Yi a8D Si a6H),WT⟩) (c18:PySem.W.codeIn K Si "Choose.__init__"=true) (k18:PySem.W.keepIn K (.ref QL)=true)
  (a19:PySem.W.findIn K (.ref L8) "__init__"=some (some (.ref QK))) (i19:PySem.W.isFn K (.ref QK)=true)
  (l19:K.lookup QK=some ⟨a0g,Zk,.func (PySem.W.fnOf "__init__" "Repeat.__init__" (aO A0) (av A0) (ak A0) .none a2v a5y Yh a8C Sh a6G),WS⟩) (c19:PySem.W.codeIn K Sh "Repeat.__init__"=true) (k19:PySem.W.keepIn K (.ref QK)=true)
  (a20:PySem.W.findIn K (.ref L0) "told"=some (some (.ref Vi))) (i20:PySem.W.isFn K (.ref Vi)=true)
  (l20:K.lookup Vi=some ⟨a0f,Zj,.func (PySem.W.fnOf "told" "Let.told" (aO kX) (av kX) (ak kX) .none a2u a5x Yg a8B Sg a6F),WR⟩) (c20:PySem.W.codeIn K Sg "Let.told"=true) (UB:PySem.W.keepIn K (.ref Vi)=true)
  (a21:PySem.W.findIn K (.ref L1) "told"=some (some (.ref Vh))) (i21:PySem.W.isFn K (.ref Vh)=true)
  (l21:K.lookup Vh=some ⟨a0e,Zi,.func (PySem.W.fnOf "told" "Divide.told" (aO lD) (av lD) (ak lD) .none a2t a5w Ye a8A Se a6E),WQ⟩) (c21:PySem.W.codeIn K Se "Divide.told"=true) (UA:PySem.W.keepIn K (.ref Vh)=true)
  (a22:PySem.W.findIn K (.ref L2) "told"=some (some (.ref Vg))) (i22:PySem.W.isFn K (.ref Vg)=true)
  (l22:K.lookup Vg=some ⟨a0d,Zh,.func (PySem.W.fnOf "told" "Fetch.told" (aO lA) (av lA) (ak lA) .none a2s a5v Yd a8z Sd a6D),WO⟩) (c22:PySem.W.codeIn K Sd "Fetch.told"=true) (Uz:PySem.W.keepIn K (.ref Vg)=true)
  (a23:PySem.W.findIn K (.ref L3) "told"=some (some (.ref Vf))) (i23:PySem.W.isFn K (.ref Vf)=true)
  (l23:K.lookup Vf=some ⟨a0c,Zg,.func (PySem.W.fnOf "told" "Put.told" (aO kQ) (av kQ) (ak kQ) .none a2r a5u Yc a8y R9 a6C),WN⟩) (c23:PySem.W.codeIn K R9 "Put.told"=true) (Uy:PySem.W.keepIn K (.ref Vf)=true)
  (a24:PySem.W.findIn K (.ref L4) "told"=some (some (.ref Ve))) (i24:PySem.W.isFn K (.ref Ve)=true)
  (l24:K.lookup Ve=some ⟨a0b,Zf,.func (PySem.W.fnOf "told" "Make.told" (aO kW) (av kW) (ak kW) .none a2q a5t Yb a8x R7 a6B),WM⟩) (c24:PySem.W.codeIn K R7 "Make.told"=true) (Ux:PySem.W.keepIn K (.ref Ve)=true)
  (a25:PySem.W.findIn K (.ref L5) "told"=some (some (.ref Vd))) (i25:PySem.W.isFn K (.ref Vd)=true)
  (l25:K.lookup Vd=some ⟨a0a,Ze,.func (PySem.W.fnOf "told" "Claim.told" (aO ju) (av ju) (ak ju) .none a2p a5s X8 a8w R6 a6A),WK⟩) (c25:PySem.W.codeIn K R6 "Claim.told"=true) (Uw:PySem.W.keepIn K (.ref Vd)=true)
  (a26:PySem.W.findIn K (.ref L6) "told"=some (some (.ref Vc))) (i26:PySem.W.isFn K (.ref Vc)=true)
  (l26:K.lookup Vc=some ⟨Z9,Zd,.func (PySem.W.fnOf "told" "Call.told" (aO jv) (av jv) (ak jv) .none a2o a5r X7 a8v R5 a6z),WJ⟩) (c26:PySem.W.codeIn K R5 "Call.told"=true) (Uv:PySem.W.keepIn K (.ref Vc)=true)
  (a27:PySem.W.findIn K (.ref L7) "told"=some (some (.ref Vb))) (i27:PySem.W.isFn K (.ref Vb)=true)
  (l27:K.lookup Vb=some ⟨Z8,Zc,.func (PySem.W.fnOf "told" "Choose.told" (aO jw) (av jw) (ak jw) .none a2n a5q X6 a8u R4 a6y),WI⟩) (c27:PySem.W.codeIn K R4 "Choose.told"=true) (Uu:PySem.W.keepIn K (.ref Vb)=true)
  (a28:PySem.W.findIn K (.ref L8) "told"=some (some (.ref Va))) (i28:PySem.W.isFn K (.ref Va)=true)
  (l28:K.lookup Va=some ⟨Z7,Zb,.func (PySem.W.fnOf "told" "Repeat.told" (aO jr) (av jr) (ak jr) .none a2m a5p X5 a8t R3 a6x),WH⟩) (c28:PySem.W.codeIn K R3 "Repeat.told"=true) (Ut:PySem.W.keepIn K (.ref Va)=true)
  (a29:PySem.W.findIn K (.ref Hp) "__init__"=some (some (.ref QJ))) (i29:PySem.W.isFn K (.ref QJ)=true)
  (l29:K.lookup QJ=some ⟨Z6,Za,.func (PySem.W.fnOf "__init__" "Helper.__init__" (aO A6) (av A6) (ak A6) .none a2l a5o X4 a8s R1 a6w),WG⟩) (c29:PySem.W.codeIn K R1 "Helper.__init__"=true) (k29:PySem.W.keepIn K (.ref QJ)=true)
  (a30:PySem.W.findIn K (.ref Pg) "__init__"=some (some (.ref QI))) (i30:PySem.W.isFn K (.ref QI)=true)
  (l30:K.lookup QI=some ⟨Z5,Y9,.func (PySem.W.fnOf "__init__" "Program.__init__" (aO A3) (av A3) (ak A3) .none a2k a5n X3 a8r R0 a6v),WE⟩) (c30:PySem.W.codeIn K R0 "Program.__init__"=true) (k30:PySem.W.keepIn K (.ref QI)=true)
  (a31:PySem.W.findIn K (.ref Hp) "told"=some (some (.ref QH))) (i31:PySem.W.isFn K (.ref QH)=true)
  (l31:K.lookup QH=some ⟨Z4,Y8,.func (PySem.W.fnOf "told" "Helper.told" (aO mX) (av mX) (ak mX) .none a2j a5m X0 a8q RZ a6u),WD⟩) (c31:PySem.W.codeIn K RZ "Helper.told"=true) (Us:PySem.W.keepIn K (.ref QH)=true)
  (a32:PySem.W.findIn K (.ref Pg) "told"=some (some (.ref f32))) (i32:PySem.W.isFn K (.ref f32)=true)
  (l32:K.lookup f32=some ⟨Z3,Y7,.func (PySem.W.fnOf "told" "Program.told" (aO jZ) (av jZ) (ak jZ) .none a2i a5l XZ a8p RY a6t),WC⟩) (c32:PySem.W.codeIn K RY "Program.told"=true) (Ur:PySem.W.keepIn K (.ref f32)=true)
  (a33:PySem.W.findIn K (.ref Pg) "named"=some (some (.ref QG))) (i33:PySem.W.isFn K (.ref QG)=true)
  (l33:K.lookup QG=some ⟨Z2,Y6,.func (PySem.W.fnOf "named" "Program.named" (aO mU) (av mU) (ak mU) .none a2h a5k XY a8o RX a6s),WB⟩) (c33:PySem.W.codeIn K RX "Program.named"=true) (Uq:PySem.W.keepIn K (.ref QG)=true)
  (a34:PySem.W.nsIn K mainGlobals "sum_of"=some (some (.ref U9)))
  (l34:K.lookup U9=some ⟨Z1,Y5,.func (PySem.W.fnOf "sum_of" "sum_of" (aO mS) (av mS) (ak mS) .none a2g a5j XX a8n RW a6r),WA⟩) (c34:PySem.W.codeIn K RW "sum_of"=true) (Up:PySem.W.keepIn K (.ref U9)=true)
  (a35:PySem.W.nsIn K mainGlobals "as_pairs"=some (some (.ref U8)))
  (l35:K.lookup U8=some ⟨Z0,Y4,.func (PySem.W.fnOf "as_pairs" "as_pairs" (aO Bc) (av Bc) (ak Bc) .none a2f a5i XW a8m RV a6q),Wz⟩) (c35:PySem.W.codeIn K RV "as_pairs"=true) (Uo:PySem.W.keepIn K (.ref U8)=true)
  (OW:PySem.W.nsIn K mainGlobals "told_each"=some (some (.ref OS)))
  (l36:K.lookup OS=some ⟨ZZ,Y3,.func (PySem.W.fnOf "told_each" "told_each" (aO rK) (av rK) (ak rK) .none a2e a5h XU a8l RU a6p),Wy⟩) (c36:PySem.W.codeIn K RU "told_each"=true) (NC:PySem.W.keepIn K (.ref OS)=true)
  (a37:PySem.W.nsIn K mainGlobals "told_pairs"=some (some (.ref U7)))
  (l37:K.lookup U7=some ⟨ZY,Y0,.func (PySem.W.fnOf "told_pairs" "told_pairs" (aO AY) (av AY) (ak AY) .none a2d a5g XT a8k RT a6o),Wx⟩) (c37:PySem.W.codeIn K RT "told_pairs"=true) (Um:PySem.W.keepIn K (.ref U7)=true)
  (a38:PySem.W.nsIn K mainGlobals "_law_mixed"=some (some (.ref U6)))
  (l38:K.lookup U6=some ⟨ZX,YZ,.func (PySem.W.fnOf "_law_mixed" "_law_mixed" (aO mV) (av mV) (ak mV) .none a2c a5f XS a8j RS a6n),Ww⟩) (c38:PySem.W.codeIn K RS "_law_mixed"=true) (Ul:PySem.W.keepIn K (.ref U6)=true)
  (a39:PySem.W.nsIn K mainGlobals "_law_cell_at"=some (some (.ref U5)))
  (l39:K.lookup U5=some ⟨ZW,YY,.func (PySem.W.fnOf "_law_cell_at" "_law_cell_at" (aO j9) (av j9) (ak j9) .none a2b a5e XR a8i RQ a6m),Wv⟩) (c39:PySem.W.codeIn K RQ "_law_cell_at"=true) (Uk:PySem.W.keepIn K (.ref U5)=true)
  (a40:PySem.W.nsIn K mainGlobals "_law_next"=some (some (.ref U4)))
  (l40:K.lookup U4=some ⟨ZV,YX,.func (PySem.W.fnOf "_law_next" "_law_next" (aO tH) (av tH) (ak tH) .none a2a a5d XQ a8h RP a6l),Wu⟩) (c40:PySem.W.codeIn K RP "_law_next"=true) (Uj:PySem.W.keepIn K (.ref U4)=true)
  (a41:PySem.W.nsIn K mainGlobals "_law_kept"=some (some (.ref U3)))
  (l41:K.lookup U3=some ⟨ZU,YW,.func (PySem.W.fnOf "_law_kept" "_law_kept" (aO oA) (av oA) (ak oA) .none a1Z a5c XO a8g RO a6k),Wt⟩) (c41:PySem.W.codeIn K RO "_law_kept"=true) (Ui:PySem.W.keepIn K (.ref U3)=true)
  (a42:PySem.W.nsIn K mainGlobals "_law_names"=some (some (.ref U1)))
  (l42:K.lookup U1=some ⟨ZT,YV,.func (PySem.W.fnOf "_law_names" "_law_names" (aO kU) (av kU) (ak kU) .none a1Y a5b XN a8f RN a6j),Ws⟩) (c42:PySem.W.codeIn K RN "_law_names"=true) (Uh:PySem.W.keepIn K (.ref U1)=true)
  (a43:PySem.W.nsIn K mainGlobals "_law_sum"=some (some (.ref U0)))
  (l43:K.lookup U0=some ⟨ZS,YU,.func (PySem.W.fnOf "_law_sum" "_law_sum" (aO tK) (av tK) (ak tK) .none a1X a5a XM a8e RM a6i),Wr⟩) (c43:PySem.W.codeIn K RM "_law_sum"=true) (Ug:PySem.W.keepIn K (.ref U0)=true)
  (a44:PySem.W.nsIn K mainGlobals "_law_condition"=some (some (.ref f44)))
  (OM:K.lookup f44=some ⟨ZR,YT,.func (PySem.W.fnOf "_law_condition" "_law_condition" (aO kZ) (av kZ) (ak kZ) .none a1W a4Z XJ a8d RL a6h),Wq⟩) (c44:PySem.W.codeIn K RL "_law_condition"=true) (Ue:PySem.W.keepIn K (.ref f44)=true)
  (a45:PySem.W.nsIn K mainGlobals "_law_pairs_placed"=some (some (.ref UZ)))
  (l45:K.lookup UZ=some ⟨ZQ,YS,.func (PySem.W.fnOf "_law_pairs_placed" "_law_pairs_placed" (aO tN) (av tN) (ak tN) .none a1V a4Y XI a8c RK a6g),Wo⟩) (Sx:PySem.W.codeIn K RK "_law_pairs_placed"=true) (Ud:PySem.W.keepIn K (.ref UZ)=true)
  (Vt:PySem.W.nsIn K mainGlobals "_law_all_placed"=some (some (.ref UY)))
  (l46:K.lookup UY=some ⟨ZP,YR,.func (PySem.W.fnOf "_law_all_placed" "_law_all_placed" (aO qU) (av qU) (ak qU) .none a1U a4X XH a8b RJ a6f),Wn⟩) (c46:PySem.W.codeIn K RJ "_law_all_placed"=true) (Qs:PySem.W.keepIn K (.ref UY)=true)
  (a47:PySem.W.nsIn K mainGlobals "_law_placed"=some (some (.ref f47)))
  (l47:K.lookup f47=some ⟨ZO,YQ,.func (PySem.W.fnOf "_law_placed" "_law_placed" (aO xN) (av xN) (ak xN) .none a1T a4W XG a8a RI a6e),Wm⟩) (c47:PySem.W.codeIn K RI "_law_placed"=true) (NB:PySem.W.keepIn K (.ref f47)=true)
  (a48:PySem.W.nsIn K mainGlobals "_law_helper_placed"=some (some (.ref UX)))
  (l48:K.lookup UX=some ⟨ZN,YO,.func (PySem.W.fnOf "_law_helper_placed" "_law_helper_placed" (aO tO) (av tO) (ak tO) .none a1S a4V XF a79 RH a6d),Wl⟩) (c48:PySem.W.codeIn K RH "_law_helper_placed"=true) (Uc:PySem.W.keepIn K (.ref UX)=true)
  (a49:PySem.W.nsIn K mainGlobals "_law_sum_made"=some (some (.ref UW)))
  (l49:K.lookup UW=some ⟨ZM,YN,.func (PySem.W.fnOf "_law_sum_made" "_law_sum_made" (aO j4) (av j4) (ak j4) .none a1R a4U XE a78 RG a6c),Wk⟩) (c49:PySem.W.codeIn K RG "_law_sum_made"=true) (Ub:PySem.W.keepIn K (.ref UW)=true)
  (a50:PySem.W.nsIn K mainGlobals "_law_condition_made"=some (some (.ref f50)))
  (l50:K.lookup f50=some ⟨ZL,YM,.func (PySem.W.fnOf "_law_condition_made" "_law_condition_made" (aO jt) (av jt) (ak jt) .none a1Q a4T XD a77 RE a6b),Wj⟩) (c50:PySem.W.codeIn K RE "_law_condition_made"=true) (Ua:PySem.W.keepIn K (.ref f50)=true)
  (a51:PySem.W.nsIn K mainGlobals "_law_pairs_made"=some (some (.ref UU)))
  (l51:K.lookup UU=some ⟨ZK,YL,.func (PySem.W.fnOf "_law_pairs_made" "_law_pairs_made" (aO tM) (av tM) (ak tM) .none a1P a4S XC a76 RD a6a),Wi⟩) (c51:PySem.W.codeIn K RD "_law_pairs_made"=true) (T9:PySem.W.keepIn K (.ref UU)=true)
  (Vs:PySem.W.nsIn K mainGlobals "_law_steps_made"=some (some (.ref UT)))
  (l52:K.lookup UT=some ⟨ZJ,YK,.func (PySem.W.fnOf "_law_steps_made" "_law_steps_made" (aO kY) (av kY) (ak kY) .none a1O a4R XA a75 RC a5Z),Wh⟩) (c52:PySem.W.codeIn K RC "_law_steps_made"=true) (Qq:PySem.W.keepIn K (.ref UT)=true)
  (a53:PySem.W.nsIn K mainGlobals "_law_step_made"=some (some (.ref f53)))
  (l53:K.lookup f53=some ⟨ZI,YJ,.func (PySem.W.fnOf "_law_step_made" "_law_step_made" (aO qT) (av qT) (ak qT) .none a1N a4Q Xz a74 RB a5Y),Wg⟩) (c53:PySem.W.codeIn K RB "_law_step_made"=true) (T8:PySem.W.keepIn K (.ref f53)=true)
  (a54:PySem.W.nsIn K mainGlobals "_law_helper_made"=some (some (.ref US)))
  (l54:K.lookup US=some ⟨ZH,YI,.func (PySem.W.fnOf "_law_helper_made" "_law_helper_made" (aO tP) (av tP) (ak tP) .none a1M a4P Xy a73 RA a5X),Wf⟩) (c54:PySem.W.codeIn K RA "_law_helper_made"=true) (T6:PySem.W.keepIn K (.ref US)=true)
  (a55:PySem.W.nsIn K mainGlobals "_law_plain"=some (some (.ref UR)))
  (l55:K.lookup UR=some ⟨ZG,YH,.func (PySem.W.fnOf "_law_plain" "_law_plain" (aO j6) (av j6) (ak j6) .none a1L a4O Xx a72 Rz a5W),We⟩) (c55:PySem.W.codeIn K Rz "_law_plain"=true) (T5:PySem.W.keepIn K (.ref UR)=true)
  (Vr:PySem.W.nsIn K mainGlobals "_law_steps"=some (some (.ref UQ)))
  (l56:K.lookup UQ=some ⟨ZF,YG,.func (PySem.W.fnOf "_law_steps" "_law_steps" (aO iC) (av iC) (ak iC) .none a1K a4N Xw a71 Ry a5V),Wd⟩) (c56:PySem.W.codeIn K Ry "_law_steps"=true) (Qp:PySem.W.keepIn K (.ref UQ)=true)
  (a57:PySem.W.nsIn K mainGlobals "_law_call"=some (some (.ref UP)))
  (l57:K.lookup UP=some ⟨ZE,YF,.func (PySem.W.fnOf "_law_call" "_law_call" (aO j7) (av j7) (ak j7) .none a1J a4M Xv a70 Rx a5U),Wc⟩) (c57:PySem.W.codeIn K Rx "_law_call"=true) (T4:PySem.W.keepIn K (.ref UP)=true)
  (a58:PySem.W.nsIn K mainGlobals "_law_step"=some (some (.ref f58)))
  (l58:K.lookup f58=some ⟨ZD,YE,.func (PySem.W.fnOf "_law_step" "_law_step" (aO cE) (av cE) (ak cE) .none a1I a4L Xu a7Z Rw a5T),Wb⟩) (c58:PySem.W.codeIn K Rw "_law_step"=true) (T3:PySem.W.keepIn K (.ref f58)=true)
  (a59:PySem.W.nsIn K mainGlobals "_law_helper"=some (some (.ref UO)))
  (l59:K.lookup UO=some ⟨ZC,YD,.func (PySem.W.fnOf "_law_helper" "_law_helper" (aO iZ) (av iZ) (ak iZ) .none a1H a4K Xs a7Y Rv a5S),Wa⟩) (c59:PySem.W.codeIn K Rv "_law_helper"=true) (TZ:PySem.W.keepIn K (.ref UO)=true)
  (a60:PySem.W.nsIn K mainGlobals "_law_program"=some (some (.ref UN)))
  (l60:K.lookup UN=some ⟨ZA,YC,.func (PySem.W.fnOf "_law_program" "_law_program" (aO mW) (av mW) (ak mW) .none a1G a4J Xr a7X Ru a5R),V9⟩) (c60:PySem.W.codeIn K Ru "_law_program"=true) (TY:PySem.W.keepIn K (.ref UN)=true)
  (a61:PySem.W.nsIn K mainGlobals "_law_fields"=some (some (.ref f61)))
  (l61:K.lookup f61=some ⟨Zz,YB,.func (PySem.W.fnOf "_law_fields" "_law_fields" (aO eg) (av eg) (ak eg) .none a1F a4I Xq a7W Rt a5Q),V8⟩) (c61:PySem.W.codeIn K Rt "_law_fields"=true) (TX:PySem.W.keepIn K (.ref f61)=true)
  (a62:PySem.W.nsIn K mainGlobals "_law_block_fields"=some (some (.ref f62)))
  (l62:K.lookup f62=some ⟨Zy,YA,.func (PySem.W.fnOf "_law_block_fields" "_law_block_fields" (aO lg) (av lg) (ak lg) .none a1E a4H Xp a7V Rr a5P),V7⟩) (c62:PySem.W.codeIn K Rr "_law_block_fields"=true) (TV:PySem.W.keepIn K (.ref f62)=true)
  (Vq:PySem.W.nsIn K mainGlobals "_law_all_fields"=some (some (.ref UM)))
  (l63:K.lookup UM=some ⟨Zx,Yz,.func (PySem.W.fnOf "_law_all_fields" "_law_all_fields" (aO ly) (av ly) (ak ly) .none a1D a4G Xo a7U Rq a5O),V6⟩) (c63:PySem.W.codeIn K Rq "_law_all_fields"=true) (Qo:PySem.W.keepIn K (.ref UM)=true)
  (a64:PySem.W.nsIn K mainGlobals "_law_helper_right"=some (some (.ref f64)))
  (l64:K.lookup f64=some ⟨Zw,Yy,.func (PySem.W.fnOf "_law_helper_right" "_law_helper_right" (aO i0) (av i0) (ak i0) .none a1C a4F Xn a7T Rp a5N),V5⟩) (c64:PySem.W.codeIn K Rp "_law_helper_right"=true) (TU:PySem.W.keepIn K (.ref f64)=true)
  (a65:PySem.W.nsIn K mainGlobals "law"=some (some (.ref f65)))
  (l65:K.lookup f65=some ⟨Zv,Yx,.func (PySem.W.fnOf "law" "law" (aO jF) (av jF) (ak jF) .none Qn Rh Pz SE Ol Rm),V4⟩) (c65:PySem.W.codeIn K Ol "law"=true) (k65:PySem.W.keepIn K (.ref f65)=true)
  (l66:K.lookup QF=some ⟨Zu,Yw,.func (PySem.W.fnOf "__init__" "Step.__init__" (aO AZ) (av AZ) (ak AZ) .none a1B a4E Xm a7S Ro a5M),V3⟩) (c66:PySem.W.codeIn K Ro "Step.__init__"=true) (TR:PySem.W.keepIn K (.ref QF)=true)
  (nH:PySem.W.findIn K (.ref Cs) "terms"=some none)
  (lO:PySem.W.findIn K (.ref Cs) "number"=some none)
  (ue:PySem.W.findIn K (.ref Cc) "one"=some none)
  (qx:PySem.W.findIn K (.ref Cc) "sign"=some none)
  (nI:PySem.W.findIn K (.ref Cc) "other"=some none)
  (je:PySem.W.findIn K (.ref Ct) "condition"=some none)
  (iM:PySem.W.findIn K (.ref Ce) "conditions"=some none)
  (iL:PySem.W.findIn K (.ref Co) "conditions"=some none)
  (wH:PySem.W.findIn K (.ref L0) "at"=some none)
  (qu:PySem.W.findIn K (.ref L0) "name"=some none)
  (nD:PySem.W.findIn K (.ref L0) "total"=some none)
  (wG:PySem.W.findIn K (.ref L1) "at"=some none)
  (qt:PySem.W.findIn K (.ref L1) "name"=some none)
  (qp:PySem.W.findIn K (.ref L1) "word"=some none)
  (nC:PySem.W.findIn K (.ref L1) "total"=some none)
  (wF:PySem.W.findIn K (.ref L1) "by"=some none)
  (wD:PySem.W.findIn K (.ref L2) "at"=some none)
  (qo:PySem.W.findIn K (.ref L2) "name"=some none)
  (ud:PySem.W.findIn K (.ref L2) "row"=some none)
  (nB:PySem.W.findIn K (.ref L2) "place"=some none)
  (wC:PySem.W.findIn K (.ref L3) "at"=some none)
  (ua:PySem.W.findIn K (.ref L3) "row"=some none)
  (nA:PySem.W.findIn K (.ref L3) "place"=some none)
  (ny:PySem.W.findIn K (.ref L3) "total"=some none)
  (wB:PySem.W.findIn K (.ref L4) "at"=some none)
  (tZ:PySem.W.findIn K (.ref L4) "row"=some none)
  (qj:PySem.W.findIn K (.ref L4) "size"=some none)
  (wA:PySem.W.findIn K (.ref L5) "at"=some none)
  (jd:PySem.W.findIn K (.ref L5) "condition"=some none)
  (wz:PySem.W.findIn K (.ref L6) "at"=some none)
  (nu:PySem.W.findIn K (.ref L6) "names"=some none)
  (lK:PySem.W.findIn K (.ref L6) "helper"=some none)
  (nv:PySem.W.findIn K (.ref L6) "given"=some none)
  (wu:PySem.W.findIn K (.ref L7) "at"=some none)
  (jc:PySem.W.findIn K (.ref L7) "condition"=some none)
  (qi:PySem.W.findIn K (.ref L7) "then"=some none)
  (nk:PySem.W.findIn K (.ref L7) "other"=some none)
  (wo:PySem.W.findIn K (.ref L8) "at"=some none)
  (jb:PySem.W.findIn K (.ref L8) "condition"=some none)
  (ni:PySem.W.findIn K (.ref L8) "keeps"=some none)
  (nj:PySem.W.findIn K (.ref L8) "falls"=some none)
  (qg:PySem.W.findIn K (.ref L8) "body"=some none)
  (wI:PySem.W.findIn K (.ref Hp) "at"=some none)
  (qv:PySem.W.findIn K (.ref Hp) "name"=some none)
  (lM:PySem.W.findIn K (.ref Hp) "params"=some none)
  (ko:PySem.W.findIn K (.ref Hp) "answers"=some none)
  (nF:PySem.W.findIn K (.ref Hp) "needs"=some none)
  (nG:PySem.W.findIn K (.ref Hp) "gives"=some none)
  (nE:PySem.W.findIn K (.ref Hp) "steps"=some none)
  (kj:PySem.W.findIn K (.ref Pg) "helpers"=some none)
  (El:PySem.W.nsIn K mainGlobals "len"=some none)
  (Ej:PySem.W.nsIn K mainGlobals "sum"=some none)
  (sI:PySem.W.nsIn K mainGlobals "sorted"=some none)
  (yM:PySem.W.nsIn K mainGlobals "list"=some none)
  (vL:PySem.W.nsIn K mainGlobals "tuple"=some none)
  (jV:PySem.W.nsIn K mainGlobals "isinstance"=some none)
  (vM:PySem.W.nsIn K mainGlobals "range"=some none)
  (Ep:PySem.W.nsIn K mainGlobals "abs"=some none)
  (Ek:PySem.W.nsIn K mainGlobals "str"=some none)
  (Em:PySem.W.nsIn K mainGlobals "int"=some none)
  (yN:PySem.W.nsIn K mainGlobals "dict"=some none)
  (Eo:PySem.W.nsIn K mainGlobals "all"=some none)
  (En:PySem.W.nsIn K mainGlobals "any"=some none)
  (Mp:PySem.W.specialIn K (.builtin "object.__class__") "__get__"=some (some (.builtin "getset_descriptor.__get__")))
  (Mn:PySem.W.takesIn K (.builtin "object.__class__")=some true)
  (AU:PySem.W.findIn K (.ref Cs) "__class__"=some (some (.builtin "object.__class__")))
  (AI:PySem.W.mroIn K Cs (.type "object")=some true)
  (AS:PySem.W.findIn K (.ref L0) "__class__"=some (some (.builtin "object.__class__")))
  (AH:PySem.W.mroIn K L0 (.type "object")=some true)
  (AR:PySem.W.findIn K (.ref L1) "__class__"=some (some (.builtin "object.__class__")))
  (AG:PySem.W.mroIn K L1 (.type "object")=some true)
  (AQ:PySem.W.findIn K (.ref L2) "__class__"=some (some (.builtin "object.__class__")))
  (AF:PySem.W.mroIn K L2 (.type "object")=some true)
  (AO:PySem.W.findIn K (.ref L3) "__class__"=some (some (.builtin "object.__class__")))
  (AE:PySem.W.mroIn K L3 (.type "object")=some true)
  (AN:PySem.W.findIn K (.ref L4) "__class__"=some (some (.builtin "object.__class__")))
  (AD:PySem.W.mroIn K L4 (.type "object")=some true)
  (AM:PySem.W.findIn K (.ref L5) "__class__"=some (some (.builtin "object.__class__")))
  (AB:PySem.W.mroIn K L5 (.type "object")=some true)
  (AL:PySem.W.findIn K (.ref L6) "__class__"=some (some (.builtin "object.__class__")))
  (AA:PySem.W.mroIn K L6 (.type "object")=some true)
  (AK:PySem.W.findIn K (.ref L7) "__class__"=some (some (.builtin "object.__class__")))
  (Az:PySem.W.mroIn K L7 (.type "object")=some true)
  (AJ:PySem.W.findIn K (.ref L8) "__class__"=some (some (.builtin "object.__class__")))
  (Ay:PySem.W.mroIn K L8 (.type "object")=some true)
  (EC:PySem.W.findIn K (.ref Hp) "__ne__"=some (some (.builtin "object.__ne__")))
  (ED:PySem.W.findIn K (.ref Hp) "__eq__"=some (some (.builtin "object.__eq__")))
  (EB:PySem.W.mroIn K Hp (.type "object")=some true)
  (Ax:PySem.W.kitOne K (.ref L0) (.ref L0)=some true)
  (Aw:PySem.W.kitOne K (.ref L0) (.ref L1)=some false)
  (Av:PySem.W.kitOne K (.ref L0) (.ref L2)=some false)
  (Au:PySem.W.kitOne K (.ref L0) (.ref L3)=some false)
  (As:PySem.W.kitOne K (.ref L0) (.ref L4)=some false)
  (Aq:PySem.W.kitOne K (.ref L0) (.ref L5)=some false)
  (Ao:PySem.W.kitOne K (.ref L0) (.ref L6)=some false)
  (An:PySem.W.kitOne K (.ref L0) (.ref L7)=some false)
  (Am:PySem.W.kitOne K (.ref L0) (.ref L8)=some false)
  (EA:PySem.W.kitOne K (.ref L0) (.ref Sp)=some true)
  (Al:PySem.W.kitOne K (.ref L1) (.ref L0)=some false)
  (Ak:PySem.W.kitOne K (.ref L1) (.ref L1)=some true)
  (Aj:PySem.W.kitOne K (.ref L1) (.ref L2)=some false)
  (Ai:PySem.W.kitOne K (.ref L1) (.ref L3)=some false)
  (Ah:PySem.W.kitOne K (.ref L1) (.ref L4)=some false)
  (Ag:PySem.W.kitOne K (.ref L1) (.ref L5)=some false)
  (Af:PySem.W.kitOne K (.ref L1) (.ref L6)=some false)
  (Ae:PySem.W.kitOne K (.ref L1) (.ref L7)=some false)
  (Ad:PySem.W.kitOne K (.ref L1) (.ref L8)=some false)
  (Ez:PySem.W.kitOne K (.ref L1) (.ref Sp)=some true)
  (Ac:PySem.W.kitOne K (.ref L2) (.ref L0)=some false)
  (Ab:PySem.W.kitOne K (.ref L2) (.ref L1)=some false)
  (Aa:PySem.W.kitOne K (.ref L2) (.ref L2)=some true)
  (z9:PySem.W.kitOne K (.ref L2) (.ref L3)=some false)
  (z8:PySem.W.kitOne K (.ref L2) (.ref L4)=some false)
  (z0:PySem.W.kitOne K (.ref L2) (.ref L5)=some false)
  (zZ:PySem.W.kitOne K (.ref L2) (.ref L6)=some false)
  (zY:PySem.W.kitOne K (.ref L2) (.ref L7)=some false)
  (zX:PySem.W.kitOne K (.ref L2) (.ref L8)=some false)
  (Ey:PySem.W.kitOne K (.ref L2) (.ref Sp)=some true)
  (zW:PySem.W.kitOne K (.ref L3) (.ref L0)=some false)
  (zV:PySem.W.kitOne K (.ref L3) (.ref L1)=some false)
  (zU:PySem.W.kitOne K (.ref L3) (.ref L2)=some false)
  (zT:PySem.W.kitOne K (.ref L3) (.ref L3)=some true)
  (zS:PySem.W.kitOne K (.ref L3) (.ref L4)=some false)
  (zR:PySem.W.kitOne K (.ref L3) (.ref L5)=some false)
  (zQ:PySem.W.kitOne K (.ref L3) (.ref L6)=some false)
  (zP:PySem.W.kitOne K (.ref L3) (.ref L7)=some false)
  (zO:PySem.W.kitOne K (.ref L3) (.ref L8)=some false)
  (Ex:PySem.W.kitOne K (.ref L3) (.ref Sp)=some true)
  (zN:PySem.W.kitOne K (.ref L4) (.ref L0)=some false)
  (zM:PySem.W.kitOne K (.ref L4) (.ref L1)=some false)
  (zK:PySem.W.kitOne K (.ref L4) (.ref L2)=some false)
  (zJ:PySem.W.kitOne K (.ref L4) (.ref L3)=some false)
  (zI:PySem.W.kitOne K (.ref L4) (.ref L4)=some true)
  (zH:PySem.W.kitOne K (.ref L4) (.ref L5)=some false)
  (zG:PySem.W.kitOne K (.ref L4) (.ref L6)=some false)
  (zF:PySem.W.kitOne K (.ref L4) (.ref L7)=some false)
  (zE:PySem.W.kitOne K (.ref L4) (.ref L8)=some false)
  (Ew:PySem.W.kitOne K (.ref L4) (.ref Sp)=some true)
  (zD:PySem.W.kitOne K (.ref L5) (.ref L0)=some false)
  (zC:PySem.W.kitOne K (.ref L5) (.ref L1)=some false)
  (zB:PySem.W.kitOne K (.ref L5) (.ref L2)=some false)
  (zA:PySem.W.kitOne K (.ref L5) (.ref L3)=some false)
  (zz:PySem.W.kitOne K (.ref L5) (.ref L4)=some false)
  (zy:PySem.W.kitOne K (.ref L5) (.ref L5)=some true)
  (zx:PySem.W.kitOne K (.ref L5) (.ref L6)=some false)
  (zu:PySem.W.kitOne K (.ref L5) (.ref L7)=some false)
  (zq:PySem.W.kitOne K (.ref L5) (.ref L8)=some false)
  (Eu:PySem.W.kitOne K (.ref L5) (.ref Sp)=some true)
  (zp:PySem.W.kitOne K (.ref L6) (.ref L0)=some false)
  (zo:PySem.W.kitOne K (.ref L6) (.ref L1)=some false)
  (zm:PySem.W.kitOne K (.ref L6) (.ref L2)=some false)
  (zl:PySem.W.kitOne K (.ref L6) (.ref L3)=some false)
  (zk:PySem.W.kitOne K (.ref L6) (.ref L4)=some false)
  (zj:PySem.W.kitOne K (.ref L6) (.ref L5)=some false)
  (zh:PySem.W.kitOne K (.ref L6) (.ref L6)=some true)
  (zg:PySem.W.kitOne K (.ref L6) (.ref L7)=some false)
  (zf:PySem.W.kitOne K (.ref L6) (.ref L8)=some false)
  (Et:PySem.W.kitOne K (.ref L6) (.ref Sp)=some true)
  (ze:PySem.W.kitOne K (.ref L7) (.ref L0)=some false)
  (zd:PySem.W.kitOne K (.ref L7) (.ref L1)=some false)
  (zc:PySem.W.kitOne K (.ref L7) (.ref L2)=some false)
  (zb:PySem.W.kitOne K (.ref L7) (.ref L3)=some false)
  (za:PySem.W.kitOne K (.ref L7) (.ref L4)=some false)
  (y9:PySem.W.kitOne K (.ref L7) (.ref L5)=some false)
  (yZ:PySem.W.kitOne K (.ref L7) (.ref L6)=some false)
  (yY:PySem.W.kitOne K (.ref L7) (.ref L7)=some true)
  (yX:PySem.W.kitOne K (.ref L7) (.ref L8)=some false)
  (Es:PySem.W.kitOne K (.ref L7) (.ref Sp)=some true)
  (yW:PySem.W.kitOne K (.ref L8) (.ref L0)=some false)
  (yV:PySem.W.kitOne K (.ref L8) (.ref L1)=some false)
  (yU:PySem.W.kitOne K (.ref L8) (.ref L2)=some false)
  (yT:PySem.W.kitOne K (.ref L8) (.ref L3)=some false)
  (yS:PySem.W.kitOne K (.ref L8) (.ref L4)=some false)
  (yR:PySem.W.kitOne K (.ref L8) (.ref L5)=some false)
  (yQ:PySem.W.kitOne K (.ref L8) (.ref L6)=some false)
  (yP:PySem.W.kitOne K (.ref L8) (.ref L7)=some false)
  (yO:PySem.W.kitOne K (.ref L8) (.ref L8)=some true)
  (Er:PySem.W.kitOne K (.ref L8) (.ref Sp)=some true)
 :∃fd:FuncData,(∀(s:Shared) (v:Value),BindsTo s fd ⟨[v],[]⟩ [("_law_script",v)])∧∀base:Heap,K.In base→base.Ns mainGlobals mg→bH l.prog w K mg base dg 20 fa fd ["_law_script"] (BV K):=by
 have e:=hfa.symm.trans (PySem.W.mg_of X G a65)
 cases e
 let Y:Cy:=(⟨⟨Cs,Cc,Ct,Ce,Co⟩,Sp,L0,L1,L2,L3,L4,L5,L6,L7,L8,Hp,Pg⟩:Cy)
 have T:Txt K mg Y.z.s:=⟨⟨Gm,IU,FG,E9⟩,nH,lO,PySem.W.mg_of X G NX,PySem.W.mg_none_of X G El,PySem.W.mg_none_of X G Ej,PySem.W.mg_none_of X G sI,PySem.W.mg_none_of X G yM,PySem.W.mg_none_of X G vL,PySem.W.mg_none_of X G jV,PySem.W.mg_none_of X G vM,PySem.W.mg_none_of X G Ep,PySem.W.mg_none_of X G Ek,PySem.W.mg_none_of X G Em,PySem.W.mg_none_of X G yN,AU,Mp,Mn,AI,Kn K Cs,Km K⟩
 have cl4:∀j,j<4→uY K (mK Y.z j):=zzF ⟨Gq,IX,FJ,Fd⟩ ⟨Gk,IT,FF,E8⟩ ⟨Gp,IW,FI,Fc⟩ ⟨Gn,IV,FH,Fb⟩
 have U:dW K mg Y.z:=⟨cl4,ue,qx,nI,je,iM,iL,PySem.W.mg_of X G N1,PySem.W.mg_of X G NW,PySem.W.mg_of X G NZ,PySem.W.mg_of X G NY,PySem.W.mg_none_of X G Eo,PySem.W.mg_none_of X G En⟩
 have cl9:∀j,j<9→uY K (eY Y j):=zzN ⟨Gi,IQ,FD,E6⟩ ⟨Gg,IP,FA,EZ⟩ ⟨Ge,IM,Fz,EY⟩ ⟨Gb,IL,Fy,EX⟩ ⟨Ga,IK,Fx,EW⟩ ⟨FZ,IJ,Fw,EV⟩ ⟨FY,II,Fv,EU⟩ ⟨FW,IG,Ft,ET⟩ ⟨FU,IF,Fq,ES⟩
 have na9:∀j x,j<9→x∈fN j→eZ K (eY Y j) x:=by
  intro j x hj
  revert x
  refine zzN (P:=fun j=>∀x,x∈fN j→eZ K (eY Y j) x) ?_ ?_ ?_ ?_ ?_ ?_ ?_ ?_ ?_ j hj
  ·intro x hx
   rcases List.mem_cons.mp hx with e | hx
   ·rw [e];exact wH
   rcases List.mem_cons.mp hx with e | hx
   ·rw [e];exact qu
   rcases List.mem_cons.mp hx with e | hx
   ·rw [e];exact nD
   exact absurd hx List.not_mem_nil
  ·intro x hx
   rcases List.mem_cons.mp hx with e | hx
   ·rw [e];exact wG
   rcases List.mem_cons.mp hx with e | hx
   ·rw [e];exact qt
   rcases List.mem_cons.mp hx with e | hx
   ·rw [e];exact qp
   rcases List.mem_cons.mp hx with e | hx
   ·rw [e];exact nC
   rcases List.mem_cons.mp hx with e | hx
   ·rw [e];exact wF
   exact absurd hx List.not_mem_nil
  ·intro x hx
   rcases List.mem_cons.mp hx with e | hx
   ·rw [e];exact wD
   rcases List.mem_cons.mp hx with e | hx
   ·rw [e];exact qo
   rcases List.mem_cons.mp hx with e | hx
   ·rw [e];exact ud
   rcases List.mem_cons.mp hx with e | hx
   ·rw [e];exact nB
   exact absurd hx List.not_mem_nil
  ·intro x hx
   rcases List.mem_cons.mp hx with e | hx
   ·rw [e];exact wC
   rcases List.mem_cons.mp hx with e | hx
   ·rw [e];exact ua
   rcases List.mem_cons.mp hx with e | hx
   ·rw [e];exact nA
   rcases List.mem_cons.mp hx with e | hx
   ·rw [e];exact ny
   exact absurd hx List.not_mem_nil
  ·intro x hx
   rcases List.mem_cons.mp hx with e | hx
   ·rw [e];exact wB
   rcases List.mem_cons.mp hx with e | hx
   ·rw [e];exact tZ
   rcases List.mem_cons.mp hx with e | hx
   ·rw [e];exact qj
   exact absurd hx List.not_mem_nil
  ·intro x hx
   rcases List.mem_cons.mp hx with e | hx
   ·rw [e];exact wA
   rcases List.mem_cons.mp hx with e | hx
   ·rw [e];exact jd
   exact absurd hx List.not_mem_nil
  ·intro x hx
   rcases List.mem_cons.mp hx with e | hx
   ·rw [e];exact wz
   rcases List.mem_cons.mp hx with e | hx
   ·rw [e];exact nu
   rcases List.mem_cons.mp hx with e | hx
   ·rw [e];exact lK
   rcases List.mem_cons.mp hx with e | hx
   ·rw [e];exact nv
   exact absurd hx List.not_mem_nil
  ·intro x hx
   rcases List.mem_cons.mp hx with e | hx
   ·rw [e];exact wu
   rcases List.mem_cons.mp hx with e | hx
   ·rw [e];exact jc
   rcases List.mem_cons.mp hx with e | hx
   ·rw [e];exact qi
   rcases List.mem_cons.mp hx with e | hx
   ·rw [e];exact nk
   exact absurd hx List.not_mem_nil
  ·intro x hx
   rcases List.mem_cons.mp hx with e | hx
   ·rw [e];exact wo
   rcases List.mem_cons.mp hx with e | hx
   ·rw [e];exact jb
   rcases List.mem_cons.mp hx with e | hx
   ·rw [e];exact ni
   rcases List.mem_cons.mp hx with e | hx
   ·rw [e];exact nj
   rcases List.mem_cons.mp hx with e | hx
   ·rw [e];exact qg
   exact absurd hx List.not_mem_nil
 have naH:∀x∈hN,eZ K Hp x:=by
  intro x hx
  rcases List.mem_cons.mp hx with e | hx
  ·rw [e];exact wI
  rcases List.mem_cons.mp hx with e | hx
  ·rw [e];exact qv
  rcases List.mem_cons.mp hx with e | hx
  ·rw [e];exact lM
  rcases List.mem_cons.mp hx with e | hx
  ·rw [e];exact ko
  rcases List.mem_cons.mp hx with e | hx
  ·rw [e];exact nF
  rcases List.mem_cons.mp hx with e | hx
  ·rw [e];exact nG
  rcases List.mem_cons.mp hx with e | hx
  ·rw [e];exact nE
  exact absurd hx List.not_mem_nil
 have J:eW K mg Y QF:=⟨cl9,na9,⟨Gj,IS,FE,E7⟩,naH,⟨FQ,IE,Fp,ER⟩,kj,PySem.W.mg_of X G NJ,PySem.W.mg_of X G NU,PySem.W.mg_of X G NT,PySem.W.mg_of X G NS,PySem.W.mg_of X G NR,PySem.W.mg_of X G NQ,PySem.W.mg_of X G NP,PySem.W.mg_of X G NO,PySem.W.mg_of X G NN,PySem.W.mg_of X G NL,PySem.W.mg_of X G NV,PySem.W.mg_of X G NK,Ml,Mj,Mm,rfl,TR⟩
 have W_:Js K Y:=⟨zzN AS AR AQ AO AN AM AL AK AJ
  ,zzN AH AG AF AE AD AB AA Az Ay
  ,zzM (zzN Ax Aw Av Au As Aq Ao An Am) (zzN Al Ak Aj Ai Ah Ag Af Ae Ad) (zzN Ac Ab Aa z9 z8 z0 zZ zY zX) (zzN zW zV zU zT zS zR zQ zP zO) (zzN zN zM zK zJ zI zH zG zF zE) (zzN zD zC zB zA zz zy zx zu zq) (zzN zp zo zm zl zk zj zh zg zf) (zzN ze zd zc zb za y9 yZ yY yX) (zzN yW yV yU yT yS yR yQ yP yO)
  ,zzN EA Ez Ey Ex Ew Eu Et Es Er
  ⟩
 have N_:BF K Y:=⟨EC,ED,EB⟩
 have F1:=bq (st:=tQ) l1 c1 k1
 have b1:=F1.binds (ps:=["self","terms","number"]) fun _ _ _ _ _ _ us hl=>zzu3 us hl fun _ _ _=>rfl
 have F2:=bq (st:=mT) l2 c2 k2
 have b2:=F2.binds (ps:=["self"]) fun _ _ _ _ _ _ us hl=>zzu1 us hl fun _=>rfl
 have F3:=bq (st:=mY) l3 c3 k3
 have b3:=F3.binds (ps:=["self","one","sign","other"]) fun _ _ _ _ _ _ us hl=>zzu4 us hl fun _ _ _ _=>rfl
 have F4:=bq (st:=mR) l4 c4 k4
 have b4:=F4.binds (ps:=["self","condition"]) fun _ _ _ _ _ _ us hl=>zzu2 us hl fun _ _=>rfl
 have F5:=bq (st:=gX) l5 c5 k5
 have b5:=F5.binds (ps:=["self","conditions"]) fun _ _ _ _ _ _ us hl=>zzu2 us hl fun _ _=>rfl
 have F6:=bq (st:=gX) l6 c6 k6
 have b6:=F6.binds (ps:=["self","conditions"]) fun _ _ _ _ _ _ us hl=>zzu2 us hl fun _ _=>rfl
 have F7:=bq (st:=lE) l7 c7 k7
 have b7:=F7.binds (ps:=["self"]) fun _ _ _ _ _ _ us hl=>zzu1 us hl fun _=>rfl
 have F8:=bq (st:=kO) l8 c8 k8
 have b8:=F8.binds (ps:=["self"]) fun _ _ _ _ _ _ us hl=>zzu1 us hl fun _=>rfl
 have F9:=bq (st:=lC) l9 c9 k9
 have b9:=F9.binds (ps:=["self"]) fun _ _ _ _ _ _ us hl=>zzu1 us hl fun _=>rfl
 have F10:=bq (st:=kR) JE c10 UC
 have b10:=F10.binds (ps:=["self"]) fun _ _ _ _ _ _ us hl=>zzu1 us hl fun _=>rfl
 have F11:=bq (st:=A5) Nu Sz nP
 have mj:=F11.binds (ps:=["self","at","name","total"]) fun _ _ _ _ _ _ us hl=>zzu4 us hl fun _ _ _ _=>rfl
 have F12:=bq (st:=A8) ON c12 nO
 have yz:=F12.binds (ps:=["self","at","name","word","total","by"]) fun _ _ _ _ _ _ us hl=>zzu6 us hl fun _ _ _ _ _ _=>rfl
 have F13:=bq (st:=A7) Qm c13 oQ
 have Jp:=F13.binds (ps:=["self","at","name","row","place"]) fun _ _ _ _ _ _ us hl=>zzu5 us hl fun _ _ _ _ _=>rfl
 have F14:=bq (st:=A2) LB c14 wO
 have LS:=F14.binds (ps:=["self","at","row","place","total"]) fun _ _ _ _ _ _ us hl=>zzu5 us hl fun _ _ _ _ _=>rfl
 have F15:=bq (st:=A4) Ql Sy k15
 have LR:=F15.binds (ps:=["self","at","row","size"]) fun _ _ _ _ _ _ us hl=>zzu4 us hl fun _ _ _ _=>rfl
 have F16:=bq (st:=A9) Qk c16 k16
 have b16:=F16.binds (ps:=["self","at","condition"]) fun _ _ _ _ _ _ us hl=>zzu3 us hl fun _ _ _=>rfl
 have F17:=bq (st:=Ba) Qj c17 k17
 have b17:=F17.binds (ps:=["self","at","names","helper","given"]) fun _ _ _ _ _ _ us hl=>zzu5 us hl fun _ _ _ _ _=>rfl
 have F18:=bq (st:=Bb) l18 c18 k18
 have b18:=F18.binds (ps:=["self","at","condition","then","other"]) fun _ _ _ _ _ _ us hl=>zzu5 us hl fun _ _ _ _ _=>rfl
 have F19:=bq (st:=A0) l19 c19 k19
 have b19:=F19.binds (ps:=["self","at","condition","keeps","falls","body"]) fun _ _ _ _ _ _ us hl=>zzu6 us hl fun _ _ _ _ _ _=>rfl
 have F20:=bq (st:=kX) l20 c20 UB
 have b20:=F20.binds (ps:=["self"]) fun _ _ _ _ _ _ us hl=>zzu1 us hl fun _=>rfl
 have F21:=bq (st:=lD) l21 c21 UA
 have b21:=F21.binds (ps:=["self"]) fun _ _ _ _ _ _ us hl=>zzu1 us hl fun _=>rfl
 have F22:=bq (st:=lA) l22 c22 Uz
 have b22:=F22.binds (ps:=["self"]) fun _ _ _ _ _ _ us hl=>zzu1 us hl fun _=>rfl
 have F23:=bq (st:=kQ) l23 c23 Uy
 have b23:=F23.binds (ps:=["self"]) fun _ _ _ _ _ _ us hl=>zzu1 us hl fun _=>rfl
 have F24:=bq (st:=kW) l24 c24 Ux
 have b24:=F24.binds (ps:=["self"]) fun _ _ _ _ _ _ us hl=>zzu1 us hl fun _=>rfl
 have F25:=bq (st:=ju) l25 c25 Uw
 have b25:=F25.binds (ps:=["self"]) fun _ _ _ _ _ _ us hl=>zzu1 us hl fun _=>rfl
 have F26:=bq (st:=jv) l26 c26 Uv
 have b26:=F26.binds (ps:=["self"]) fun _ _ _ _ _ _ us hl=>zzu1 us hl fun _=>rfl
 have F27:=bq (st:=jw) l27 c27 Uu
 have b27:=F27.binds (ps:=["self"]) fun _ _ _ _ _ _ us hl=>zzu1 us hl fun _=>rfl
 have F28:=bq (st:=jr) l28 c28 Ut
 have b28:=F28.binds (ps:=["self"]) fun _ _ _ _ _ _ us hl=>zzu1 us hl fun _=>rfl
 have F29:=bq (st:=A6) l29 c29 k29
 have b29:=F29.binds (ps:=["self","at","name","params","answers","needs","gives","steps"]) fun _ _ _ _ _ _ us hl=>zzu8 us hl fun _ _ _ _ _ _ _ _=>rfl
 have F30:=bq (st:=A3) l30 c30 k30
 have b30:=F30.binds (ps:=["self","helpers"]) fun _ _ _ _ _ _ us hl=>zzu2 us hl fun _ _=>rfl
 have F31:=bq (st:=mX) l31 c31 Us
 have b31:=F31.binds (ps:=["self"]) fun _ _ _ _ _ _ us hl=>zzu1 us hl fun _=>rfl
 have F32:=bq (st:=jZ) l32 c32 Ur
 have b32:=F32.binds (ps:=["self"]) fun _ _ _ _ _ _ us hl=>zzu1 us hl fun _=>rfl
 have F33:=bq (st:=mU) l33 c33 Uq
 have b33:=F33.binds (ps:=["self","name"]) fun _ _ _ _ _ _ us hl=>zzu2 us hl fun _ _=>rfl
 have F34:=bq (st:=mS) l34 c34 Up
 have b34:=F34.binds (ps:=["pairs","number"]) fun _ _ _ _ _ _ us hl=>zzu2 us hl fun _ _=>rfl
 have F35:=bq (st:=Bc) l35 c35 Uo
 have b35:=F35.binds (ps:=["pairs"]) fun _ _ _ _ _ _ us hl=>zzu1 us hl fun _=>rfl
 have SR:=bq (st:=rK) l36 c36 NC
 have Vp:=SR.binds (ps:=["parts"]) fun _ _ _ _ _ _ us hl=>zzu1 us hl fun _=>rfl
 have F37:=bq (st:=AY) l37 c37 Um
 have b37:=F37.binds (ps:=["pairs"]) fun _ _ _ _ _ _ us hl=>zzu1 us hl fun _=>rfl
 have F38:=bq (st:=mV) l38 c38 Ul
 have b38:=F38.binds (ps:=["_law_cell","_law_k"]) fun _ _ _ _ _ _ us hl=>zzu2 us hl fun _ _=>rfl
 have F39:=bq (st:=j9) l39 c39 Uk
 have b39:=F39.binds (ps:=["_law_script","_law_k"]) fun _ _ _ _ _ _ us hl=>zzu2 us hl fun _ _=>rfl
 have F40:=bq (st:=tH) l40 c40 Uj
 have b40:=F40.binds (ps:=["_law_draw","_law_size"]) fun _ _ _ _ _ _ us hl=>zzu2 us hl fun _ _=>rfl
 have F41:=bq (st:=oA) l41 c41 Ui
 have LQ:=F41.binds (ps:=[]) fun _ _ _ _ _ _ us hl=>zzu0 us hl rfl
 have F42:=bq (st:=kU) l42 c42 Uh
 have LP:=F42.binds (ps:=["_law_draw","_law_many"]) fun _ _ _ _ _ _ us hl=>zzu2 us hl fun _ _=>rfl
 have F43:=bq (st:=tK) l43 c43 Ug
 have Vo:=F43.binds (ps:=["_law_draw","_law_things"]) fun _ _ _ _ _ _ us hl=>zzu2 us hl fun _ _=>rfl
 have F44:=bq (st:=kZ) OM c44 Ue
 have Vn:=F44.binds (ps:=["_law_draw","_law_things","_law_deep"]) fun _ _ _ _ _ _ us hl=>zzu3 us hl fun _ _ _=>rfl
 have F45:=bq (st:=tN) l45 Sx Ud
 have Vm:=F45.binds (ps:=["_law_conditions","_law_draw"]) fun _ _ _ _ _ _ us hl=>zzu2 us hl fun _ _=>rfl
 have F46:=bq (st:=qU) l46 c46 Qs
 have b46:=F46.binds (ps:=["_law_steps_here","_law_draw"]) fun _ _ _ _ _ _ us hl=>zzu2 us hl fun _ _=>rfl
 have F47:=bq (st:=xN) l47 c47 NB
 have b47:=F47.binds (ps:=["_law_step_here","_law_draw"]) fun _ _ _ _ _ _ us hl=>zzu2 us hl fun _ _=>rfl
 have F48:=bq (st:=tO) l48 c48 Uc
 have b48:=F48.binds (ps:=["_law_helper_here","_law_draw"]) fun _ _ _ _ _ _ us hl=>zzu2 us hl fun _ _=>rfl
 have F49:=bq (st:=j4) l49 c49 Ub
 have b49:=F49.binds (ps:=["_law_one"]) fun _ _ _ _ _ _ us hl=>zzu1 us hl fun _=>rfl
 have F50:=bq (st:=jt) l50 c50 Ua
 have b50:=F50.binds (ps:=["_law_told"]) fun _ _ _ _ _ _ us hl=>zzu1 us hl fun _=>rfl
 have F51:=bq (st:=tM) l51 c51 T9
 have b51:=F51.binds (ps:=["_law_pairs"]) fun _ _ _ _ _ _ us hl=>zzu1 us hl fun _=>rfl
 have F52:=bq (st:=kY) l52 c52 Qq
 have b52:=F52.binds (ps:=["_law_steps_here"]) fun _ _ _ _ _ _ us hl=>zzu1 us hl fun _=>rfl
 have F53:=bq (st:=qT) l53 c53 T8
 have b53:=F53.binds (ps:=["_law_told"]) fun _ _ _ _ _ _ us hl=>zzu1 us hl fun _=>rfl
 have F54:=bq (st:=tP) l54 c54 T6
 have b54:=F54.binds (ps:=["_law_told"]) fun _ _ _ _ _ _ us hl=>zzu1 us hl fun _=>rfl
 have F55:=bq (st:=j6) l55 c55 T5
 have b55:=F55.binds (ps:=["_law_helpers"]) fun _ _ _ _ _ _ us hl=>zzu1 us hl fun _=>rfl
 have F56:=bq (st:=iC) l56 c56 Qp
 have b56:=F56.binds (ps:=["_law_draw","_law_own","_law_many","_law_deep","_law_helpers"]) fun _ _ _ _ _ _ us hl=>zzu5 us hl fun _ _ _ _ _=>rfl
 have F57:=bq (st:=j7) l57 c57 T4
 have b57:=F57.binds (ps:=["_law_draw","_law_own","_law_helper_here"]) fun _ _ _ _ _ _ us hl=>zzu3 us hl fun _ _ _=>rfl
 have F58:=bq (st:=cE) l58 c58 T3
 have b58:=F58.binds (ps:=["_law_draw","_law_own","_law_deep","_law_helpers"]) fun _ _ _ _ _ _ us hl=>zzu4 us hl fun _ _ _ _=>rfl
 have F59:=bq (st:=iZ) l59 c59 TZ
 have b59:=F59.binds (ps:=["_law_draw","_law_name","_law_names_here","_law_many","_law_helpers"]) fun _ _ _ _ _ _ us hl=>zzu5 us hl fun _ _ _ _ _=>rfl
 have F60:=bq (st:=mW) l60 c60 TY
 have b60:=F60.binds (ps:=["_law_draw","_law_many"]) fun _ _ _ _ _ _ us hl=>zzu2 us hl fun _ _=>rfl
 have F61:=bq (st:=eg) l61 c61 TX
 have b61:=F61.binds (ps:=["_law_step_here","_law_told"]) fun _ _ _ _ _ _ us hl=>zzu2 us hl fun _ _=>rfl
 have F62:=bq (st:=lg) l62 c62 TV
 have b62:=F62.binds (ps:=["_law_step_here","_law_told"]) fun _ _ _ _ _ _ us hl=>zzu2 us hl fun _ _=>rfl
 have F63:=bq (st:=ly) l63 c63 Qo
 have b63:=F63.binds (ps:=["_law_steps_here","_law_told"]) fun _ _ _ _ _ _ us hl=>zzu2 us hl fun _ _=>rfl
 have F64:=bq (st:=i0) l64 c64 TU
 have b64:=F64.binds (ps:=["_law_helper_here","_law_told"]) fun _ _ _ _ _ _ us hl=>zzu2 us hl fun _ _=>rfl
 have F65:=bq (st:=jF) l65 c65 k65
 have F66:=bq (st:=AZ) l66 c66 TR
 have b66:=F66.binds (ps:=["self","at"]) fun _ _ _ _ _ _ us hl=>zzu2 us hl fun _ _=>rfl
 refine ⟨PySem.W.fnOf "law" "law" (aO jF) (av jF) (ak jF) .none Qn Rh Pz SE Ol Rm,fun s v=>.of_eq rfl,fun base _ _=>?_⟩
 have OB:Mr l.prog w K mg base 1 Y.z.s ["self","terms","number"] (AW Y.z.s):=⟨f1,_,Ka F1 T,⟨HF,a1,i1,Iq⟩,b1⟩
 have Jv:Dn l.prog w K mg base 3 "sum_of" ["pairs","number"] (vP Y.z.s):=⟨U9,_,C3 F34 T OB,PySem.W.mg_of X G a34,Up,b34⟩
 have xj:Mt l.prog w K mg base 1 Y.z.s "told" ["self"] (iI Y.z.s):=⟨f2,_,GG (n:=0) F2 T U ,⟨a2,i2,k2⟩,b2⟩
 have Lh:Mr l.prog w K mg base 1 Y.z.c ["self","one","sign","other"] (rY Y.z):=⟨f3,_,Hi (n:=0) F3 T U ,⟨HJ,a3,i3,Iv⟩,b3⟩
 have K7:Mr l.prog w K mg base 1 Y.z.t ["self","condition"] (rV Y.z):=⟨f4,_,Gz (n:=0) F4 T U ,⟨HE,a4,i4,Ip⟩,b4⟩
 have Lg:Mr l.prog w K mg base 1 Y.z.e ["self","conditions"] (jk Y.z.e):=⟨f5,_,GY (n:=0) F5 T U ,⟨HH,a5,i5,Iu⟩,b5⟩
 have K9:Mr l.prog w K mg base 1 Y.z.o ["self","conditions"] (jk Y.z.o):=⟨f6,_,GO (n:=0) F6 T U ,⟨HG,a6,i6,Ir⟩,b6⟩
 have pK:=DN (P:=l.prog) (w:=w) (base:=base) (Z:=Y.z) T U F7 ⟨a7,i7,k7⟩ b7 F8 ⟨a8,i8,k8⟩ b8 F9 ⟨a9,i9,k9⟩ b9 F10 ⟨a10,i10,UC⟩ b10 xj
 have pI:∃fd,bH l.prog w K mg base dg 1 QF fd ["self","at"] (kK Y)∧Binds K fd ["self","at"] []:=⟨_,MV (n:=0) F66 T U J ,b66⟩
 have Me:Dn l.prog w K mg base 1 "as_pairs" ["pairs"] BY:=⟨U8,_,Nh (n:=0) F35 T U J ,PySem.W.mg_of X G a35,Uo,b35⟩
 have S6:Mr l.prog w K mg base 2 Y.lt ["self","at","name","total"] (qQ Y 0):=⟨QV,_,M6 (n:=0) F11 T U J pI,⟨HC,a11,i11,Im⟩,mj⟩
 have S9:Mr l.prog w K mg base 2 Y.dv ["self","at","name","word","total","by"] (BW Y 1):=⟨QU,_,Nc (n:=0) F12 T U J pI,⟨HB,a12,i12,Il⟩,yz⟩
 have S8:Mr l.prog w K mg base 2 Y.ft ["self","at","name","row","place"] (qP Y 2):=⟨QT,_,Nb (n:=0) F13 T U J pI,⟨HA,a13,i13,Ik⟩,Jp⟩
 have SX:Mr l.prog w K mg base 2 Y.pt ["self","at","row","place","total"] (qP Y 3):=⟨QS,_,MX (n:=0) F14 T U J pI,⟨Hz,a14,i14,Ij⟩,LS⟩
 have S4:Mr l.prog w K mg base 2 Y.mq ["self","at","row","size"] (qQ Y 4):=⟨QO,_,M5 (n:=0) F15 T U J pI,⟨Hy,a15,i15,Ii⟩,LR⟩
 have Mb:Mr l.prog w K mg base 2 Y.cm ["self","at","condition"] (mE Y 5):=⟨QN,_,Nd (n:=0) F16 T U J pI,⟨Hx,a16,i16,Ih⟩,b16⟩
 have Tc:Mr l.prog w K mg base 2 Y.cl ["self","at","names","helper","given"] (BX Y):=⟨QM,_,Nf (n:=0) F17 T U J pI,⟨Hv,a17,i17,Ig⟩,b17⟩
 have Mc:Mr l.prog w K mg base 2 Y.ch ["self","at","condition","then","other"] (mF Y):=⟨QL,_,Ng (n:=0) F18 T U J pI,⟨Hu,a18,i18,Ie⟩,b18⟩
 have Ma:Mr l.prog w K mg base 2 Y.rp ["self","at","condition","keeps","falls","body"] (mD Y):=⟨QK,_,MW (n:=0) F19 T U J pI Me,⟨Ht,a19,i19,Ic⟩,b19⟩
 have S7:Mr l.prog w K mg base 2 Y.hp ["self","at","name","params","answers","needs","gives","steps"] (EL Y):=⟨QJ,_,M8 (n:=0) F29 T U J Me,⟨HD,a29,i29,Io⟩,b29⟩
 have SY:Mr l.prog w K mg base 1 Y.pg ["self","helpers"] (qN Y):=⟨QI,_,M1 (n:=0) F30 T U J ,⟨Hs,a30,i30,HZ⟩,b30⟩
 have SV:Dn l.prog w K mg base 2 "told_each" ["parts"] (BS Y.z):=⟨OS,_,MS (n:=0) SR T U J xj,PySem.W.mg_of X G OW,NC,Vp⟩
 have LZ:Dn l.prog w K mg base 5 "told_pairs" ["pairs"] (xC Y.z):=⟨U7,_,MR (n:=0) F37 T U J (pK 3),PySem.W.mg_of X G a37,Um,b37⟩
 have pL:=DJ (P:=l.prog) (w:=w) (base:=base) (Y:=Y) T U J F20 ⟨a20,i20,UB⟩ b20 F21 ⟨a21,i21,UA⟩ b21 F22 ⟨a22,i22,Uz⟩ b22 F23 ⟨a23,i23,Uy⟩ b23 F24 ⟨a24,i24,Ux⟩ b24 F25 ⟨a25,i25,Uw⟩ b25 F26 ⟨a26,i26,Uv⟩ b26 F27 ⟨a27,i27,Uu⟩ b27 F28 ⟨a28,i28,Ut⟩ b28 SR (PySem.W.mg_of X G OW) NC Vp xj (pK 3) SV LZ
 have OD:Dn l.prog w K mg base 13 "told_each" ["parts"] (xD Y 3):=⟨OS,_,Bh (n:=3) SR T U J (pL 3),PySem.W.mg_of X G OW,NC,Vp⟩
 have CY:Mt l.prog w K mg base 15 Y.hp "told" ["self"] (rX Y):=⟨QH,_,GV (n:=0) F31 T U J LZ OD,⟨a31,i31,Us⟩,b31⟩
 have SW:Dn l.prog w K mg base 16 "told_each" ["parts"] (EJ Y):=⟨OS,_,MT (n:=0) SR T U J CY,PySem.W.mg_of X G OW,NC,Vp⟩
 have Jw:Mt l.prog w K mg base 17 Y.pg "told" ["self"] (jl Y):=⟨f32,_,C5 (n:=0) F32 T U J SW,⟨a32,i32,Ur⟩,b32⟩
 have Le:Mt l.prog w K mg base 1 Y.pg "named" ["self","name"] (jm Y):=⟨QG,_,GQ (n:=0) F33 T U J ,⟨a33,i33,Uq⟩,b33⟩
 have CW:Dn l.prog w K mg base 1 "_law_mixed" ["_law_cell","_law_k"] rW:=⟨U6,_,GS (n:=0) F38 T U J ,PySem.W.mg_of X G a38,Ul,b38⟩
 have DT:Dn l.prog w K mg base 2 "_law_cell_at" ["_law_script","_law_k"] (kM K):=⟨U5,_,Bk (n:=0) F39 T U J CW,PySem.W.mg_of X G a39,Uk,b39⟩
 have jK:Dn l.prog w K mg base 2 "_law_next" ["_law_draw","_law_size"] dJ:=⟨U4,_,J7 (n:=0) F40 T U J CW,PySem.W.mg_of X G a40,Uj,b40⟩
 have OA:Dn l.prog w K mg base 1 "_law_kept" [] vQ:=⟨U3,_,J9 (n:=0) F41 T U J ,PySem.W.mg_of X G a41,Ui,LQ⟩
 have Ld:Dn l.prog w K mg base 3 "_law_names" ["_law_draw","_law_many"] sU:=⟨U1,_,GP (n:=0) F42 T U J jK OA,PySem.W.mg_of X G a42,Uh,LP⟩
 have BI:Dn l.prog w K mg base 3 "_law_sum" ["_law_draw","_law_things"] fM:=⟨U0,_,J8 (n:=0) F43 T U J jK,PySem.W.mg_of X G a43,Ug,Vo⟩
 have uB:=DL (P:=l.prog) (w:=w) (base:=base) (Y:=Y) T U J F44 (PySem.W.mg_of X G a44) Ue Vn jK BI
 have lW:Dn l.prog w K mg base 3 "_law_pairs_placed" ["_law_conditions","_law_draw"] xF:=⟨UZ,_,MZ (n:=0) F45 T U J jK,PySem.W.mg_of X G a45,Ud,Vm⟩
 have DW:=BB (P:=l.prog) (w:=w) (base:=base) (Y:=Y) T U J F47 (PySem.W.mg_of X G a47) NB b47 F46 (PySem.W.mg_of X G Vt) Qs b46 jK lW
 have uV:Dn l.prog w K mg base 12 "_law_all_placed" ["_law_steps_here","_law_draw"] (BU 3):=⟨UY,_,GK (n:=3) F46 T U J (DW 3),PySem.W.mg_of X G Vt,Qs,b46⟩
 have rR:Dn l.prog w K mg base 13 "_law_helper_placed" ["_law_helper_here","_law_draw"] qM:=⟨UX,_,M0 (n:=0) F48 T U J jK lW uV,PySem.W.mg_of X G a48,Uc,b48⟩
 have uw:Dn l.prog w K mg base 4 "_law_sum_made" ["_law_one"] (lX Y.z):=⟨UW,_,GH (n:=0) F49 T U J Jv,PySem.W.mg_of X G a49,Ub,b49⟩
 have uA:=DK (P:=l.prog) (w:=w) (base:=base) (Y:=Y) T U J F50 (PySem.W.mg_of X G a50) Ua b50 uw Lh K7 Lg K9
 have pJ:Dn l.prog w K mg base 9 "_law_pairs_made" ["_law_pairs"] (n9 Y.z):=⟨UU,_,MY (n:=0) F51 T U J (uA 3),PySem.W.mg_of X G a51,T9,b51⟩
 have xm:=uS (P:=l.prog) (w:=w) (base:=base) (Y:=Y) T U J F53 (PySem.W.mg_of X G a53) T8 b53 F52 (PySem.W.mg_of X G Vs) Qq b52 uw (uA 3) pJ S6 S9 S8 SX S4 Mb Tc Mc Ma
 have mL:Dn l.prog w K mg base 16 "_law_steps_made" ["_law_steps_here"] (jE Y 3):=⟨UT,_,Cm (n:=3) F52 T U J (xm 3),PySem.W.mg_of X G Vs,Qq,b52⟩
 have uU:Dn l.prog w K mg base 17 "_law_helper_made" ["_law_told"] (qO Y):=⟨US,_,Na (n:=0) F54 T U J mL pJ S7,PySem.W.mg_of X G a54,T6,b54⟩
 have K8:Dn l.prog w K mg base 1 "_law_plain" ["_law_helpers"] fF:=⟨UR,_,GL (n:=0) F55 T U J ,PySem.W.mg_of X G a55,T5,b55⟩
 have OC:Dn l.prog w K mg base 4 "_law_call" ["_law_draw","_law_own","_law_helper_here"] fG:=⟨UP,_,Hg (n:=0) F57 T U J jK BI,PySem.W.mg_of X G a57,T4,b57⟩
 have JA:=DM (P:=l.prog) (w:=w) (base:=base) (Y:=Y) T U J F58 (PySem.W.mg_of X G a58) T3 b58 F56 (PySem.W.mg_of X G Vr) Qp b56 jK BI (uB 2) K8 OC
 have Jy:Dn l.prog w K mg base 13 "_law_steps" ["_law_draw","_law_own","_law_many","_law_deep","_law_helpers"] (dZ 3):=⟨UQ,_,vn (n:=3) F56 T U J (JA 3),PySem.W.mg_of X G Vr,Qp,b56⟩
 have Jx:Dn l.prog w K mg base 14 "_law_helper" ["_law_draw","_law_name","_law_names_here","_law_many","_law_helpers"] pQ:=⟨UO,_,C6 (n:=0) F59 T U J jK (uB 2) Jy,PySem.W.mg_of X G a59,TZ,b59⟩
 have DS:Dn l.prog w K mg base 15 "_law_program" ["_law_draw","_law_many"] jn:=⟨UN,_,Bj (n:=0) F60 T U J Ld jK Jx,PySem.W.mg_of X G a60,TY,b60⟩
 have DX:=BC (P:=l.prog) (w:=w) (base:=base) (Y:=Y) T U J F61 (PySem.W.mg_of X G a61) TX b61 F62 (PySem.W.mg_of X G a62) TV b62 F63 (PySem.W.mg_of X G Vq) Qo b63 pL W_ (pK 3)
 have uW:Dn l.prog w K mg base 17 "_law_all_fields" ["_law_steps_here","_law_told"] (vR Y 3):=⟨UM,_,Cn (n:=3) F63 T U J (pL 3) (DX 3),PySem.W.mg_of X G Vq,Qo,b63⟩
 have ux:Dn l.prog w K mg base 18 "_law_helper_right" ["_law_helper_here","_law_told"] (iB Y):=⟨f64,_,C7 (n:=0) F64 T U J CY (pK 3) uW,PySem.W.mg_of X G a64,TU,b64⟩
 exact M7 F65 T U J N_ DT DS rR uU SY mL (uB 2) (uA 3) Mc Ma Mb Jw (pL 4) (pK 3) ux Le
theorem walk {l:PySem.W.OpenLaw} {q:Program} {loose:List Str} {XP:(Str→Option Value)→Heap→Prop} {YP:World→Heap→Prop} {d:DefRec} {K:Params→PySem.W.Frag} (hn:l.most=some 63) (hdf:d.params.defaults=[])
  (hY:∀(w:World) (h:Heap),YP w h→(K w.params).In h)
  (F:∀(w:World) (mg:Str→Option Value) (fa:Addr) (h:Heap),(K w.params).In h→h.Ns mainGlobals mg→mg d.name=some (.ref fa) →
   ∃fd:FuncData,(∀(s:Shared) (u:Value),BindsTo s fd ⟨[u],[]⟩ [("_law_script",u)])∧∀base:Heap,(K w.params).In base→base.Ns mainGlobals mg→bH l.prog w (K w.params) mg base dg 20 fa fd ["_law_script"] (BV (K w.params))) :
  PySem.W.WalkO q loose XP YP l.row.toRowW d [] (fun f vs=>PySem.call f vs) :=
 L2.JO (n:=63) (k:=20) (x:="_law_script") (CX:=fun _=>dg) (sp:=fun w=>BV (K w.params)) hn (by decide) hdf ⟨rfl,by decide,by decide⟩ hY F (fun _ _ a ns hl _ hS=>⟨a,ns,rfl,hS,hl,fun _=>rfl⟩) fun _ _ _ _ _ z=>z
end Hw
namespace PySem.W.Fast
def tw7231374600123502611:=0
def tw9684419435098165391:=0
def tw12671720419495064655:=0
def tw11903855453015902217:=0
def tw12644754540347790218:=0
def tw12371020964406607756:=0
def tw1967951695928030514:=0
def tw8378059689782881359:=0
def tw9631086873373084896:=0
def tw3884815670206301124:=0
def tw5973943226868488641:=0
def tw14541958311226681391:=0
def tw13159964969673099187:=0
def tw544493253274393295:=0
def tw14676757770015481051:=0
def tw5656922960083688271:=0
def tw122955048794153844:=0
def tw4306169489468652016:=0
def tw4149638909333879707:=0
def tw16623928492932864406:=0
def tw11570386171366246089:=0
def tw16407557076165021260:=0
def tw15362135959080404502:=0
def tw7065488475402606761:=0
def tw15518333837579309834:=0
def tw16290604657341393070:=0
def tw17933792281133683516:=0
def tw15713453469726680266:=0
def tw4471399425355440553:=0
def tw8821979691208286608:=0
def tw8886209424713321234:=0
def tw5274685979718747935:=0
def tw835496251568363230:=0
def tw2479975063164503433:=0
def tw10179406966415307418:=0
def tw1756775709887610219:=0
def tw8206330480288910459:=0
def tw4690661551969606585:=0
def tw149747432073143966:=0
def tw2156507377748126685:=0
def tw6422583098660055080:=0
def tw1530464399570308118:=0
def tw16165868802703118575:=0
def tw3509256924586860854:=0
def tw15444541169614655978:=0
def tw7524608218636059607:=0
def tw3994697229413431209:=0
def tw6199628556972876304:=0
def tw404101040463766799:=0
def tw12722943999663831256:=0
def tw1068484215277472069:=0
def tw7155001580657807963:=0
def tw6021814068543757491:=0
def tw2834380497675506190:=0
def tw7096721889998809650:=0
def tw8797249156509919740:=0
def tw162657154734612687:=0
def tw14287893299594446437:=0
def tw6922811172581907763:=0
def tw6497260121092649363:=0
def tw11209430414009281800:=0
def tw17264964600445607262:=0
def tw13033766990604044121:=0
def tw8076563188802714519:=0
def tw14446474781050292876:=0
def tw4912858049818446127:=0
def tw13475769355382812575:=0
def tw9444357040106416476:=0
def tw1683817849165971252:=0
def tw18156685361793869730:=0
def tw452219505385028575:=0
def tw2308693183193499560:=0
def tw3708982313104123740:=0
def tw8354412750961832872:=0
def tw503250925998557513:=0
def tw1871097809063596571:=0
def tw5539715570195743660:=0
def tw12911083823667191778:=0
def tw17961859632862184288:=0
def tw5943434689521242503:=0
def tw14652436335899885336:=0
def tw12040480926641888199:=0
def tw14421608356685980206:=0
def tw17322437228303923796:=0
def tw13587430903394760628:=0
def tw6736567002600094209:=0
def tw5095558453789075496:=0
def tw10512615461482720952:=0
def tw184954733091075044:=0
def tw16137252286078583819:=0
def tw6938248483923358979:=0
def tw8524428310552780300:=0
def tw5977218511796679218:=0
def tw17166667397282623325:=0
def tw4331974200093466054:=0
def tw5487036170905237047:=0
def tw1065308863681223844:=0
def tw1888401795807679233:=0
def tw14021508696083011414:=0
def tw15095529654296864878:=0
def tw9063945232208370985:=0
def tw16211314745680172511:=0
def tw12386849196998146674:=0
def tw4888269063271362991:=0
def tw4471128800908572184:=0
def tw13365974644093927997:=0
def tw11503329648209358515:=0
def tw15554760592573720827:=0
def tw2206978618281430941:=0
def tw9334374094035888866:=0
def tw5668276959938094092:=0
def tw11300898012199466:=0
def tw13442861542258217750:=0
def tw8583473798434861956:=0
def tw6126167973397569821:=0
def tw12829154997204760696:=0
def tw6000906944784259511:=0
def tw17145777097469697715:=0
def tw4854266154145674438:=0
def tw4571465711989107000:=0
def tw15789201711736625585:=0
def tw7684759037690381736:=0
def tw2959358379864376826:=0
def tw8534900496933910484:=0
def tw8866386998585085043:=0
def tw11693803492772372314:=0
def tw14584938810925530156:=0
def tw2448203155184740581:=0
def tw5759222648022744347:=0
def tw15386489413037241069:=0
def tw1921673482626182830:=0
def tw17502675440164667896:=0
def tw16127879921478054349:=0
def tw7400015818849328040:=0
def tw5769579453327967170:=0
def tw1176324219691823610:=0
def tw6941799178819153744:=0
def tw10082419562134618600:=0
def tw7603751252244364714:=0
def tw11716098330597169245:=0
def tw2894858896235748789:=0
def tw1519826494741745864:=0
def tw12274322864585280527:=0
def tw9600377800819554160:=0
def tw11917763504189004349:=0
def tw2230653459624655176:=0
def tw16283243576120711242:=0
def tw13675488668033540094:=0
def tw10859637258905107191:=0
def tw15395563358652265848:=0
def tw3909772641808320478:=0
def tw8278780268411807699:=0
def tw1501859175958595780:=0
def tw13944168418681585344:=0
def tw5523000102445590438:=0
def tw316019583875441520:=0
def tw4937787225284268745:=0
def tw10141336499047459790:=0
def tw10349478819129114260:=0
def tw12759905455342639534:=0
def tw1518269657324304061:=0
def tw2128042612449348563:=0
def tw14680089256830802810:=0
def tw14131319012095728554:=0
def tw753897557891716843:=0
def tw18232741686697940042:=0
def tw14823454080290491164:=0
def tw10750175156071813741:=0
def tw6255332455774013165:=0
def tw6968712968301931891:=0
def tw10955090066153896723:=0
def tw15131300140765739680:=0
def tw4493972485516249691:=0
def tw1730304925282333100:=0
def tw9530941193069104400:=0
def tw3700333946045385006:=0
def tw11847178780196272841:=0
def tw5544694609114633146:=0
def tw12834360320284406905:=0
def tw17240469082859789351:=0
def tw14724878496231871848:=0
def tw10766896716452344679:=0
def tw13066583310675411090:=0
def tw16112529004103101937:=0
def tw3076093776275273441:=0
def tw1270364117166749311:=0
def tw13472319765443585913:=0
def tw4568249925929978843:=0
def tw11948877330084287519:=0
def tw11374611615904610384:=0
def tw7240739995993212476:=0
def tw12604490418628021389:=0
def tw2104652287552157415:=0
def tw10992641686103582114:=0
def tw3371818805965708744:=0
def tw15779688494189106800:=0
def tw6563732330461599190:=0
def tw9032500172317545899:=0
def tw3708665375322421825:=0
def tw9512898874029515984:=0
def tw3280698576997622364:=0
def tw7278592051165579518:=0
def tw4142354925264898230:=0
def tw6251285321041545833:=0
def tw1305762676479742609:=0
def tw4432140215515675166:=0
def tw9401429479563303159:=0
def tw6323717705935335518:=0
def tw17034259650392427574:=0
def tw8340827674333860408:=0
def tw5269677378010286100:=0
def tw15505739445294555756:=0
def tw662483136660208959:=0
def tw13966775418170831773:=0
def tw8018984996181033838:=0
def tw6906905966567167785:=0
def tw5342128599421285672:=0
def tw14617467071106270262:=0
def tw4268767101641332255:=0
def tw10432065176480984595:=0
def tw15745349100297155560:=0
def tw733154328950084033:=0
def tw18063821023972840282:=0
def tw9891142355134531397:=0
def tw12904846075903893019:=0
def tw5082271865144594614:=0
def tw942170717292269520:=0
def tw10571365848730011879:=0
def tw8950422163604962736:=0
def tw14880022074986295987:=0
def tw819884444148707195:=0
def tw5521942516419181230:=0
def tw328405204742832649:=0
def tw14923256984371288718:=0
def tw7012429443811490097:=0
def tw797871109911149407:=0
def tw5755161784781502207:=0
def tw1036736858290438014:=0
def tw7999709392329412960:=0
def tw15595078601230022258:=0
def tw16954022787759055704:=0
def tw10917590832898422027:=0
def tw14204884166224134824:=0
def tw10431355627622500398:=0
def tw18241746259105215582:=0
def tw14771877857579367589:=0
def tw4159343814905902334:=0
def tw6189460097710668358:=0
def tw3038551147918460995:=0
def tw12773012738321150797:=0
def tw5194127273107368790:=0
def tw5860985338496439513:=0
def tw14828459049095445745:=0
def tw296338596082300360:=0
def tw752702246475268127:=0
def tw12926219594390354569:=0
def tw15500422579530365840:=0
def tw15235278853463960446:=0
def tw3339861796013013103:=0
def tw10349065301060681247:=0
def tw11536641714810640101:=0
def tw255709126244465928:=0
def tw2558116036152098271:=0
def tw9427369981846949737:=0
def tw9625253035555676143:=0
def tw15513559799281159028:=0
def tw2846031998079411249:=0
def tw15566227076703663673:=0
def tw5281089300413001791:=0
def tw12704103701620412348:=0
def tw14268244173314168372:=0
def tw11565595075524557116:=0
def tw16845205017817985631:=0
def tw12373346078139039963:=0
def tw9172131562072176553:=0
def tw15076386423049190163:=0
def tw15936518639383794248:=0
def tw12918053084056677804:=0
def tw3918614302761652531:=0
def tw7007613205978414584:=0
def tw12846031527855320771:=0
def tw7791687714458765889:=0
def tw11092868290627353250:=0
def tw18370599739372259258:=0
def tw5534867158955865289:=0
def tw15439585227904697870:=0
def tw16969071994129717991:=0
def tw7185827537423285031:=0
def tw3893735670152973232:=0
def tw6931401104646656774:=0
def tw10263673896380431514:=0
def tw7402143943640846584:=0
def tw1012995577626126019:=0
def tw16302101607172108042:=0
def tw12695399663832515956:=0
def tw3500233892367053542:=0
def tw8504034750831099487:=0
def tw15847907945489516393:=0
def tw597481032836828689:=0
def tw5878839863811411647:=0
def tw3024315825679044371:=0
def tw13551367223700081737:=0
def tw13743275474015303550:=0
def tw4857123158370141222:=0
def tw16713921497093922459:=0
def tw12460642349865216372:=0
def tw10765266482474740310:=0
def tw2563528200389386069:=0
def tw9742702993338254477:=0
def tw14455578818346188325:=0
def tw15585950934929710931:=0
def tw18258485439956963514:=0
def tw10927100581823402696:=0
def tw11284858452815945746:=0
def tw9271470933953899242:=0
def tw9534491965225370838:=0
def tw15074349011259419035:=0
def tw11950667581660338476:=0
def tw9269570650924509899:=0
def tw17614396157719733489:=0
def tw16185170271844745609:=0
def tw12403614797573198993:=0
def tw13400570722793142356:=0
def tw14055925272563112044:=0
def tw1871684763455138327:=0
def tw4460953113832033078:=0
def tw5083463873252388950:=0
def tw16262201400339694369:=0
def tw8413918269253151717:=0
def tw12454779131468527902:=0
def tw11695061629230583211:=0
def tw14640174755773848493:=0
def tw7169244487363611834:=0
def tw1339117357599561375:=0
def tw14349875240664046721:=0
def tw15754051385411505170:=0
def tw15332730474040377462:=0
def tw1403846571355518:=0
def tw1290469359012751198:=0
def tw14208232739601055903:=0
def tw9583082183051151125:=0
def tw8937663733787185472:=0
def tw7277924348777863625:=0
def tw7460364422823379907:=0
def tw14819081732792566391:=0
def tw18350441900350249124:=0
def tw3792257560237896592:=0
def tw17536924491382707015:=0
def tw6700543086219935546:=0
def tw435831959747620842:=0
end PySem.W.Fast
open PySem PySem.W PyProof.Rows
set_option maxRecDepth 100000 in
set_option maxHeartbeats 0 in
theorem PySem.Challenge.cw_holdwright_k10_steps_tell_holds : PySem.Challenge.rw_holdwright_k10_steps_tell.Holds := by
 w_on;o_law;k_head;(case hw=>w_witness2)
 k_fill
 refine Hw.walk (l:=PySem.Challenge.rw_holdwright_k10_steps_tell) rfl rfl (fun w h Y=>PySem.W.kIn_of Y) ?F
 case F =>
  intro w mg fa h KX G hmg
  refine' Hw.all_mk KX G hmg ?NX ?Gm ?IU ?FG ?E9 ?HF ?Iq ?N1 ?Gq ?IX ?FJ ?Fd ?HJ ?Iv ?NW ?Gk ?IT ?FF ?E8 ?HE ?Ip ?NZ ?Gp ?IW ?FI ?Fc ?HH ?Iu ?NY ?Gn ?IV ?FH ?Fb ?HG ?Ir ?NU ?Gi ?IQ ?FD ?E6 ?HC ?Im ?NT ?Gg ?IP ?FA ?EZ ?HB ?Il ?NS ?Ge ?IM ?Fz ?EY ?HA ?Ik ?NR ?Gb ?IL ?Fy ?EX ?Hz ?Ij ?NQ ?Ga ?IK ?Fx ?EW ?Hy ?Ii ?NP ?FZ ?IJ ?Fw ?EV ?Hx ?Ih ?NO ?FY ?II ?Fv ?EU ?Hv ?Ig ?NN ?FW ?IG ?Ft ?ET ?Hu ?Ie ?NL ?FU ?IF ?Fq ?ES ?Ht ?Ic ?NV ?Gj ?IS ?FE ?E7 ?HD ?Io ?NK ?FQ ?IE ?Fp ?ER ?Hs ?HZ ?NJ ?Mm ?Ml ?Mj ?a1 ?i1 ?l1 ?c1 ?k1 ?a2 ?i2 ?l2 ?c2 ?k2 ?a3 ?i3 ?l3 ?c3 ?k3 ?a4 ?i4 ?l4 ?c4 ?k4 ?a5 ?i5 ?l5 ?c5 ?k5 ?a6 ?i6 ?l6 ?c6 ?k6 ?a7 ?i7 ?l7 ?c7 ?k7 ?a8 ?i8 ?l8 ?c8 ?k8 ?a9 ?i9 ?l9 ?c9 ?k9 ?a10 ?i10 ?JE ?c10 ?UC ?a11 ?i11 ?Nu ?Sz ?nP ?a12 ?i12 ?ON ?c12 ?nO ?a13 ?i13 ?Qm ?c13 ?oQ ?a14 ?i14 ?LB ?c14 ?wO ?a15 ?i15 ?Ql ?Sy ?k15 ?a16 ?i16 ?Qk ?c16 ?k16 ?a17 ?i17 ?Qj ?c17 ?k17 ?a18 ?i18 ?l18 ?c18 ?k18 ?a19 ?i19 ?l19 ?c19 ?k19 ?a20 ?i20 ?l20 ?c20 ?UB ?a21 ?i21 ?l21 ?c21 ?UA ?a22 ?i22 ?l22 ?c22 ?Uz ?a23 ?i23 ?l23 ?c23 ?Uy ?a24 ?i24 ?l24 ?c24 ?Ux ?a25 ?i25 ?l25 ?c25 ?Uw ?a26 ?i26 ?l26 ?c26 ?Uv ?a27 ?i27 ?l27 ?c27 ?Uu ?a28 ?i28 ?l28 ?c28 ?Ut ?a29 ?i29 ?l29 ?c29 ?k29 ?a30 ?i30 ?l30 ?c30 ?k30 ?a31 ?i31 ?l31 ?c31 ?Us ?a32 ?i32 ?l32 ?c32 ?Ur ?a33 ?i33 ?l33 ?c33 ?Uq ?a34 ?l34 ?c34 ?Up ?a35 ?l35 ?c35 ?Uo ?OW ?l36 ?c36 ?NC ?a37 ?l37 ?c37 ?Um ?a38 ?l38 ?c38 ?Ul ?a39 ?l39 ?c39 ?Uk ?a40 ?l40 ?c40 ?Uj ?a41 ?l41 ?c41 ?Ui ?a42 ?l42 ?c42 ?Uh ?a43 ?l43 ?c43 ?Ug ?a44 ?OM ?c44 ?Ue ?a45 ?l45 ?Sx ?Ud ?Vt ?l46 ?c46 ?Qs ?a47 ?l47 ?c47 ?NB ?a48 ?l48 ?c48 ?Uc ?a49 ?l49 ?c49 ?Ub ?a50 ?l50 ?c50 ?Ua ?a51 ?l51 ?c51 ?T9 ?Vs ?l52 ?c52 ?Qq ?a53 ?l53 ?c53 ?T8 ?a54 ?l54 ?c54 ?T6 ?a55 ?l55 ?c55 ?T5 ?Vr ?l56 ?c56 ?Qp ?a57 ?l57 ?c57 ?T4 ?a58 ?l58 ?c58 ?T3 ?a59 ?l59 ?c59 ?TZ ?a60 ?l60 ?c60 ?TY ?a61 ?l61 ?c61 ?TX ?a62 ?l62 ?c62 ?TV ?Vq ?l63 ?c63 ?Qo ?a64 ?l64 ?c64 ?TU ?a65 ?l65 ?c65 ?k65 ?l66 ?c66 ?TR ?nH ?lO ?ue ?qx ?nI ?je ?iM ?iL ?wH ?qu ?nD ?wG ?qt ?qp ?nC ?wF ?wD ?qo ?ud ?nB ?wC ?ua ?nA ?ny ?wB ?tZ ?qj ?wA ?jd ?wz ?nu ?lK ?nv ?wu ?jc ?qi ?nk ?wo ?jb ?ni ?nj ?qg ?wI ?qv ?lM ?ko ?nF ?nG ?nE ?kj ?El ?Ej ?sI ?yM ?vL ?jV ?vM ?Ep ?Ek ?Em ?yN ?Eo ?En ?Mp ?Mn ?AU ?AI ?AS ?AH ?AR ?AG ?AQ ?AF ?AO ?AE ?AN ?AD ?AM ?AB ?AL ?AA ?AK ?Az ?AJ ?Ay ?EC ?ED ?EB ?Ax ?Aw ?Av ?Au ?As ?Aq ?Ao ?An ?Am ?EA ?Al ?Ak ?Aj ?Ai ?Ah ?Ag ?Af ?Ae ?Ad ?Ez ?Ac ?Ab ?Aa ?z9 ?z8 ?z0 ?zZ ?zY ?zX ?Ey ?zW ?zV ?zU ?zT ?zS ?zR ?zQ ?zP ?zO ?Ex ?zN ?zM ?zK ?zJ ?zI ?zH ?zG ?zF ?zE ?Ew ?zD ?zC ?zB ?zA ?zz ?zy ?zx ?zu ?zq ?Eu ?zp ?zo ?zm ?zl ?zk ?zj ?zh ?zg ?zf ?Et ?ze ?zd ?zc ?zb ?za ?y9 ?yZ ?yY ?yX ?Es ?yW ?yV ?yU ?yT ?yS ?yR ?yQ ?yP ?yO ?Er
  (case NX=>k_is)
  (case N1=>k_is)
  (case NW=>k_is)
  (case NZ=>k_is)
  (case NY=>k_is)
  (case NU=>k_is)
  (case NT=>k_is)
  (case NS=>k_is)
  (case NR=>k_is)
  (case NQ=>k_is)
  (case NP=>k_is)
  (case NO=>k_is)
  (case NN=>k_is)
  (case NL=>k_is)
  (case NV=>k_is)
  (case NK=>k_is)
  (case NJ=>k_is)
  (case Mm=>k_is)
  (case Gm=>k_is)
  (case IU=>k_is)
  (case FG=>k_is)
  (case E9=>k_is)
  (case HF=>k_is)
  (case Iq=>k_is)
  (case Gq=>k_is)
  (case IX=>k_is)
  (case FJ=>k_is)
  (case Fd=>k_is)
  (case HJ=>k_is)
  (case Iv=>k_is)
  (case Gk=>k_is)
  (case IT=>k_is)
  (case FF=>k_is)
  (case E8=>k_is)
  (case HE=>k_is)
  (case Ip=>k_is)
  (case Gp=>k_is)
  (case IW=>k_is)
  (case FI=>k_is)
  (case Fc=>k_is)
  (case HH=>k_is)
  (case Iu=>k_is)
  (case Gn=>k_is)
  (case IV=>k_is)
  (case FH=>k_is)
  (case Fb=>k_is)
  (case HG=>k_is)
  (case Ir=>k_is)
  (case Gi=>k_is)
  (case IQ=>k_is)
  (case FD=>k_is)
  (case E6=>k_is)
  (case HC=>k_is)
  (case Im=>k_is)
  (case Gg=>k_is)
  (case IP=>k_is)
  (case FA=>k_is)
  (case EZ=>k_is)
  (case HB=>k_is)
  (case Il=>k_is)
  (case Ge=>k_is)
  (case IM=>k_is)
  (case Fz=>k_is)
  (case EY=>k_is)
  (case HA=>k_is)
  (case Ik=>k_is)
  (case Gb=>k_is)
  (case IL=>k_is)
  (case Fy=>k_is)
  (case EX=>k_is)
  (case Hz=>k_is)
  (case Ij=>k_is)
  (case Ga=>k_is)
  (case IK=>k_is)
  (case Fx=>k_is)
  (case EW=>k_is)
  (case Hy=>k_is)
  (case Ii=>k_is)
  (case FZ=>k_is)
  (case IJ=>k_is)
  (case Fw=>k_is)
  (case EV=>k_is)
  (case Hx=>k_is)
  (case Ih=>k_is)
  (case FY=>k_is)
  (case II=>k_is)
  (case Fv=>k_is)
  (case EU=>k_is)
  (case Hv=>k_is)
  (case Ig=>k_is)
  (case FW=>k_is)
  (case IG=>k_is)
  (case Ft=>k_is)
  (case ET=>k_is)
  (case Hu=>k_is)
  (case Ie=>k_is)
  (case FU=>k_is)
  (case IF=>k_is)
  (case Fq=>k_is)
  (case ES=>k_is)
  (case Ht=>k_is)
  (case Ic=>k_is)
  (case Gj=>k_is)
  (case IS=>k_is)
  (case FE=>k_is)
  (case E7=>k_is)
  (case HD=>k_is)
  (case Io=>k_is)
  (case FQ=>k_is)
  (case IE=>k_is)
  (case Fp=>k_is)
  (case ER=>k_is)
  (case Hs=>k_is)
  (case HZ=>k_is)
  (case Ml=>k_is)
  (case Mj=>k_is)
  (case a1=>k_is)
  (case i1=>k_is)
  (case l1=>k_is)
  (case c1=>k_is)
  (case k1=>k_is)
  (case a2=>k_is)
  (case i2=>k_is)
  (case l2=>k_is)
  (case c2=>k_is)
  (case k2=>k_is)
  (case a3=>k_is)
  (case i3=>k_is)
  (case l3=>k_is)
  (case c3=>k_is)
  (case k3=>k_is)
  (case a4=>k_is)
  (case i4=>k_is)
  (case l4=>k_is)
  (case c4=>k_is)
  (case k4=>k_is)
  (case a5=>k_is)
  (case i5=>k_is)
  (case l5=>k_is)
  (case c5=>k_is)
  (case k5=>k_is)
  (case a6=>k_is)
  (case i6=>k_is)
  (case l6=>k_is)
  (case c6=>k_is)
  (case k6=>k_is)
  (case a7=>k_is)
  (case i7=>k_is)
  (case l7=>k_is)
  (case c7=>k_is)
  (case k7=>k_is)
  (case a8=>k_is)
  (case i8=>k_is)
  (case l8=>k_is)
  (case c8=>k_is)
  (case k8=>k_is)
  (case a9=>k_is)
  (case i9=>k_is)
  (case l9=>k_is)
  (case c9=>k_is)
  (case k9=>k_is)
  (case a10=>k_is)
  (case i10=>k_is)
  (case JE=>k_is)
  (case c10=>k_is)
  (case UC=>k_is)
  (case a11=>k_is)
  (case i11=>k_is)
  (case Nu=>k_is)
  (case Sz=>k_is)
  (case nP=>k_is)
  (case a12=>k_is)
  (case i12=>k_is)
  (case ON=>k_is)
  (case c12=>k_is)
  (case nO=>k_is)
  (case a13=>k_is)
  (case i13=>k_is)
  (case Qm=>k_is)
  (case c13=>k_is)
  (case oQ=>k_is)
  (case a14=>k_is)
  (case i14=>k_is)
  (case LB=>k_is)
  (case c14=>k_is)
  (case wO=>k_is)
  (case a15=>k_is)
  (case i15=>k_is)
  (case Ql=>k_is)
  (case Sy=>k_is)
  (case k15=>k_is)
  (case a16=>k_is)
  (case i16=>k_is)
  (case Qk=>k_is)
  (case c16=>k_is)
  (case k16=>k_is)
  (case a17=>k_is)
  (case i17=>k_is)
  (case Qj=>k_is)
  (case c17=>k_is)
  (case k17=>k_is)
  (case a18=>k_is)
  (case i18=>k_is)
  (case l18=>k_is)
  (case c18=>k_is)
  (case k18=>k_is)
  (case a19=>k_is)
  (case i19=>k_is)
  (case l19=>k_is)
  (case c19=>k_is)
  (case k19=>k_is)
  (case a20=>k_is)
  (case i20=>k_is)
  (case l20=>k_is)
  (case c20=>k_is)
  (case UB=>k_is)
  (case a21=>k_is)
  (case i21=>k_is)
  (case l21=>k_is)
  (case c21=>k_is)
  (case UA=>k_is)
  (case a22=>k_is)
  (case i22=>k_is)
  (case l22=>k_is)
  (case c22=>k_is)
  (case Uz=>k_is)
  (case a23=>k_is)
  (case i23=>k_is)
  (case l23=>k_is)
  (case c23=>k_is)
  (case Uy=>k_is)
  (case a24=>k_is)
  (case i24=>k_is)
  (case l24=>k_is)
  (case c24=>k_is)
  (case Ux=>k_is)
  (case a25=>k_is)
  (case i25=>k_is)
  (case l25=>k_is)
  (case c25=>k_is)
  (case Uw=>k_is)
  (case a26=>k_is)
  (case i26=>k_is)
  (case l26=>k_is)
  (case c26=>k_is)
  (case Uv=>k_is)
  (case a27=>k_is)
  (case i27=>k_is)
  (case l27=>k_is)
  (case c27=>k_is)
  (case Uu=>k_is)
  (case a28=>k_is)
  (case i28=>k_is)
  (case l28=>k_is)
  (case c28=>k_is)
  (case Ut=>k_is)
  (case a29=>k_is)
  (case i29=>k_is)
  (case l29=>k_is)
  (case c29=>k_is)
  (case k29=>k_is)
  (case a30=>k_is)
  (case i30=>k_is)
  (case l30=>k_is)
  (case c30=>k_is)
  (case k30=>k_is)
  (case a31=>k_is)
  (case i31=>k_is)
  (case l31=>k_is)
  (case c31=>k_is)
  (case Us=>k_is)
  (case a32=>k_is)
  (case i32=>k_is)
  (case l32=>k_is)
  (case c32=>k_is)
  (case Ur=>k_is)
  (case a33=>k_is)
  (case i33=>k_is)
  (case l33=>k_is)
  (case c33=>k_is)
  (case Uq=>k_is)
  (case a34=>k_is)
  (case l34=>k_is)
  (case c34=>k_is)
  (case Up=>k_is)
  (case a35=>k_is)
  (case l35=>k_is)
  (case c35=>k_is)
  (case Uo=>k_is)
  (case OW=>k_is)
  (case l36=>k_is)
  (case c36=>k_is)
  (case NC=>k_is)
  (case a37=>k_is)
  (case l37=>k_is)
  (case c37=>k_is)
  (case Um=>k_is)
  (case a38=>k_is)
  (case l38=>k_is)
  (case c38=>k_is)
  (case Ul=>k_is)
  (case a39=>k_is)
  (case l39=>k_is)
  (case c39=>k_is)
  (case Uk=>k_is)
  (case a40=>k_is)
  (case l40=>k_is)
  (case c40=>k_is)
  (case Uj=>k_is)
  (case a41=>k_is)
  (case l41=>k_is)
  (case c41=>k_is)
  (case Ui=>k_is)
  (case a42=>k_is)
  (case l42=>k_is)
  (case c42=>k_is)
  (case Uh=>k_is)
  (case a43=>k_is)
  (case l43=>k_is)
  (case c43=>k_is)
  (case Ug=>k_is)
  (case a44=>k_is)
  (case OM=>k_is)
  (case c44=>k_is)
  (case Ue=>k_is)
  (case a45=>k_is)
  (case l45=>k_is)
  (case Sx=>k_is)
  (case Ud=>k_is)
  (case Vt=>k_is)
  (case l46=>k_is)
  (case c46=>k_is)
  (case Qs=>k_is)
  (case a47=>k_is)
  (case l47=>k_is)
  (case c47=>k_is)
  (case NB=>k_is)
  (case a48=>k_is)
  (case l48=>k_is)
  (case c48=>k_is)
  (case Uc=>k_is)
  (case a49=>k_is)
  (case l49=>k_is)
  (case c49=>k_is)
  (case Ub=>k_is)
  (case a50=>k_is)
  (case l50=>k_is)
  (case c50=>k_is)
  (case Ua=>k_is)
  (case a51=>k_is)
  (case l51=>k_is)
  (case c51=>k_is)
  (case T9=>k_is)
  (case Vs=>k_is)
  (case l52=>k_is)
  (case c52=>k_is)
  (case Qq=>k_is)
  (case a53=>k_is)
  (case l53=>k_is)
  (case c53=>k_is)
  (case T8=>k_is)
  (case a54=>k_is)
  (case l54=>k_is)
  (case c54=>k_is)
  (case T6=>k_is)
  (case a55=>k_is)
  (case l55=>k_is)
  (case c55=>k_is)
  (case T5=>k_is)
  (case Vr=>k_is)
  (case l56=>k_is)
  (case c56=>k_is)
  (case Qp=>k_is)
  (case a57=>k_is)
  (case l57=>k_is)
  (case c57=>k_is)
  (case T4=>k_is)
  (case a58=>k_is)
  (case l58=>k_is)
  (case c58=>k_is)
  (case T3=>k_is)
  (case a59=>k_is)
  (case l59=>k_is)
  (case c59=>k_is)
  (case TZ=>k_is)
  (case a60=>k_is)
  (case l60=>k_is)
  (case c60=>k_is)
  (case TY=>k_is)
  (case a61=>k_is)
  (case l61=>k_is)
  (case c61=>k_is)
  (case TX=>k_is)
  (case a62=>k_is)
  (case l62=>k_is)
  (case c62=>k_is)
  (case TV=>k_is)
  (case Vq=>k_is)
  (case l63=>k_is)
  (case c63=>k_is)
  (case Qo=>k_is)
  (case a64=>k_is)
  (case l64=>k_is)
  (case c64=>k_is)
  (case TU=>k_is)
  (case a65=>k_is)
  (case l65=>k_is)
  (case c65=>k_is)
  (case k65=>k_is)
  (case l66=>k_is)
  (case c66=>k_is)
  (case TR=>k_is)
  (case nH=>k_is)
  (case lO=>k_is)
  (case ue=>k_is)
  (case qx=>k_is)
  (case nI=>k_is)
  (case je=>k_is)
  (case iM=>k_is)
  (case iL=>k_is)
  (case wH=>k_is)
  (case qu=>k_is)
  (case nD=>k_is)
  (case wG=>k_is)
  (case qt=>k_is)
  (case qp=>k_is)
  (case nC=>k_is)
  (case wF=>k_is)
  (case wD=>k_is)
  (case qo=>k_is)
  (case ud=>k_is)
  (case nB=>k_is)
  (case wC=>k_is)
  (case ua=>k_is)
  (case nA=>k_is)
  (case ny=>k_is)
  (case wB=>k_is)
  (case tZ=>k_is)
  (case qj=>k_is)
  (case wA=>k_is)
  (case jd=>k_is)
  (case wz=>k_is)
  (case nu=>k_is)
  (case lK=>k_is)
  (case nv=>k_is)
  (case wu=>k_is)
  (case jc=>k_is)
  (case qi=>k_is)
  (case nk=>k_is)
  (case wo=>k_is)
  (case jb=>k_is)
  (case ni=>k_is)
  (case nj=>k_is)
  (case qg=>k_is)
  (case wI=>k_is)
  (case qv=>k_is)
  (case lM=>k_is)
  (case ko=>k_is)
  (case nF=>k_is)
  (case nG=>k_is)
  (case nE=>k_is)
  (case kj=>k_is)
  (case El=>k_is)
  (case Ej=>k_is)
  (case sI=>k_is)
  (case yM=>k_is)
  (case vL=>k_is)
  (case jV=>k_is)
  (case vM=>k_is)
  (case Ep=>k_is)
  (case Ek=>k_is)
  (case Em=>k_is)
  (case yN=>k_is)
  (case Eo=>k_is)
  (case En=>k_is)
  (case Mp=>k_is)
  (case Mn=>k_is)
  (case AU=>k_is)
  (case AI=>k_is)
  (case AS=>k_is)
  (case AH=>k_is)
  (case AR=>k_is)
  (case AG=>k_is)
  (case AQ=>k_is)
  (case AF=>k_is)
  (case AO=>k_is)
  (case AE=>k_is)
  (case AN=>k_is)
  (case AD=>k_is)
  (case AM=>k_is)
  (case AB=>k_is)
  (case AL=>k_is)
  (case AA=>k_is)
  (case AK=>k_is)
  (case Az=>k_is)
  (case AJ=>k_is)
  (case Ay=>k_is)
  (case EC=>k_is)
  (case ED=>k_is)
  (case EB=>k_is)
  (case Ax=>kit_is)
  (case Aw=>kit_is)
  (case Av=>kit_is)
  (case Au=>kit_is)
  (case As=>kit_is)
  (case Aq=>kit_is)
  (case Ao=>kit_is)
  (case An=>kit_is)
  (case Am=>kit_is)
  (case EA=>kit_is)
  (case Al=>kit_is)
  (case Ak=>kit_is)
  (case Aj=>kit_is)
  (case Ai=>kit_is)
  (case Ah=>kit_is)
  (case Ag=>kit_is)
  (case Af=>kit_is)
  (case Ae=>kit_is)
  (case Ad=>kit_is)
  (case Ez=>kit_is)
  (case Ac=>kit_is)
  (case Ab=>kit_is)
  (case Aa=>kit_is)
  (case z9=>kit_is)
  (case z8=>kit_is)
  (case z0=>kit_is)
  (case zZ=>kit_is)
  (case zY=>kit_is)
  (case zX=>kit_is)
  (case Ey=>kit_is)
  (case zW=>kit_is)
  (case zV=>kit_is)
  (case zU=>kit_is)
  (case zT=>kit_is)
  (case zS=>kit_is)
  (case zR=>kit_is)
  (case zQ=>kit_is)
  (case zP=>kit_is)
  (case zO=>kit_is)
  (case Ex=>kit_is)
  (case zN=>kit_is)
  (case zM=>kit_is)
  (case zK=>kit_is)
  (case zJ=>kit_is)
  (case zI=>kit_is)
  (case zH=>kit_is)
  (case zG=>kit_is)
  (case zF=>kit_is)
  (case zE=>kit_is)
  (case Ew=>kit_is)
  (case zD=>kit_is)
  (case zC=>kit_is)
  (case zB=>kit_is)
  (case zA=>kit_is)
  (case zz=>kit_is)
  (case zy=>kit_is)
  (case zx=>kit_is)
  (case zu=>kit_is)
  (case zq=>kit_is)
  (case Eu=>kit_is)
  (case zp=>kit_is)
  (case zo=>kit_is)
  (case zm=>kit_is)
  (case zl=>kit_is)
  (case zk=>kit_is)
  (case zj=>kit_is)
  (case zh=>kit_is)
  (case zg=>kit_is)
  (case zf=>kit_is)
  (case Et=>kit_is)
  (case ze=>kit_is)
  (case zd=>kit_is)
  (case zc=>kit_is)
  (case zb=>kit_is)
  (case za=>kit_is)
  (case y9=>kit_is)
  (case yZ=>kit_is)
  (case yY=>kit_is)
  (case yX=>kit_is)
  (case Es=>kit_is)
  (case yW=>kit_is)
  (case yV=>kit_is)
  (case yU=>kit_is)
  (case yT=>kit_is)
  (case yS=>kit_is)
  (case yR=>kit_is)
  (case yQ=>kit_is)
  (case yP=>kit_is)
  (case yO=>kit_is)
  (case Er=>kit_is)
#print axioms PySem.Challenge.cw_holdwright_k10_steps_tell_holds
