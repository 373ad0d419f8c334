import PyProof.Rows.All
import Wide.All
import OpenK.AllK
import Wide.FinOn
import Lean
import PyProof.EqAt
import PyProof.EqKinds
import PyProof.TupleCall
import PySem.Spec
import PyProof.NeKinds
import KE.KDictList
import KE.KPairComp
import PyProof.DictWalks
import PyProof.ExcClass3
import PyProof.ExcInit
import PyProof.ExcBaseAll.ValueError
import OpenK.KMore
import PyProof.RaisesMany
import PyProof.ExcAttrAll.ValueError
import KE.KIsAll
import PyProof.RulesAs
import PyProof.FString5
import PyProof.StrLawsIn
import PyProof.Rows.SetFrom
import KE.KEqDict
import PyProof.Rows.DictMethods
import PySem.Challenge.RW_holdwright_k40_cases_told
set_option Elab.async false
set_option linter.all false
set_option maxRecDepth 100000
namespace L2
open PySem PySem.Spec PyProof.Rows
abbrev Key:=Sum Int Str
def wM:Key→Value→Bool
 | .inl k,v=>Value.isInt k v
 | .inr x,v=>Value.isStrOf x v
def a5r (w:World):Key→Int
 | .inl k=>hashInt k
 | .inr x=>hashStr w x
theorem cR:∀ {k:Key} {v:Value},wM k v=true→(∃ i t,k=Sum.inl i∧v=Value.int i t)∨(∃ x t,k=Sum.inr x∧v=Value.str x t)
 | .inl i,v,h=>by
  obtain ⟨t,e⟩:=Value.isInt_shape (k:=i) (v:=v) h
  exact .inl ⟨i,t,rfl,e⟩
 | .inr x,v,h=>by
  obtain ⟨t,e⟩:=Value.isStrOf_shape (x:=x) (v:=v) h
  exact .inr ⟨x,t,rfl,e⟩
theorem Gi (i:Int) (t:Tok):wM (.inl i) (.int i t)=true:=by simp [wM,Value.isInt]
theorem Gg (x:Str) (t:Tok):wM (.inr x) (.str x t)=true:=by simp [wM,Value.isStrOf]
theorem Rb (a b:Int):decide ((Sum.inl a:Key)=Sum.inl b)=(a == b):=by
 by_cases e:a=b
 ·subst e;simp
 ·have h:¬ (Sum.inl a:Key)=Sum.inl b:=fun q=>e (Sum.inl.inj q)
  rw [decide_eq_false h]
  exact (beq_eq_false_iff_ne.mpr e).symm
theorem Q8 (a b:Str):decide ((Sum.inr a:Key)=Sum.inr b)=decide (a=b):=by
 by_cases e:a=b
 ·subst e;simp
 ·have h:¬ (Sum.inr a:Key)=Sum.inr b:=fun q=>e (Sum.inr.inj q)
  rw [decide_eq_false h,decide_eq_false e]
theorem Ra (a:Int) (b:Str):decide ((Sum.inl a:Key)=Sum.inr b)=false:=decide_eq_false (fun q=>nomatch q)
theorem Q9 (a:Str) (b:Int):decide ((Sum.inr a:Key)=Sum.inl b)=false:=decide_eq_false (fun q=>nomatch q)
def cM (prog:Program) (w:World):PySem.KeyKind prog w Key where
 is:=wM
 hash:=a5r w
 inj:=fun v a b ha hb=>by
  rcases cR ha with ⟨i,t,rfl,rfl⟩ | ⟨x,t,rfl,rfl⟩
  ·rcases cR hb with ⟨j,u,rfl,e⟩ | ⟨y,u,rfl,e⟩
   ·injection e with e1 _;rw [e1]
   ·exact nomatch e
  ·rcases cR hb with ⟨j,u,rfl,e⟩ | ⟨y,u,rfl,e⟩
   ·exact nomatch e
   ·injection e with e1 _;rw [e1]
 byValue:=fun k v h=>by
  rcases cR h with ⟨i,t,rfl,rfl⟩ | ⟨x,t,rfl,rfl⟩ <;> rfl
 pyHash:=fun hv h=>by
  rcases cR hv with ⟨i,t,rfl,rfl⟩ | ⟨x,t,rfl,rfl⟩
  ·exact wpAny_pyHash_int h
  ·exact wpAny_pyHash_str h
 eqBool:=fun hu hv h=>by
  rcases cR hu with ⟨i,t,rfl,rfl⟩ | ⟨x,t,rfl,rfl⟩
  ·rcases cR hv with ⟨j,u,rfl,rfl⟩ | ⟨y,u,rfl,rfl⟩
   ·rw [Rb] at h;exact wpAny_eqBool_int h
   ·rw [Ra] at h;exact SeqAt.EqAt.int_str i t y u _ _ _ _ h
  ·rcases cR hv with ⟨j,u,rfl,rfl⟩ | ⟨y,u,rfl,rfl⟩
   ·rw [Q9] at h;exact SeqAt.EqAt.str_int x t j u _ _ _ _ h
   ·rw [Q8] at h;exact wpAny_eqBool_str h
 «strs»:=fun k x t v h=>by
  rcases cR h with ⟨i,u,rfl,e⟩ | ⟨y,u,rfl,e⟩
  ·exact nomatch e
  ·injection e with e1 _
   subst e1
   cases v <;> rfl
theorem Bg (prog:Program) (w:World) (i:Int) (t:Tok):(cM prog w).is (.inl i) (.int i t)=true:=Gi i t
theorem mO (prog:Program) (w:World) (x:Str) (t:Tok):(cM prog w).is (.inr x) (.str x t)=true:=Gg x t
end L2
namespace L2
open PySem PySem.Spec PyProof.Rows
inductive V where
 | fL | bl (b:Bool) | int (i:Int) | str (x:Str) | Hj (b:Array UInt8) | YD (b:UInt64) | ref (a:Addr) | ty (n:String)
 deriving DecidableEq
def RelV:V→Value→Prop
 | .fL,u=>u=Value.none
 | .bl b,u=>u=Value.bool b
 | .int i,u=>∃ t,u=Value.int i t
 | .str x,u=>∃ t,u=Value.str x t
 | .Hj b,u=>∃ t,u=Value.bytes b t
 | .YD b,u=>∃ t,u=Value.float b t
 | .ref a,u=>u=Value.ref a
 | .ty n,u=>u=Value.type n
abbrev Vals:List V→List Value→Prop:=Paired RelV
theorem Vals.length {xs:List V} {us:List Value} (r:Vals xs us):xs.length=us.length:=Paired.length r
theorem Vals.get:∀ {xs:List V} {us:List Value} {i:Nat} {x:V},Vals xs us→xs[i]?=some x→∃ u,us[i]?=some u∧RelV x u
 | _,_,_,_,.nil,e=>by simp at e
 | _,_,0,_,.cons r _,e=>by simp at e;subst e;exact ⟨_,rfl,r⟩
 | _,_,i+1,x,.cons _ t,e=>by
  obtain ⟨u,h1,h2⟩:=Vals.get (i:=i) (x:=x) t (by simpa using e)
  exact ⟨u,by simpa using h1,h2⟩
theorem Vals.set {x:V} {u:Value} (r:RelV x u):∀ {xs:List V} {us:List Value} (i:Nat),Vals xs us→Vals (xs.set i x) (us.set i u)
 | _,_,_,.nil=>.nil
 | _,_,0,.cons _ t=>.cons r t
 | _,_,i+1,.cons q t=>.cons q (Vals.set r i t)
theorem Vals.append:∀ {xs ys:List V} {us ws:List Value},Vals xs us→Vals ys ws→Vals (xs++ys) (us++ws)
 | _,_,_,_,.nil,s=>s
 | _,_,_,_,.cons r t,s=>.cons r (Vals.append t s)
theorem Vals.take:∀ {xs:List V} {us:List Value} (n:Nat),Vals xs us→Vals (xs.take n) (us.take n)
 | _,_,0,_=>.nil
 | _,_,_+1,.nil=>.nil
 | _,_,n+1,.cons r t=>.cons r (Vals.take n t)
theorem Vals.drop:∀ {xs:List V} {us:List Value} (n:Nat),Vals xs us→Vals (xs.drop n) (us.drop n)
 | _,_,0,r=>r
 | _,_,_+1,.nil=>.nil
 | _,_,n+1,.cons _ t=>Vals.drop n t
def lE:Option V→Option Value→Prop
 | some v,some u=>RelV v u
 | none,none=>True
 | _,_=>False
def KV {κ:Type}:List (κ×V)→List (κ×Value)→Prop:=Paired fun (p:κ×V) (q:κ×Value)=>p.1=q.1∧RelV p.2 q.2
def kV:Key→V
 | .inl i=>.int i
 | .inr x=>.str x
inductive HO where
 | lst (xs:List V)
 | tup (xs:List V)
 | dK (kvs:List (Key×V)) | dT (kvs:List (List Key×V))
 | set (S:Int→Bool) (n:Nat)
 | ins (C dx:Addr) (fs:List (Str×V))
 | own (x:Addr)
 | xd (fs:List (Str×V))
 | met (f x:Addr)
 | Xk (lo hi:Int)
 | K5 (o:Obj) (u:HO)
 | OW (ps:Array Value)
 | ext (φ:Heap→Prop)
abbrev Hp:=Addr→Option HO
def upd (H:Hp) (a:Addr) (o:HO):Hp:=fun b=>if b=a then some o else H b
theorem ah {H:Hp} {a:Addr} {o:HO}:upd H a o a=some o:=by unfold upd;rw [if_pos rfl]
theorem aM {H:Hp} {a b:Addr} {o:HO} (h:b≠a):upd H a o b=H b:=by unfold upd;rw [if_neg h]
theorem uR {H:Hp} {a:Addr} {o u:HO}:upd (upd H a o) a u=upd H a u:=by
 funext b;unfold upd;split <;> rfl
theorem mK {H:Hp} {a b:Addr} {o u:HO} (h:H a=some o) (h':H b=some u) (d:o≠u):a≠b:=by
 intro e;subst e;rw [h] at h';exact d (Option.some.inj h')
theorem av {H:Hp} {a b:Addr} {o:HO} (h:H a=some o) (h':H b=none):a≠b:=by
 intro e;subst e;rw [h] at h';cases h'
section
variable (P:Program) (w:World)
def cX (H:Hp) (h:Heap) (a:Addr):HO→Prop
 | .lst xs=>xs.length≤sizeLine∧∃ (its:List Value) (n:Nat),Vals xs its∧h.get? a=some { cls:=.type "list",data:=.seq its.toArray n }
 | .tup xs=>xs.length≤sizeLine∧∃ its:List Value,Vals xs its∧IsTup h a its.toArray
 | .dK kvs=>kvs.length≤sizeLine∧(a == sysModules)=false∧∃ vs,KV kvs vs∧h.DictOf (cM P w) a vs
 | .dT kvs=>kvs.length≤sizeLine∧(a == sysModules)=false∧∃ xs:List (List Key×Addr×Value),
   Paired (fun (p:List Key×V) (q:List Key×Addr×Value)=>p.1=q.1∧H q.2.1=some (.tup (p.1.map kV))∧RelV p.2 q.2.2) kvs xs ∧
   ∃ o es ep,h.get? a=some o∧o.ExactDict∧o.data=.dict es ep∧es.toList=xs.map (entryOfKey (tupleKind (cM P w)))∧(xs.map (·.1)).Nodup
 | .set S n=>h.SetOf (intKind P w) a S n
 | .ins C dx fs=>H dx=some (.own a)∧fs.length≤1000∧dx≠a∧h.get? a=some (PySem.W.instObj C dx) ∧
   ∃ mA,h.Ns1 dx mA∧(∀ f,lE (fs.lookup f) (mA f))∧PySem.Within mA (fs.map (·.1))
 | .own _=>∃ o,h.get? a=some o
 | .xd fs=>∃ mA,h.Ns1 a mA∧∀ f,lE (fs.lookup f) (mA f)
 | .Xk lo hi=>∃ t u v,h.get? a=some { cls:=.type "range",data:=.fields #[.int lo t,.int hi u,.int 1 v] }
 | .K5 o u=>h.get? a=some o∧cX H h a u
 | .OW ps=>h.get? a=some { cls:=.none,data:=.fields ps }
 | .met f x=>h.get? a=some (PySem.W.methodObj (.ref f) (.ref x))
 | .ext φ=>φ h∧(∃ o,h.get? a=some o)∧∀ h1 h2:Heap,φ h1→(∀ o,h1.get? a=some o→h2.get? a=some o)→φ h2
def nh (H:Hp) (h:Heap):Prop:=∀ a o,H a=some o→cX P w H h a o
end
section
variable {P:Program} {w:World} {H H':Hp} {h h':Heap} {a:Addr} {o:HO}
theorem cX.lt (x:cX P w H h a o):a < h.objs.size:=by
 cases o with
 | lst xs=>obtain ⟨_,_,_,_,e⟩:=x;exact Heap.lt_size e
 | tup xs=>obtain ⟨_,_,_,p⟩:=x;exact p.lt
 | dK kvs=>obtain ⟨_,_,_,_,o,_,_,e,_⟩:=x;exact Heap.lt_size e
 | dT kvs=>obtain ⟨_,_,_,_,o,_,_,e,_⟩:=x;exact Heap.lt_size e
 | set S n=>obtain ⟨o,_,_,_,e,_⟩:=x;exact Heap.lt_size e
 | ins C dx fs=>obtain ⟨_,_,_,e,_⟩:=x;exact Heap.lt_size e
 | own y=>obtain ⟨_,e⟩:=x;exact Heap.lt_size e
 | xd fs=>obtain ⟨_,⟨_,_,_,e,_⟩,_⟩:=x;exact Heap.lt_size e
 | Xk lo hi=>obtain ⟨_,_,_,e⟩:=x;exact Heap.lt_size e
 | K5 ob u=>obtain ⟨e,_⟩:=x;exact Heap.lt_size e
 | OW ps=>exact Heap.lt_size (show h.get? a=some _ from x)
 | met f y=>exact Heap.lt_size (show h.get? a=some _ from x)
 | ext φ=>obtain ⟨_,⟨_,e⟩,_⟩:=x;exact Heap.lt_size e
theorem Paired.cF {α β:Type} {F G:α→β→Prop}:∀ {l₁:List α} {l₂:List β},Paired F l₁ l₂→(∀ a b,F a b→G a b)→Paired G l₁ l₂
 | _,_,.nil,_=>.nil
 | _,_,.cons r t,f=>.cons (f _ _ r) (Paired.cF t f)
theorem cX.stay (x:cX P w H h a o) (k:∀ b u,(b=a∨H b=some (.own a))→h.get? b=some u→h'.get? b=some u)
  (ho:∀ b,H b=some (.own a)→H' b=some (.own a)) (ht:∀ b xs,H b=some (.tup xs)→H' b=some (.tup xs)):cX P w H' h' a o:=by
 induction o with
 | lst xs=>obtain ⟨z,its,n,r,e⟩:=x;exact ⟨z,its,n,r,k _ _ (.inl rfl) e⟩
 | tup xs=>obtain ⟨z,its,r,ob,e,c⟩:=x;exact ⟨z,its,r,ob,k _ _ (.inl rfl) e,c⟩
 | dK kvs=>obtain ⟨z,y,vs,r,ob,es,ep,e,c⟩:=x;exact ⟨z,y,vs,r,ob,es,ep,k _ _ (.inl rfl) e,c⟩
 | dT kvs =>
  obtain ⟨z,y,xs,r,ob,es,ep,e,c⟩:=x
  exact ⟨z,y,xs,Paired.cF r fun p q z=>⟨z.1,ht _ _ z.2.1,z.2.2⟩,ob,es,ep,k _ _ (.inl rfl) e,c⟩
 | set S n=>obtain ⟨ob,es,ep,t,e,c⟩:=x;exact ⟨ob,es,ep,t,k _ _ (.inl rfl) e,c⟩
 | ins C dx fs =>
  obtain ⟨d,z,ne,e,mA,⟨od,es,ep,e2,c⟩,r⟩:=x
  exact ⟨ho _ d,z,ne,k _ _ (.inl rfl) e,mA,⟨od,es,ep,k _ _ (.inr d) e2,c⟩,r⟩
 | own y=>obtain ⟨ob,e⟩:=x;exact ⟨ob,k _ _ (.inl rfl) e⟩
 | xd fs=>obtain ⟨mA,⟨od,es,ep,e,c⟩,r⟩:=x;exact ⟨mA,⟨od,es,ep,k _ _ (.inl rfl) e,c⟩,r⟩
 | Xk lo hi=>obtain ⟨t,u,v,e⟩:=x;exact ⟨t,u,v,k _ _ (.inl rfl) e⟩
 | K5 ob u ih=>obtain ⟨e,q⟩:=x;exact ⟨k _ _ (.inl rfl) e,ih q⟩
 | OW ps =>
  have e:h.get? a=some { cls:=.none,data:=.fields ps }:=x
  show h'.get? a=some { cls:=.none,data:=.fields ps }
  exact k a _ (.inl rfl) e
 | met f y =>
  have e:h.get? a=some (PySem.W.methodObj (.ref f) (.ref y)):=x
  show h'.get? a=some (PySem.W.methodObj (.ref f) (.ref y))
  exact k a _ (.inl rfl) e
 | ext φ=>obtain ⟨p,⟨o,e⟩,st⟩:=x;exact ⟨st _ _ p fun o q=>k _ _ (.inl rfl) q,⟨o,k _ _ (.inl rfl) e⟩,st⟩
theorem nh.lt (x:nh P w H h) (e:H a=some o):a < h.objs.size:=(x a o e).lt
theorem nh.fresh (x:nh P w H h) (e:h.objs.size≤a):H a=none:=by
 cases q:H a with
 | none=>rfl
 | some u=>exact absurd (Nat.lt_of_lt_of_le (x.lt q) e) (Nat.lt_irrefl _)
theorem nh.kept (x:nh P w H h) (k:∀ b u,h.get? b=some u→h'.get? b=some u):nh P w H h':=fun a o e =>
 (x a o e).stay (fun b u _ q=>k b u q) (fun _ q=>q) fun _ _ q=>q
theorem nh.laid (x:nh P w H h) (k:∀ b u,h.get? b=some u→h'.get? b=some u) (hp:h.objs.size≤a) (new:cX P w (upd H a o) h' a o):nh P w (upd H a o) h':=fun b u e=>by
 have hn:=x.fresh hp
 by_cases hb:b=a
 ·subst hb;rw [ah] at e;cases e;exact new
 ·rw [aM hb] at e
  exact (x b u e).stay (fun c v _ q=>k c v q) (fun c q=>by rw [aM (av q hn)];exact q) fun c xs q=>by rw [aM (av q hn)];exact q
end
def Rd (H:Hp) (a:Addr) (u:HO):Prop:=H a=some u∨∃ o,H a=some (.K5 o u)
theorem Rd.ok {P:Program} {w:World} {H:Hp} {h:Heap} {a:Addr} {u:HO} (r:Rd H a u) (x:nh P w H h):cX P w H h a u:=by
 rcases r with r | ⟨o,r⟩
 ·exact x a u r
 ·obtain ⟨_,q⟩:=x a _ r
  exact q
def W8:Option HO→Prop
 | some (.lst _)=>True
 | some (.dK _)=>True
 | some (.dT _)=>True
 | some (.set _ _)=>True
 | some (.ins _ _ _)=>True
 | some (.ext _)=>True
 | _=>False
section
variable {P:Program} {w:World} {H:Hp} {h h':Heap} {x e:Addr} {o':HO}
theorem nh.write (ok:nh P w H h) (mu:W8 (H x)) (he:e=x∨H e=some (.own x)) (k:∀ b u,b≠e→h.get? b=some u→h'.get? b=some u) (Tr:∃ u,h'.get? e=some u)
  (new:cX P w (upd H x o') h' x o'):nh P w (upd H x o') h':=fun b u q=>by
 have UR:∀ c y,H c=some (.own y)→c≠x:=fun c y r z=>by subst z;rw [r] at mu;exact mu
 have a3Y:∀ c xs,H c=some (.tup xs)→c≠x:=fun c xs r z=>by subst z;rw [r] at mu;exact mu
 by_cases hb:b=x
 ·subst hb;rw [ah] at q;cases q;exact new
 ·rw [aM hb] at q
  by_cases Rn:b=e
  ·have q':H b=some (.own x):=by
    rcases he with z | z
    ·exact absurd (Rn.trans z) hb
    ·rw [Rn];exact z
   rw [q] at q';cases q'
   obtain ⟨v,hv⟩:=Tr
   exact ⟨v,by rw [Rn];exact hv⟩
  ·refine (ok b u q).stay (fun c v hc r=>k c v ?_ r) (fun c r=>by rw [aM (UR c b r)];exact r) fun c xs r=>by rw [aM (a3Y c xs r)];exact r
   rcases hc with rfl | hc
   ·exact Rn
   ·rintro rfl
    rcases he with z | z
    ·exact UR c b hc z
    ·rw [hc] at z;cases z;exact hb rfl
end
structure Un (fs ex:List Addr) (H H':Hp) (h h':Heap):Prop where
 keep:∀ b o,h.get? b=some o→H b=none→b ∉ fs→b ∉ ex→h'.get? b=some o
 slot:∀ b o,h.get? b=some o→H b=none→b∈fs→b ∉ ex→∃ sl,h'.get? b=some { o with slots:=sl }
 free:∀ b o,h.get? b=some o→H b=none→b ∉ ex→H' b=none
 there:∀ b o,h.get? b=some o→b ∉ ex→∃ o',h'.get? b=some o'
 tups:∀ b xs,H b=some (.tup xs)→H' b=some (.tup xs)
 qQ:∀ b o u,H b=some (.K5 o u)→H' b=some (.K5 o u)
 rC:∀ b ps,H b=some (.OW ps)→∃ more,H' b=some (.OW (ps++more))
section
variable {fs fs' ex ex':List Addr} {H H1 H2:Hp} {h h1 h2 h':Heap} {a x e:Addr} {o:HO}
theorem Un.any (u:Un fs ex H H1 h h1) {b:Addr} {ob:Obj} (q:h.get? b=some ob) (n:H b=none) (hx:b ∉ ex):∃ sl,h1.get? b=some { ob with slots:=sl }:=by
 by_cases hb:b∈fs
 ·exact u.slot b ob q n hb hx
 ·exact ⟨ob.slots,u.keep b ob q n hb hx⟩
theorem Un.kept (k:∀ b u,h.get? b=some u→h'.get? b=some u):Un fs ex H H h h' :=
 ⟨fun b ob q _ _ _=>k b ob q,fun b ob q _ _ _=>⟨ob.slots,k b ob q⟩,fun _ _ _ n _=>n,fun b ob q _=>⟨ob,k b ob q⟩,fun _ _ q=>q,fun _ _ _ q=>q,fun _ ps q=>⟨#[],by rw [q];simp⟩⟩
theorem Un.refl:Un fs ex H H h h:=Un.kept fun _ _ q=>q
theorem Un.laid (k:∀ b u,h.get? b=some u→h'.get? b=some u) (hp:h.objs.size≤a) (hn:H a=none):Un fs ex H (upd H a o) h h' where
 keep:=fun b u q _ _ _=>k b u q
 slot:=fun b u q _ _ _=>⟨u.slots,k b u q⟩
 free:=fun b u q n _=>by rw [aM (Nat.ne_of_lt (Nat.lt_of_lt_of_le (Heap.lt_size q) hp))];exact n
 there:=fun b u q _=>⟨u,k b u q⟩
 tups:=fun b xs q=>by rw [aM (av q hn)];exact q
 qQ:=fun b u xs q=>by rw [aM (av q hn)];exact q
 rC:=fun b ps q=>⟨#[],by rw [aM (av q hn),q];simp⟩
theorem Un.write (mu:W8 (H x)) (he:e=x∨H e=some (.own x)) (k:∀ b u,b≠e→h.get? b=some u→h'.get? b=some u) (Tr:∃ u,h'.get? e=some u):Un fs ex H (upd H x o) h h':=by
 have hx:∀ b,H b=none→b≠x:=fun b n z=>by subst z;rw [n] at mu;exact mu
 have hb:∀ b,H b=none→b≠e:=fun b n z=>by
  subst z
  rcases he with r | r
  ·exact hx b n r
  ·rw [n] at r;cases r
 have hm:∀ b u,H b=some u→¬ W8 (some u)→b≠x:=fun b u q nm z=>by subst z;rw [q] at mu;exact nm mu
 refine ⟨fun b u q n _ _=>k b u (hb b n) q,fun b u q n _ _=>⟨u.slots,k b u (hb b n) q⟩,fun b u q n _=>by rw [aM (hx b n)];exact n,fun b u q _=>?_,
  fun b xs q=>by rw [aM (hm b _ q fun z=>z)];exact q,fun b u xs q=>by rw [aM (hm b _ q fun z=>z)];exact q,fun b ps q=>⟨#[],by rw [aM (hm b _ q fun z=>z),q];simp⟩⟩
 by_cases Rn:b=e
 ·subst Rn;exact Tr
 ·exact ⟨u,k b u Rn q⟩
end
def Xh (h:Heap) (H:Hp):List Addr:=(List.range h.objs.size).filter fun a=>(H a).isSome
def zS (h:Heap) (H:Hp):Heap:=PySem.W.hideAll h (Xh h H)
theorem Gn (h:Heap) (H:Hp):(zS h H).objs.size=h.objs.size:=PySem.W.hideAll_size _ _
theorem KQ {h:Heap} {H:Hp} {b:Addr} {o:Obj} (e:h.get? b=some o) (n:H b=none):(zS h H).get? b=some o :=
 PySem.W.hideAll_get _ e fun hm=>by
  have q:(H b).isSome=true:=(List.mem_filter.mp hm).2
  rw [n] at q;simp at q
theorem Nj {h:Heap} {H:Hp} {b:Addr} {o:Obj} (e:(zS h H).get? b=some o):h.get? b=some o∧H b=none:=by
 have e':h.get? b=some o:=PySem.W.of_hideAll (Xh h H) e
 refine ⟨e',?_⟩
 cases q:H b with
 | none=>rfl
 | some x =>
  have hm:b∈Xh h H:=List.mem_filter.mpr ⟨List.mem_range.mpr (Heap.lt_size e'),by simp [q]⟩
  have z:(zS h H).get? b=none:=PySem.W.hideAll_none (Xh h H) hm
  rw [z] at e;cases e
def Om (g h:Heap) (L:Addr):List (Addr×Obj):=(List.range h.objs.size).filterMap fun a=>if a=L∨(g.get? a).isSome=true then none else (h.get? a).map fun o=>(a,o)
def rest (g h:Heap) (L d:Addr):List (Addr×Obj):=(Om g h L).filter fun p=>decide (p.1≠d)
end L2
namespace L2
open PySem PySem.Spec PyProof.Rows
structure Mod (K:PySem.W.Frag) (mg:Str→Option Value) (base:Heap):Prop where
 lS:K.In base
 glob:base.Ns mainGlobals mg
 blt:∃ mb,base.Ns builtinsNs mb∧∀ x:Str,x≠"__name__"→mb x=bootBuiltins x
 nolimit:base.NoLimit
structure Cx where
 prog:Program
 w:World
 K:PySem.W.Frag
 mg:Str→Option Value
 base:Heap
 A:Around
 N:List Str
 s₀:Shared
 H₀:Hp
 env:Env
 outer:List Env
 stack:List Env
 ex:List Addr
 fn:Str→Bool
 calm:Bool
 pn:List (Addr×Obj)
 xe:Value→Shared→Prop
def frs (l:List Env):List Addr:=l.filterMap (·.frame)
abbrev Cx.fs (X:Cx):List Addr:=frs X.outer
def ZD (sc:Scope) (x:Str):Prop:=sc.names.lookup x=some .local∨sc.names.lookup x=some .cell∨sc.names.lookup x=some .free
def Loc (sc:Scope) (x:Str):Prop:=sc.names.lookup x=some .local∨sc.names.lookup x=some .cell
def Look (env:Env) (h:Heap) (m:Str→Option Value) (x:Str) (u:Value):Prop :=
 (env.kindOf x=some .local∧m x=some u)∨((env.kindOf x=some .cell∨env.kindOf x=some .free)∧∃ c,env.cells.lookup x=some c∧h.IsCell c (some u))
structure Cx.Ok (X:Cx):Prop where
 mod:Mod X.K X.mg X.base
 kind:X.env.scope.kind=.function
 glob:X.env.globals=mainGlobals
 blt:X.env.builtins=builtinsNs
 above:X.s₀.heap.objs.size≤X.env.locals
 inj:∀ x y c,X.env.cells.lookup x=some c→X.env.cells.lookup y=some c→x=y
 has:∀ x,(X.env.kindOf x=some .cell∨X.env.kindOf x=some .free)→∃ c,X.env.cells.lookup x=some c
 PB:∀ x c,X.fn x=true→X.env.cells.lookup x=some c→X.s₀.heap.objs.size≤c
 hd:X.calm=true→X.A.handled=none
 frames:X.A.frames=some X.stack
 stk:X.stack=X.outer∨(X.stack=X.env::X.outer∧X.env.frame=some X.env.locals)
 RU:∀ b∈X.ex,b≠X.env.locals∧∀ x c,X.env.cells.lookup x=some c→c≠b
 bs:∀ b o,X.base.get? b=some o→X.s₀.heap.get? b=some o∧X.H₀ b=none
 GI:X.base.objs.size≤X.s₀.heap.objs.size
 Ba:∀ b o,X.base.get? b=some o→b ∉ X.ex
 BE:∀ b∈X.ex,b ∉ X.fs
 pU:X.s₀.heap.FunFrames X.base X.outer
 Mg:∀ b∈X.fs,X.H₀ b=none
structure Inv (X:Cx) (pins:List (Addr×Obj)) (σ:List (Option V)) (H:Hp) (s:Shared):Prop where
 ok:X.Ok
 os:s.os=X.s₀.os
 bare:AllBare s.gens
 base:Un X.fs X.ex X.H₀ H X.s₀.heap s.heap
 loc:∃ m,s.heap.Ns X.env.locals m∧∀ (i:Nat) (x:Str) (v:V),X.N[i]?=some x→σ[i]?=some (some v)→ZD X.env.scope x→∃ u,RelV v u∧Look X.env s.heap m x u
 cell:∀ x c,X.env.cells.lookup x=some c→∃ v,s.heap.IsCell c v
 free:H X.env.locals=none
 jh:∀ x c,X.env.cells.lookup x=some c→H c=none
 pin:∀ p∈X.pn++pins,s.heap.get? p.1=some p.2∧H p.1=none∧p.1≠X.env.locals∧p.1 ∉ X.fs∧∀ v,p.2.data≠.cell v
 hok:nh X.prog X.w H s.heap
 len:σ.length=X.N.length
section
variable {X:Cx} {pins:List (Addr×Obj)} {σ:List (Option V)} {H H':Hp} {s:Shared} {h':Heap}
theorem Cx.Ok.a4b (ok:X.Ok) {b:Addr} {o:Obj} (e:X.base.get? b=some o):b ∉ X.fs:=fun hb=>by
 have:=(ok.pU.mem hb).1
 rw [e] at this;cases this
theorem Inv.bs (I:Inv X pins σ H s):∀ b o,X.base.get? b=some o→s.heap.get? b=some o∧H b=none:=fun b o e =>
 ⟨I.base.keep b o (I.ok.bs b o e).1 (I.ok.bs b o e).2 (I.ok.a4b e) (I.ok.Ba b o e),I.base.free b o (I.ok.bs b o e).1 (I.ok.bs b o e).2 (I.ok.Ba b o e)⟩
theorem Inv.bk (I:Inv X pins σ H s):∀ b o,X.base.get? b=some o→s.heap.get? b=some o:=fun b o e=>(I.bs b o e).1
theorem Inv.mod (I:Inv X pins σ H s):Mod X.K X.mg X.base:=I.ok.mod
theorem Inv.p8 (I:Inv X pins σ H s):X.K.In s.heap:=I.ok.mod.lS.keeps I.bk
theorem Inv.fr (I:Inv X pins σ H s):∃ m,Fr X.base X.env.locals s.heap m :=
 let ⟨m,hn,_⟩:=I.loc
 ⟨m,hn,I.bk,Nat.le_trans I.ok.GI I.ok.above⟩
theorem Inv.lt (I:Inv X pins σ H s):X.env.locals < s.heap.objs.size:=let ⟨_,hn,_⟩:=I.loc;hn.lt
theorem Inv.sz (I:Inv X pins σ H s):X.s₀.heap.objs.size≤s.heap.objs.size:=Nat.le_trans I.ok.above (Nat.le_of_lt I.lt)
theorem Inv.US (I:Inv X pins σ H s) {a:Addr} (h:s.heap.objs.size≤a):a ∉ X.fs:=fun hb=>by
 obtain ⟨_,o,ho,_⟩:=I.ok.pU.mem hb
 exact absurd (Nat.lt_of_lt_of_le (Heap.lt_size ho) (Nat.le_trans I.sz h)) (Nat.lt_irrefl _)
theorem Inv.Py (I:Inv X pins σ H s):∀ x c,X.env.cells.lookup x=some c→c≠X.env.locals:=fun x c e z=>by
 obtain ⟨v,o,ho,hd⟩:=I.cell x c e
 obtain ⟨m,⟨o',es,ep,ho',hd',_⟩,_⟩:=I.loc
 rw [z,ho'] at ho;cases ho;rw [hd'] at hd;cases hd
theorem Inv.pU (I:Inv X pins σ H s):s.heap.FunFrames X.base X.outer:=by
 have all:∀ (l:List Env),(∀ b∈frs l,b∈X.fs)→X.s₀.heap.FunFrames X.base l→s.heap.FunFrames X.base l:=by
  intro l
  induction l with
  | nil=>intro _ _;trivial
  | cons env r ih =>
   intro hs hl
   obtain ⟨hk,⟨L,o,hf,hn,ho,hd⟩,hr⟩:=hl
   have hL:L∈X.fs:=hs L (by unfold frs;rw [List.filterMap_cons,hf];exact List.mem_cons_self)
   obtain ⟨sl,e⟩:=I.base.slot L o ho (I.ok.Mg L hL) hL fun z=>I.ok.BE L z hL
   exact ⟨hk,⟨L,_,hf,hn,e,hd⟩,ih (fun b hb=>hs b (by unfold frs;rw [List.filterMap_cons,hf];exact List.mem_cons_of_mem _ hb)) hr⟩
 exact all X.outer (fun _ hb=>hb) I.ok.pU
theorem Inv.stack (I:Inv X pins σ H s):s.heap.FunFrames X.base X.stack:=by
 rcases I.ok.stk with e | ⟨e,hf⟩
 ·rw [e];exact I.pU
 ·rw [e]
  obtain ⟨m,hn,_⟩:=I.loc
  refine .cons (by rw [I.ok.kind];decide) hf hn ?_ I.pU
  exact Heap.get?_none_of_le (Nat.le_trans I.ok.GI I.ok.above)
theorem Inv.yT (I:Inv X pins σ H s):∀ b∈frs X.stack,b∈X.env.locals::X.fs:=fun b hb=>by
 rcases I.ok.stk with e | ⟨e,hf⟩
 ·rw [e] at hb;exact List.mem_cons_of_mem _ hb
 ·rw [e] at hb
  unfold frs at hb
  rw [List.filterMap_cons,hf] at hb
  exact hb
theorem Inv.qg (I:Inv X pins σ H s):∀ b∈frs X.stack,H b=none:=fun b hb=>by
 rcases List.mem_cons.mp (I.yT b hb) with e | hb
 ·rw [e];exact I.free
 ·obtain ⟨_,o,ho,_⟩:=I.ok.pU.mem hb
  exact I.base.free b o ho (I.ok.Mg b hb) fun z=>I.ok.BE b z hb
theorem Inv.step {g':Array GenState} {t':Nat} {d':Drawn} {ch:List Addr} (I:Inv X pins σ H s)
  (hch:∀ b∈ch,(b∈X.ex∨X.s₀.heap.objs.size≤b)∧b≠X.env.locals∧(∀ x c,X.env.cells.lookup x=some c→c≠b)∧∀ p∈X.pn++pins,p.1≠b)
  (keep:∀ b o,b≠X.env.locals→b ∉ X.fs→b ∉ ch→s.heap.get? b=some o→H b=none→h'.get? b=some o)
  (slot:∀ b o,b≠X.env.locals→b∈X.fs→b ∉ ch→s.heap.get? b=some o→H b=none→∃ sl,h'.get? b=some { o with slots:=sl }) (free:∀ b o,b ∉ ch→s.heap.get? b=some o→H b=none→H' b=none)
  (there:∀ b o,b ∉ ch→s.heap.get? b=some o→∃ o',h'.get? b=some o')
  (tups:∀ b xs,H b=some (.tup xs)→H' b=some (.tup xs)) (qQ:∀ b o u,H b=some (.K5 o u)→H' b=some (.K5 o u)) (rC:∀ b ps,H b=some (.OW ps)→∃ more,H' b=some (.OW (ps++more)))
  (ns:∀ m,s.heap.Ns X.env.locals m→h'.Ns X.env.locals m) (hok:nh X.prog X.w H' h') (hg:AllBare g') :
  Inv X pins σ H' { s with heap:=h',gens:=g',drawn:=d',toks:=t' }:=by
 have neL:∀ b o,X.s₀.heap.get? b=some o→b≠X.env.locals:=fun b o e=>Nat.ne_of_lt (Nat.lt_of_lt_of_le (Heap.lt_size e) I.ok.above)
 have Xq:∀ b o,X.s₀.heap.get? b=some o→b ∉ X.ex→b ∉ ch:=fun b o e hx hb=>by
  rcases (hch b hb).1 with z | z
  ·exact hx z
  ·exact absurd (Nat.lt_of_lt_of_le (Heap.lt_size e) z) (Nat.lt_irrefl _)
 have cellK:∀ x c,X.env.cells.lookup x=some c→∀ v,s.heap.IsCell c v→h'.IsCell c v:=fun x c e v ⟨o,ho,hd⟩=>by
  have UW:c ∉ ch:=fun z=>(hch c z).2.2.1 x c e rfl
  by_cases hc:c∈X.fs
  ·obtain ⟨sl,q⟩:=slot c o (I.Py x c e) hc UW ho (I.jh x c e)
   exact ⟨_,q,hd⟩
  ·exact ⟨o,keep c o (I.Py x c e) hc UW ho (I.jh x c e),hd⟩
 refine ⟨I.ok,I.os,hg,⟨fun b o e n hb hx=>?_,fun b o e n hb hx=>?_,fun b o e n hx=>?_,fun b o e hx=>?_,fun b xs e=>tups b xs (I.base.tups b xs e),fun b o xs e=>qQ b o xs (I.base.qQ b o xs e),fun b ps e=>?_⟩,?_,fun x c e=>?_,?_,fun x c e=>?_,fun p hp=>?_,hok,I.len⟩
 ·exact keep b o (neL b o e) hb (Xq b o e hx) (I.base.keep b o e n hb hx) (I.base.free b o e n hx)
 ·obtain ⟨sl,e1⟩:=I.base.slot b o e n hb hx
  obtain ⟨sl',e2⟩:=slot b _ (neL b o e) hb (Xq b o e hx) e1 (I.base.free b o e n hx)
  exact ⟨sl',e2⟩
 ·obtain ⟨o',e1⟩:=I.base.there b o e hx
  exact free b o' (Xq b o e hx) e1 (I.base.free b o e n hx)
 ·obtain ⟨o',e1⟩:=I.base.there b o e hx
  exact there b o' (Xq b o e hx) e1
 ·obtain ⟨m1,e1⟩:=I.base.rC b ps e
  obtain ⟨m2,e2⟩:=rC b _ e1
  exact ⟨m1++m2,by rw [e2,Array.append_assoc]⟩
 ·obtain ⟨m,hn,hl⟩:=I.loc
  refine ⟨m,ns m hn,fun i x v e1 e2 e3=>?_⟩
  obtain ⟨u,r,l⟩:=hl i x v e1 e2 e3
  refine ⟨u,r,?_⟩
  rcases l with l | ⟨k,c,e,z⟩
  ·exact .inl l
  ·exact .inr ⟨k,c,e,cellK x c e _ z⟩
 ·obtain ⟨v,z⟩:=I.cell x c e
  exact ⟨v,cellK x c e v z⟩
 ·obtain ⟨m,⟨o,_,_,ho,_⟩,_⟩:=I.loc
  exact free _ o (fun z=>(hch _ z).2.1 rfl) ho I.free
 ·obtain ⟨v,o,ho,hd⟩:=I.cell x c e
  exact free c o (fun z=>(hch c z).2.2.1 x c e rfl) ho (I.jh x c e)
 ·obtain ⟨e,n,ne,nf,d⟩:=I.pin p hp
  have UW:p.1 ∉ ch:=fun z=>(hch p.1 z).2.2.2 p hp rfl
  exact ⟨keep p.1 p.2 ne nf UW e n,free p.1 p.2 UW e n,ne,nf,d⟩
theorem Inv.un {t':Nat} (I:Inv X pins σ H s) (u:Un X.fs [] H H' s.heap h') (hok:nh X.prog X.w H' h'):Inv X pins σ H' { s with heap:=h',toks:=t' }:=by
 obtain ⟨m,⟨o,es,ep,ho,r⟩,_⟩:=id I.loc
 obtain ⟨sl,hL⟩:=u.any ho I.free (by simp)
 exact I.step (g':=s.gens) (d':=s.drawn) (ch:=[]) (fun _ z=>nomatch z) (fun b o _ hb _ e n=>u.keep b o e n hb (by simp)) (fun b o _ hb _ e n=>u.slot b o e n hb (by simp)) (fun b o _ e n=>u.free b o e n (by simp)) (fun b o _ e=>u.there b o e (by simp)) u.tups u.qQ u.rC (fun m' hm=>by
  obtain ⟨o',es',ep',ho',r'⟩:=hm
  rw [ho] at ho';cases ho'
  exact ⟨_,es',ep',hL,r'⟩) hok I.bare
theorem Inv.call {g':Array GenState} {t':Nat} {d':Drawn} {ch:List Addr} (I:Inv X pins σ H s) (u:Un (frs X.stack) ch H H' s.heap h') (hok:nh X.prog X.w H' h') (hg:AllBare g')
  (hch:∀ b∈ch,(b∈X.ex∨X.s₀.heap.objs.size≤b)∧b≠X.env.locals∧(∀ x c,X.env.cells.lookup x=some c→c≠b)∧∀ p∈X.pn++pins,p.1≠b) :
  Inv X pins σ H' { s with heap:=h',gens:=g',drawn:=d',toks:=t' }:=by
 obtain ⟨m,⟨o,es,ep,ho,r⟩,_⟩:=id I.loc
 obtain ⟨sl,hL⟩:=u.any ho I.free fun z=>(hch _ z).2.1 rfl
 exact I.step (ch:=ch) hch (fun b o hL hb hc e n=>u.keep b o e n (fun z=>(List.mem_cons.mp (I.yT b z)).elim hL hb) hc) (fun b o _ _ hc e n=>u.any e n hc) (fun b o hc e n=>u.free b o e n hc) (fun b o hc e=>u.there b o e hc) u.tups u.qQ u.rC (fun m' hm=>by
  obtain ⟨o',es',ep',ho',r'⟩:=hm
  rw [ho] at ho';cases ho'
  exact ⟨_,es',ep',hL,r'⟩) hok hg
theorem Inv.turned {t':Nat} {it:Addr} (I:Inv X pins σ H s) (k:∀ b o,b≠it→s.heap.get? b=some o→h'.get? b=some o) (hn:H it=none) (hL:it≠X.env.locals)
  (h1:it∈X.ex∨X.s₀.heap.objs.size≤it) (h2:∀ x c,X.env.cells.lookup x=some c→c≠it) (h3:∀ p∈X.pn++pins,p.1≠it):Inv X pins σ H { s with heap:=h',toks:=t' }:=by
 have nit:∀ b u,H b=some u→b≠it:=fun b u e z=>by rw [z,hn] at e;cases e
 refine I.step (g':=s.gens) (d':=s.drawn) (ch:=[it]) (fun b hb=>?_) (fun b o _ _ hc e _=>k b o (fun z=>hc (by simp [z])) e) (fun b o _ _ hc e _=>⟨o.slots,k b o (fun z=>hc (by simp [z])) e⟩) (fun _ _ _ _ n=>n)
  (fun b o hc e=>⟨o,k b o (fun z=>hc (by simp [z])) e⟩) (fun _ _ e=>e) (fun _ _ _ e=>e) (fun b ps e=>⟨#[],by rw [e];simp⟩) (fun m hm=>?_) (fun b u e=>?_) I.bare
 ·have e:b=it:=by simpa using hb
  subst e
  exact ⟨h1,hL,h2,h3⟩
 ·obtain ⟨o,es,ep,ho,r⟩:=hm
  exact ⟨o,es,ep,k _ o (Ne.symm hL) ho,r⟩
 ·refine (I.hok b u e).stay (fun c v hc q=>k c v ?_ q) (fun _ q=>q) fun _ _ q=>q
  rcases hc with z | z
  ·rw [z];exact nit b u e
  ·exact nit c _ z
theorem Inv.tok (I:Inv X pins σ H s) (t:Nat):Inv X pins σ H { s with toks:=t }:=I.un (h':=s.heap) (t':=t) Un.refl I.hok
theorem Inv.kept {t':Nat} (I:Inv X pins σ H s) (k:∀ b u,s.heap.get? b=some u→h'.get? b=some u):Inv X pins σ H { s with heap:=h',toks:=t' }:=I.un (Un.kept k) (I.hok.kept k)
theorem Inv.laid {a:Addr} {o:HO} {t':Nat} (I:Inv X pins σ H s) (k:∀ b u,s.heap.get? b=some u→h'.get? b=some u) (hp:s.heap.objs.size≤a) (new:cX X.prog X.w (upd H a o) h' a o) :
  Inv X pins σ (upd H a o) { s with heap:=h',toks:=t' }:=I.un (Un.laid k hp (I.hok.fresh hp)) (I.hok.laid k hp new)
theorem Inv.write {x e:Addr} {o:HO} {t':Nat} (I:Inv X pins σ H s) (mu:W8 (H x)) (he:e=x∨H e=some (.own x)) (k:∀ b u,b≠e→s.heap.get? b=some u→h'.get? b=some u) (Tr:∃ u,h'.get? e=some u)
  (new:cX X.prog X.w (upd H x o) h' x o):Inv X pins σ (upd H x o) { s with heap:=h',toks:=t' }:=I.un (Un.write mu he k Tr) (I.hok.write mu he k Tr new)
theorem Inv.weak {σ':List (Option V)} (I:Inv X pins σ H s) (hl:σ'.length=σ.length) (w:∀ (i:Nat) v,σ'[i]?=some (some v)→σ[i]?=some (some v)):Inv X pins σ' H s :=
 ⟨I.ok,I.os,I.bare,I.base,let ⟨m,hn,hl'⟩:=I.loc;⟨m,hn,fun i x v e1 e2 e3=>hl' i x v e1 (w i v e2) e3⟩,I.cell,I.free,I.jh,I.pin,I.hok,hl.trans I.len⟩
theorem Inv.uV {lM:List (Addr×Obj)} (I:Inv X pins σ H s) (h:∀ p∈lM,s.heap.get? p.1=some p.2∧H p.1=none∧p.1≠X.env.locals∧p.1 ∉ X.fs∧∀ v,p.2.data≠.cell v):Inv X lM σ H s :=
 ⟨I.ok,I.os,I.bare,I.base,I.loc,I.cell,I.free,I.jh,fun p hp=>(List.mem_append.mp hp).elim (fun z=>I.pin p (List.mem_append_left _ z)) (h p),I.hok,I.len⟩
theorem Bc {N:List Str} (hN:N.Nodup) {i j:Nat} {x:Str} (a:N[i]?=some x) (b:N[j]?=some x):i=j:=by
 obtain ⟨h1,e1⟩:=List.getElem?_eq_some_iff.mp a
 obtain ⟨h2,e2⟩:=List.getElem?_eq_some_iff.mp b
 exact (List.getElem_inj hN).mp (e1.trans e2.symm)
theorem yd {M:Model} {A:Around} {E:Value→Shared→Prop} {i:Nat} {x:Str} {v:V} {u:Value} {Q:Unit→Shared→Prop} (I:Inv X pins σ H s) (hN:X.N.Nodup) (hi:X.N[i]?=some x) (hx:Loc X.env.scope x) (r:RelV v u)
  (h:∀ s',Inv X pins (σ.set i (some v)) H s'→(∃ a,Heap.SameBut a s.heap s'.heap∧(a=X.env.locals∨X.env.cells.lookup x=some a))→Q () s') (hf:X.fn x=true∨X.env.scope.names.lookup x=some .local:=by first | exact .inl rfl | exact .inr rfl | assumption):wpAny M A (storeName X.env x u) Q E s:=by
 obtain ⟨m,hn,hl⟩:=id I.loc
 have hcls:(X.env.scope.kind == .class || (X.env.scope.kind == .module && X.env.locals != X.env.globals))=false:=by rw [I.ok.kind];rfl
 have hiσ:i < σ.length:=by rw [I.len];exact (List.getElem?_eq_some_iff.mp hi).1
 have Py:=I.Py
 have tracked:∀ {a:Addr} {h':Heap},(∃ o,s.heap.get? a=some o∧H a=none)→Heap.SameBut a s.heap h'→nh X.prog X.w H h':=fun {a h'} ha hs b ob e=>by
  obtain ⟨_,_,hfree⟩:=ha
  refine (I.hok b ob e).stay (fun c w' hc q=>(hs.2 c ?_).trans q) (fun _ q=>q) fun _ _ q=>q
  rintro rfl
  rcases hc with rfl | hc
  ·rw [hfree] at e;cases e
  ·rw [hfree] at hc;cases hc
 rcases hx with hk | hk
 ·refine wpAny_storeName_local hk hn (fun h' hn' hs=>?_) hcls
  obtain ⟨oL,_,_,hoL,_⟩:=id hn
  refine h _ ⟨I.ok,I.os,I.bare,⟨fun b o e n hb hx=>?_,fun b o e n hb hx=>?_,I.base.free,fun b o e hx=>?_,I.base.tups,I.base.qQ,I.base.rC⟩,⟨_,hn',fun j y v' e1 e2 e3=>?_⟩,fun y c e=>?_,I.free,I.jh,fun p hp=>?_,tracked ⟨oL,hoL,I.free⟩ hs,by simpa using I.len⟩ ⟨_,hs,.inl rfl⟩
  ·exact (hs.2 b (Nat.ne_of_lt (Nat.lt_of_lt_of_le (Heap.lt_size e) I.ok.above))).trans (I.base.keep b o e n hb hx)
  ·obtain ⟨sl,e1⟩:=I.base.slot b o e n hb hx
   exact ⟨sl,(hs.2 b (Nat.ne_of_lt (Nat.lt_of_lt_of_le (Heap.lt_size e) I.ok.above))).trans e1⟩
  ·obtain ⟨o',e1⟩:=I.base.there b o e hx
   exact ⟨o',(hs.2 b (Nat.ne_of_lt (Nat.lt_of_lt_of_le (Heap.lt_size e) I.ok.above))).trans e1⟩
  ·by_cases hj:j=i
   ·subst hj
    rw [hi] at e1;cases e1
    rw [List.getElem?_set_self hiσ] at e2
    cases e2
    exact ⟨u,r,.inl ⟨hk,by simp⟩⟩
   ·rw [List.getElem?_set_ne (Ne.symm hj)] at e2
    obtain ⟨u',r',q⟩:=hl j y v' e1 e2 e3
    refine ⟨u',r',?_⟩
    rcases q with ⟨k,e⟩ | ⟨k,c,e,z⟩
    ·refine .inl ⟨k,?_⟩
     have:y≠x:=fun e=>hj (Bc hN e1 (e ▸ hi))
     simp [this,e]
    ·exact .inr ⟨k,c,e,z.sameBut hs (Py y c e)⟩
  ·obtain ⟨w',z⟩:=I.cell y c e
   exact ⟨w',z.sameBut hs (Py y c e)⟩
  ·obtain ⟨e,n,ne,nf,d⟩:=I.pin p hp
   exact ⟨(hs.2 p.1 ne).trans e,n,ne,nf,d⟩
 ·have hfn:X.fn x=true:=by
   rcases hf with z | z
   ·exact z
   ·rw [z] at hk;cases hk
  obtain ⟨c,hc⟩:=I.ok.has x (.inl hk)
  obtain ⟨w',z⟩:=I.cell x c hc
  refine wpAny_storeName_cell I.ok.kind hk hc z (fun h' hc' hs=>?_)
  obtain ⟨oc,hoc,a6Q⟩:=id z
  refine h { s with heap:=h' } ⟨I.ok,I.os,I.bare,⟨fun b o e n hb hx=>?_,fun b o e n hb hx=>?_,I.base.free,fun b o e hx=>?_,I.base.tups,I.base.qQ,I.base.rC⟩,⟨m,hn.sameBut hs (Ne.symm (Py x c hc)),fun j y v' e1 e2 e3=>?_⟩,fun y c' e=>?_,I.free,I.jh,fun p hp=>?_,tracked ⟨oc,hoc,I.jh x c hc⟩ hs,by simpa using I.len⟩ ⟨c,hs,.inr hc⟩
  ·exact (hs.2 b (Nat.ne_of_lt (Nat.lt_of_lt_of_le (Heap.lt_size e) (I.ok.PB x c hfn hc)))).trans (I.base.keep b o e n hb hx)
  ·obtain ⟨sl,e1⟩:=I.base.slot b o e n hb hx
   exact ⟨sl,(hs.2 b (Nat.ne_of_lt (Nat.lt_of_lt_of_le (Heap.lt_size e) (I.ok.PB x c hfn hc)))).trans e1⟩
  ·obtain ⟨o',e1⟩:=I.base.there b o e hx
   exact ⟨o',(hs.2 b (Nat.ne_of_lt (Nat.lt_of_lt_of_le (Heap.lt_size e) (I.ok.PB x c hfn hc)))).trans e1⟩
  ·by_cases hj:j=i
   ·subst hj
    rw [hi] at e1;cases e1
    rw [List.getElem?_set_self hiσ] at e2
    cases e2
    exact ⟨u,r,.inr ⟨.inl hk,c,hc,hc'⟩⟩
   ·rw [List.getElem?_set_ne (Ne.symm hj)] at e2
    obtain ⟨u',r',q⟩:=hl j y v' e1 e2 e3
    refine ⟨u',r',?_⟩
    rcases q with q | ⟨k,c',e,z'⟩
    ·exact .inl q
    ·refine .inr ⟨k,c',e,z'.sameBut hs ?_⟩
     rintro rfl
     exact hj (Bc hN e1 (I.ok.inj _ _ _ e hc ▸ hi))
  ·by_cases hcc:c'=c
   ·subst hcc;exact ⟨_,hc'⟩
   ·obtain ⟨w2,z2⟩:=I.cell y c' e
    exact ⟨w2,z2.sameBut hs hcc⟩
  ·obtain ⟨e,n,ne,nf,d⟩:=I.pin p hp
   refine ⟨(hs.2 p.1 ?_).trans e,n,ne,nf,d⟩
   intro q
   rw [q,hoc] at e
   have q':oc=p.2:=Option.some.inj e
   exact d w' (by rw [← q'];exact a6Q)
theorem qf {M:Model} {A:Around} {E:Value→Shared→Prop} {i:Nat} {x:Str} {v:V} {u:Value} {Q:Unit→Shared→Prop} (I:Inv X pins σ H s) (hN:X.N.Nodup) (hi:X.N[i]?=some x) (hx:Loc X.env.scope x) (r:RelV v u)
  (h:∀ s',Inv X pins (σ.set i (some v)) H s'→Q () s') (hf:X.fn x=true∨X.env.scope.names.lookup x=some .local:=by first | exact .inl rfl | exact .inr rfl | assumption):wpAny M A (storeName X.env x u) Q E s :=
 yd I hN hi hx r (fun s' I' _=>h s' I') hf
theorem Inv.Pz {s':Shared} {ch:List Addr} (I:Inv X pins σ H s) (ho:s'.os=s.os) (u:Un (frs X.stack) ch H H' s.heap s'.heap) (hok:nh X.prog X.w H' s'.heap) (hg:AllBare s'.gens)
  (hch:∀ b∈ch,(b∈X.ex∨X.s₀.heap.objs.size≤b)∧b≠X.env.locals∧(∀ x c,X.env.cells.lookup x=some c→c≠b)∧∀ p∈X.pn++pins,p.1≠b):Inv X pins σ H' s':=by
 obtain ⟨h',g',d',t',o'⟩:=s'
 have e:o'=s.os:=ho
 subst e
 exact I.call (g':=g') (t':=t') (d':=d') u hok hg hch
end
abbrev XK:=Value→Option Addr→Hp→Prop
abbrev St:=List (Option V)
abbrev VK:=V→Hp→Prop
abbrev TE:=St→Hp→VK→Prop
abbrev TT:=St→Hp→(Bool→Hp→Prop)→Prop
abbrev TA:=St→Hp→(List V→Hp→Prop)→Prop
structure Ends where
 nx:St→Hp→Prop
 rt:VK
 bk:St→Hp→Prop:=fun _ _=>False
 ct:St→Hp→Prop:=fun _ _=>False
abbrev TS:=Ends→St→Hp→Prop
def EP (X:Cx) (pins:List (Addr×Obj)) (σ:St) (Q:VK) (u:Value) (s':Shared):Prop:=∃ v H',Inv X pins σ H' s'∧RelV v u∧Q v H'
def TP (X:Cx) (pins:List (Addr×Obj)) (σ:St) (Q:Bool→Hp→Prop) (b:Bool) (s':Shared):Prop:=∃ H',Inv X pins σ H' s'∧Q b H'
def AP (X:Cx) (pins:List (Addr×Obj)) (σ:St) (Q:List V→Hp→Prop) (us:List Value) (s':Shared):Prop:=∃ vs H',Inv X pins σ H' s'∧Vals vs us∧Q vs H'
def SP (X:Cx) (pins:List (Addr×Obj)) (D:Ends) (f:Flow) (s':Shared):Prop :=
 match f with
 | .next=>∃ σ' H',Inv X pins σ' H' s'∧D.nx σ' H'
 | .brk=>∃ σ' H',Inv X pins σ' H' s'∧D.bk σ' H'
 | .cont=>∃ σ' H',Inv X pins σ' H' s'∧D.ct σ' H'
 | .ret u=>∃ v σ' H',Inv X pins σ' H' s'∧RelV v u∧D.rt v H'
def PE (X:Cx) (e:Expr) (t:TE):Prop :=
 ∀ (pins:List (Addr×Obj)) (s:Shared) (σ:St) (H:Hp) (Q:VK),Inv X pins σ H s→t σ H Q→wpAny (model X.prog X.w) X.A (eval e X.env) (EP X pins σ Q) X.xe s
def PT (X:Cx) (e:Expr) (t:TT):Prop :=
 ∀ (pins:List (Addr×Obj)) (s:Shared) (σ:St) (H:Hp) (Q:Bool→Hp→Prop),Inv X pins σ H s→t σ H Q→wpAny (model X.prog X.w) X.A (isTrue e X.env (eval e X.env)) (TP X pins σ Q) X.xe s
def PW (X:Cx) (e:Expr) (t:TT):Prop :=
 ∀ (whole:Sem Value) (pins:List (Addr×Obj)) (s:Shared) (σ:St) (H:Hp) (Q:Bool→Hp→Prop),Inv X pins σ H s→t σ H Q→wpAny (model X.prog X.w) X.A (isTrue e X.env whole) (TP X pins σ Q) X.xe s
theorem PW.pt {X:Cx} {e:Expr} {t:TT} (h:PW X e t):PT X e t:=h _
def PA (X:Cx) (es:List Expr) (t:TA):Prop :=
 ∀ (pos:Pos) (pins:List (Addr×Obj)) (s:Shared) (σ:St) (H:Hp) (Q:List V→Hp→Prop),Inv X pins σ H s→t σ H Q→wpAny (model X.prog X.w) X.A (spliced (backTo pos (starEach es X.env))) (AP X pins σ Q) X.xe s
def PS (X:Cx) (st:Stmt) (t:TS):Prop :=
 ∀ (pins:List (Addr×Obj)) (s:Shared) (σ:St) (H:Hp) (D:Ends),Inv X pins σ H s→t D σ H→wpAny (model X.prog X.w) X.A (exec st X.env) (SP X pins D) X.xe s
def Al (X:Cx) (st:List Stmt) (t:TS):Prop :=
 ∀ (pins:List (Addr×Obj)) (s:Shared) (σ:St) (H:Hp) (D:Ends),Inv X pins σ H s→t D σ H→wpAny (model X.prog X.w) X.A (execs st X.env) (SP X pins D) X.xe s
theorem cS {α:Type} {t:Sem α} {Q Q':α→Shared→Prop} {M:Model} {A:Around} {E:Value→Shared→Prop} {s:Shared} (h:wpAny M A t Q E s) (hQ:∀ a s,Q a s→Q' a s):wpAny M A t Q' E s:=wpAny_mono h hQ fun _ _ x=>x
end L2
namespace L2
open PySem PySem.Spec PyProof.Rows
section
variable {X:Cx}
def P9 (i:Nat):TE:=fun σ H Q=>∃ v,σ[i]?=some (some v)∧Q v H
def tC (v:V):TE:=fun _ H Q=>Q v H
theorem Qz {i:Nat} {x:Str} {pos:Pos} (hN:X.N[i]?=some x) (hv:ZD X.env.scope x) (hd:(x == ("__debug__":Str))=false:=by decide) (hcd:(x == ("__classdict__":Str))=false:=by decide):PE X (.Name x pos) (P9 i):=by
 intro pins s σ H Q I h
 obtain ⟨v,e,h⟩:=h
 obtain ⟨m,hn,hl⟩:=I.loc
 obtain ⟨u,r,l⟩:=hl i x v hN e hv
 have fin:EP X pins σ Q u s:=⟨v,H,I,r,h⟩
 rcases l with ⟨hk,hm⟩ | ⟨hk,c,hc,hcell⟩
 ·exact wpAny_Name (wpAny_loadName_local I.ok.kind hk hn hm fin) hd
 ·rcases hk with hk | hk
  ·exact wpAny_Name (wpAny_loadName_cell I.ok.kind hk hc hcell fin) hd
  ·exact wpAny_Name (wpAny_loadName_free I.ok.kind hk hc hcell fin hcd) hd
theorem aj {i j pos}:PE X (.Constant (.int i) j pos) (tC (.int i)):=fun _ _ _ H _ I h=>wpAny_Constant_int ⟨.int i,H,I.tok _,⟨_,rfl⟩,h⟩
theorem AW {b j pos}:PE X (.Constant (.bool b) j pos) (tC (.bl b)):=fun _ _ _ H _ I h=>Constant_bool ⟨.bl b,H,I,rfl,h⟩
theorem jJ {j pos}:PE X (.Constant .none j pos) (tC .fL):=fun _ _ _ H _ I h=>Constant_none ⟨.fL,H,I,rfl,h⟩
theorem aP {x j pos}:PE X (.Constant (.str x) j pos) (tC (.str x)):=fun _ _ _ H _ I h=>Calls.Constant_str ⟨.str x,H,I.tok _,⟨_,rfl⟩,h⟩
def Gl (X:Cx) (x:Str):Prop:=X.env.kindOf x=some .globalImplicit
theorem jD {E:Value→Shared→Prop} {pins:List (Addr×Obj)} {s:Shared} {σ:St} {H:Hp} {x:Str} {u:Value} {pos:Pos} {Q:Value→Shared→Prop} (I:Inv X pins σ H s) (hg:Gl X x) (hm:X.mg x=some u) (h:Q u s)
  (hd:(x == ("__debug__":Str))=false:=by decide):wpAny (model X.prog X.w) X.A (eval (.Name x pos) X.env) Q E s :=
 Calls.Name_function_global I.ok.kind hg (Calls.loadGlobal_global (by rw [I.ok.glob];exact I.mod.glob.keeps I.bk) hm h) hd
theorem wH {E:Value→Shared→Prop} {pins:List (Addr×Obj)} {s:Shared} {σ:St} {H:Hp} {x:Str} {u:Value} {pos:Pos} {Q:Value→Shared→Prop} (I:Inv X pins σ H s) (hg:Gl X x) (hm:X.mg x=none) (hv:bootBuiltins x=some u) (h:Q u s)
  (hn:x≠"__name__":=by decide) (hd:(x == ("__debug__":Str))=false:=by decide):wpAny (model X.prog X.w) X.A (eval (.Name x pos) X.env) Q E s:=by
 obtain ⟨mb,h1,h2⟩:=I.mod.blt
 exact Calls.Name_function_global I.ok.kind hg (Calls.loadGlobal_builtin (by rw [I.ok.glob];exact I.mod.glob.keeps I.bk) hm (by rw [I.ok.blt];exact h1.keeps I.bk) ((h2 x hn).trans hv) h) hd
theorem jy {x:Str} {v:V} {u:Value} {pos:Pos} (hg:Gl X x) (hm:X.mg x=some u) (r:RelV v u) (hd:(x == ("__debug__":Str))=false:=by decide):PE X (.Name x pos) (tC v) :=
 fun _ _ _ H _ I h=>jD I hg hm ⟨v,H,I,r,h⟩ hd
theorem MP {x:Str} {v:V} {u:Value} {pos:Pos} (hg:Gl X x) (hm:X.mg x=none) (hv:bootBuiltins x=some u) (r:RelV v u) (hn:x≠"__name__":=by decide) (hd:(x == ("__debug__":Str))=false:=by decide):PE X (.Name x pos) (tC v) :=
 fun _ _ _ H _ I h=>wH I hg hm hv ⟨v,H,I,r,h⟩ hn hd
variable {a b:Expr} {ta tb:TE} {pos:Pos}
def PC (X:Cx) (op:CmpOp) (a b:Expr) (t:TE):Prop :=
 ∀ (pins:List (Addr×Obj)) (s:Shared) (σ:St) (H:Hp) (Q:VK),Inv X pins σ H s→t σ H Q →
  wpAny (model X.prog X.w) X.A (eval a X.env) (fun v s₁=>wpAny (model X.prog X.w) X.A (eval b X.env) (fun u s₂=>wpAny (model X.prog X.w) X.A (compareOp op v u) (EP X pins σ Q) X.xe s₂) X.xe s₁) X.xe s
theorem J3 (b:Expr) {op:CmpOp} (h:op≠.In) (h2:op≠.NotIn):behindInMarks op b=false:=by
 have e1:(op == CmpOp.In)=false:=by cases op <;> first | rfl | exact absurd rfl h
 have e2:(op == CmpOp.NotIn)=false:=by cases op <;> first | rfl | exact absurd rfl h2
 cases b <;> simp [behindInMarks,e1,e2]
def tB (t:TE):TT:=fun σ H Q=>t σ H fun x H1=>∃ c,x=.bl c∧Q c H1
theorem Qu {op:CmpOp} {t:TE} (h:PC X op a b t) (h1:behindInMarks op b=false:=by first | exact J3 _ (by decide) (by decide) | rfl):PT X (.Compare a [op] [b] pos) (tB t):=by
 intro pins s σ H Q I hw
 refine wpAny_isTrue_Compare1 (cS (h pins s σ H _ I hw) fun v s1 h1=>cS h1 fun u s2 h2=>cS h2 fun c s3 ⟨x,H1,I1,r1,q1⟩=>?_) h1
 obtain ⟨d,rfl,q⟩:=q1
 cases r1
 exact wpAny_truthy_bool ⟨H1,I1,q⟩
theorem vZ {e:Expr} {t:TE} (h:PE X e t) (he:∀ whole,isTrue e X.env whole=(do let v ← whole;standAt e.pos;holding [v] (truthy v)):=by intro _;rfl):PT X e (tB t):=by
 intro pins s σ H Q I hw
 refine isTrue_plain (cS (h pins s σ H _ I hw) fun v s1 ⟨x,H1,I1,r1,q1⟩=>?_) (he _)
 obtain ⟨d,rfl,q⟩:=q1
 cases r1
 exact wpAny_truthy_bool ⟨H1,I1,q⟩
variable {tA Xj:TT} {rest:List Expr}
def ZU (t u:TT):TT:=fun σ H Q=>t σ H fun c H1=>if c=true then u σ H1 Q else Q false H1
def tOr (t u:TT):TT:=fun σ H Q=>t σ H fun c H1=>if c=true then Q true H1 else u σ H1 Q
def ZN (t:TT):TT:=fun σ H Q=>t σ H fun c H1=>Q (!c) H1
theorem qw (ha:PT X a tA):PW X (.BoolOp .And [a] pos) tA:=by
 intro wh pins s σ H Q I h
 refine isTrue_and (cS (ha pins s σ H Q I h) fun c s1 e=>?_)
 cases c with
 | true=>exact isTrue_and_nil e
 | false=>exact e
theorem rS (ha:PT X a tA):PW X (.BoolOp .Or [a] pos) tA:=by
 intro wh pins s σ H Q I h
 refine isTrue_or (cS (ha pins s σ H Q I h) fun c s1 e=>?_)
 cases c with
 | false=>exact isTrue_or_nil e
 | true=>exact e
theorem vX (ha:PT X a tA) (hb:PW X (.BoolOp .And (b::rest) pos) Xj):PW X (.BoolOp .And (a::b::rest) pos) (ZU tA Xj):=by
 intro wh pins s σ H Q I h
 refine isTrue_and (cS (ha pins s σ H _ I h) fun c s1 ⟨H1,I1,q1⟩=>?_)
 cases c with
 | true=>exact hb wh pins s1 σ H1 Q I1 q1
 | false=>exact ⟨H1,I1,q1⟩
theorem vW (ha:PT X a tA) (hb:PW X (.BoolOp .Or (b::rest) pos) Xj):PW X (.BoolOp .Or (a::b::rest) pos) (tOr tA Xj):=by
 intro wh pins s σ H Q I h
 refine isTrue_or (cS (ha pins s σ H _ I h) fun c s1 ⟨H1,I1,q1⟩=>?_)
 cases c with
 | true=>exact ⟨H1,I1,q1⟩
 | false=>exact hb wh pins s1 σ H1 Q I1 q1
theorem Jf (ha:PT X a tA):PT X (.UnaryOp .Not a pos) (ZN tA):=by
 intro pins s σ H Q I h
 exact isTrue_not (ha pins s σ H (fun c H1=>Q (!c) H1) I h)
def Uu (ta tb:TE):TE:=fun σ H Q=>ta σ H fun x H1=>∃ c,x=.bl c∧if c=true then tb σ H1 Q else Q (.bl false) H1
theorem CV {op} {t:TE} (h:PE X a t):PE X (.BoolOp op [a] pos) t:=fun pins s σ H Q I hw=>BoolOp_one (h pins s σ H Q I hw)
theorem CW (ha:PE X a ta) (hb:PE X (.BoolOp .And (b::rest) pos) tb):PE X (.BoolOp .And (a::b::rest) pos) (Uu ta tb):=by
 intro pins s σ H Q I h
 refine BoolOp_and (cS (ha pins s σ H _ I h) fun v s1 ⟨x,H1,I1,r1,q1⟩=>?_)
 obtain ⟨c,rfl,q1⟩:=q1
 cases r1
 refine wpAny_truthy_bool ?_
 cases c with
 | true=>exact hb pins s1 σ H1 Q I1 q1
 | false=>exact ⟨.bl false,H1,I1,rfl,q1⟩
end
end L2
namespace L2
open PySem PySem.Spec PyProof.Rows
def bC (K:PySem.W.Frag) (H:Hp) (a:Addr) (xs:List V):Prop :=
 Rd H a (.lst xs) ∨
  ∃ (o:Obj) (its:Array Value) (n:Nat),K.lookup a=some o∧o.cls=.type "list"∧o.dict=none∧o.data=.seq its n∧its.size≤sizeLine∧Vals xs its.toList
def aX (K:PySem.W.Frag) (H:Hp) (a:Addr) (xs:List V):Prop :=
 Rd H a (.tup xs) ∨
  ∃ (o:Obj) (its:Array Value) (n:Nat),K.lookup a=some o∧o.cls=.type "tuple"∧o.data=.seq its n∧its.size≤sizeLine∧Vals xs its.toList
def b0V:Value→Option V
 | .none=>some .fL
 | .bool b=>some (.bl b)
 | .int i _=>some (.int i)
 | .str x _=>some (.str x)
 | .bytes b _=>some (.Hj b)
 | .float b _=>some (.YD b)
 | .ref a=>some (.ref a)
 | .type n=>some (.ty n)
 | _=>none
theorem RelV.abs {x:V} {u:Value} (r:RelV x u):b0V u=some x:=by
 cases x with
 | fL=>cases r;rfl
 | bl _=>cases r;rfl
 | int _=>obtain ⟨t,rfl⟩:=r;rfl
 | str _=>obtain ⟨t,rfl⟩:=r;rfl
 | Hj _=>obtain ⟨t,rfl⟩:=r;rfl
 | YD _=>obtain ⟨t,rfl⟩:=r;rfl
 | ref _=>cases r;rfl
 | ty _=>cases r;rfl
theorem RelV.inj {x y:V} {u:Value} (r:RelV x u) (q:RelV y u):x=y:=Option.some.inj (r.abs.symm.trans q.abs)
theorem Vals.inj:∀ {xs ys:List V} {us:List Value},Vals xs us→Vals ys us→xs=ys
 | _,_,_,.nil,.nil=>rfl
 | _,_,_,.cons r t,.cons r' t'=>by rw [r.inj r',Vals.inj t t']
section
variable {X:Cx} {pins:List (Addr×Obj)} {σ:St} {H:Hp} {s:Shared} {a:Addr} {xs ys:List V}
theorem bC.of {K:PySem.W.Frag} (h:H a=some (.lst xs)):bC K H a xs:=.inl (.inl h)
theorem aX.of {K:PySem.W.Frag} (h:H a=some (.tup xs)):aX K H a xs:=.inl (.inl h)
theorem Inv.list (I:Inv X pins σ H s) (h:bC X.K H a xs):∃ its:List Value,Vals xs its∧PlainL s.heap a its.toArray∧xs.length≤sizeLine:=by
 rcases h with h | ⟨o,its,n,hk,hc,hd,hs,hz,r⟩
 ·obtain ⟨z,its,n,r,e⟩:=h.ok I.hok
  exact ⟨its,r,⟨_,n,e,rfl,rfl,rfl⟩,z⟩
 ·refine ⟨its.toList,r,⟨o,n,I.p8 a o hk,hc,hd,by simpa using hs⟩,?_⟩
  have e:=r.length
  simp only [Array.length_toList] at e
  omega
theorem Inv.tuple (I:Inv X pins σ H s) (h:aX X.K H a xs):∃ its:List Value,Vals xs its∧IsTup s.heap a its.toArray∧xs.length≤sizeLine:=by
 rcases h with h | ⟨o,its,n,hk,hc,hs,hz,r⟩
 ·obtain ⟨z,its,r,p⟩:=h.ok I.hok
  exact ⟨its,r,p,z⟩
 ·refine ⟨its.toList,r,⟨o,I.p8 a o hk,hc,n,by simpa using hs⟩,?_⟩
  have e:=r.length
  simp only [Array.length_toList] at e
  omega
theorem Inv.Kl (I:Inv X pins σ H s) (h:bC X.K H a xs) (h':bC X.K H a ys):xs=ys:=by
 obtain ⟨its,r,⟨o,n,e,_,_,d⟩,_⟩:=I.list h
 obtain ⟨its',r',⟨o',n',e',_,_,d'⟩,_⟩:=I.list h'
 rw [e] at e';cases e'
 rw [d] at d'
 injection d' with d1 _
 have:its=its':=by simpa using congrArg Array.toList d1
 subst this
 exact r.inj r'
theorem Inv.Fy (I:Inv X pins σ H s) (h:aX X.K H a xs) (h':aX X.K H a ys):xs=ys:=by
 obtain ⟨its,r,⟨o,e,_,n,d⟩,_⟩:=I.tuple h
 obtain ⟨its',r',⟨o',e',_,n',d'⟩,_⟩:=I.tuple h'
 rw [e] at e';cases e'
 rw [d] at d'
 injection d' with d1 _
 have:its=its':=by simpa using congrArg Array.toList d1
 subst this
 exact r.inj r'
end
abbrev Cx.xQ (X:Cx) (E:Value→Shared→Prop):Cx:={ X with xe:=E }
abbrev Cx.Xp (X:Cx):Cx:=X.xQ fun _ _=>False
theorem Cx.Ok.xQ {X:Cx} (ok:X.Ok) (E:Value→Shared→Prop):(X.xQ E).Ok :=
 ⟨ok.mod,ok.kind,ok.glob,ok.blt,ok.above,ok.inj,ok.has,ok.PB,ok.hd,ok.frames,ok.stk,ok.RU,ok.bs,ok.GI,ok.Ba,ok.BE,ok.pU,ok.Mg⟩
theorem Cx.Ok.lY {X:Cx} {E:Value→Shared→Prop} (ok:(X.xQ E).Ok):X.Ok :=
 ⟨ok.mod,ok.kind,ok.glob,ok.blt,ok.above,ok.inj,ok.has,ok.PB,ok.hd,ok.frames,ok.stk,ok.RU,ok.bs,ok.GI,ok.Ba,ok.BE,ok.pU,ok.Mg⟩
section
variable {X:Cx} {pins:List (Addr×Obj)} {σ:St} {H:Hp} {s:Shared} {E:Value→Shared→Prop}
theorem Inv.xQ (I:Inv X pins σ H s) (E:Value→Shared→Prop):Inv (X.xQ E) pins σ H s:=⟨I.ok.xQ E,I.os,I.bare,I.base,I.loc,I.cell,I.free,I.jh,I.pin,I.hok,I.len⟩
theorem Inv.lY (I:Inv (X.xQ E) pins σ H s):Inv X pins σ H s:=⟨I.ok.lY,I.os,I.bare,I.base,I.loc,I.cell,I.free,I.jh,I.pin,I.hok,I.len⟩
theorem SP.lY {D:Ends} {f:Flow} {s':Shared} (h:SP (X.xQ E) pins D f s'):SP X pins D f s':=by
 cases f with
 | next=>obtain ⟨σ',H',I,q⟩:=h;exact ⟨σ',H',I.lY,q⟩
 | brk=>obtain ⟨σ',H',I,q⟩:=h;exact ⟨σ',H',I.lY,q⟩
 | cont=>obtain ⟨σ',H',I,q⟩:=h;exact ⟨σ',H',I.lY,q⟩
 | ret u=>obtain ⟨v,σ',H',I,r,q⟩:=h;exact ⟨v,σ',H',I.lY,r,q⟩
theorem Al.Xp {st:List Stmt} {t:TS} (h:Al X.Xp st t):Al X st t:=fun pins s σ H D I hw =>
 wpAny_mono (h pins s σ H D (I.xQ _) hw) (fun _ _ q=>q.lY) fun _ _ z=>False.elim z
end
section
variable {X:Cx} {st:Stmt} {rest:List Stmt} {t u:TS} {e:Expr} {te:TE} {pos:Pos}
def Ug:TS:=fun D σ H=>D.nx σ H
def ZL (t u:TS):TS:=fun D σ H=>t { D with nx:=u D } σ H
theorem bE:Al X [] Ug:=fun _ _ σ H _ I h=>wpAny_execs_nil ⟨σ,H,I,h⟩
theorem ao (h1:PS X st t) (h2:Al X rest u):Al X (st::rest) (ZL t u):=by
 intro pins s σ H D I h
 refine wpAny_execs_cons (cS (h1 pins s σ H { D with nx:=u D } I h) fun f s1 q=>?_)
 cases f with
 | next =>
  obtain ⟨σ',H',I',q⟩:=q
  exact h2 pins s1 σ' H' D I' q
 | ret v=>exact q
 | brk=>exact q
 | cont=>exact q
theorem au (h1:PS X st t):Al X [st] t:=by
 intro pins s σ H D I h
 refine wpAny_execs_cons (cS (h1 pins s σ H D I h) fun f s1 q=>?_)
 cases f with
 | next=>exact wpAny_execs_nil q
 | ret v=>exact q
 | brk=>exact q
 | cont=>exact q
theorem Inv.quiet {pins:List (Addr×Obj)} {σ:St} {H:Hp} {s:Shared} (I:Inv X pins σ H s):interactive X.env=false:=by simp [interactive,I.ok.kind]
def Uo (te:TE):TS:=fun D σ H=>te σ H fun _ H1=>D.nx σ H1
theorem cV (he:PE X e te) (hs:swapsWith e none pos.line X.env=pure false:=by rfl):PS X (.Expr e pos) (Uo te):=by
 intro pins s σ H D I h
 exact wpAny_Expr_any (cS (he pins s σ H _ I h) fun v s1 ⟨x,H1,I1,r1,q1⟩=>⟨σ,H1,I1,q1⟩) I.quiet hs
def ZM (te:TE):TS:=fun D σ H=>te σ H D.rt
theorem aJ (he:PE X e te):PS X (.Return (some e) pos) (ZM te):=by
 intro pins s σ H D I h
 exact wpAny_Return_some (cS (he pins s σ H _ I h) fun v s1 ⟨x,H1,I1,r1,q1⟩=>⟨x,σ,H1,I1,r1,q1⟩)
def ZO (c:TT) (t u:TS):TS:=fun D σ H=>c σ H fun b H1=>if b=true then t D σ H1 else u D σ H1
theorem bR {c:Expr} {a b:List Stmt} {tc:TT} (hc:PT X c tc) (ha:Al X a t) (hb:Al X b u):PS X (.If c a b pos) (ZO tc t u):=by
 intro pins s σ H D I h
 refine wpAny_If (cS (hc pins s σ H _ I h) fun d s1 ⟨H1,I1,q1⟩=>?_)
 cases d with
 | true=>exact ha pins s1 σ H1 D I1 q1
 | false=>exact hb pins s1 σ H1 D I1 q1
end
abbrev TG:=V→St→Hp→(St→Hp→Prop)→Prop
abbrev PK:=List V→St→Hp→(St→Hp→Prop)→Prop
def PG (X:Cx) (target:Expr) (t:TG):Prop :=
 ∀ (pins:List (Addr×Obj)) (s:Shared) (σ:St) (H:Hp) (v:V) (u:Value) (Q:St→Hp→Prop),Inv X pins σ H s→RelV v u→t v σ H Q →
  wpAny (model X.prog X.w) X.A (assign target X.env u) (fun _ s'=>∃ σ' H',Inv X pins σ' H' s'∧Q σ' H') X.xe s
def W6 (X:Cx) (ts:List Expr) (t:PK):Prop :=
 ∀ (pins:List (Addr×Obj)) (s:Shared) (σ:St) (H:Hp) (vs:List V) (us:List Value) (Q:St→Hp→Prop),Inv X pins σ H s→Vals vs us→t vs σ H Q →
  wpAny (model X.prog X.w) X.A (assignInOrder ((assignEach ts X.env).map (·.2)) us) (fun _ s'=>∃ σ' H',Inv X pins σ' H' s'∧Q σ' H') X.xe s
abbrev LS:=V→V→V→Hp→(Hp→Prop)→Prop
def SH (X:Cx) (t:LS):Prop :=
 ∀ (pins:List (Addr×Obj)) (s:Shared) (σ:St) (H:Hp) (o i v:V) (ov iv u:Value) (Q:Hp→Prop),Inv X pins σ H s→RelV o ov→RelV i iv→RelV v u→t o i v H Q →
  wpAny (model X.prog X.w) X.A (setItem ov iv u) (fun _ s'=>∃ H',Inv X pins σ H' s'∧Q H') X.xe s
abbrev TY:=V→V→Hp→VK→Prop
def PIp (X:Cx) (op:Operator) (t:TY):Prop :=
 ∀ (pins:List (Addr×Obj)) (s:Shared) (σ:St) (H:Hp) (x y:V) (v u:Value) (Q:VK),Inv X pins σ H s→RelV x v→RelV y u→t x y H Q →
  wpAny (model X.prog X.w) X.A (inplaceOp op v u) (EP X pins σ Q) X.xe s
section
variable {X:Cx} {pos:Pos}
def K4 (i:Nat):TG:=fun v σ H Q=>Q (σ.set i (some v)) H
theorem aQ {i:Nat} {x:Str} (hN:X.N.Nodup) (hi:X.N[i]?=some x) (hx:Loc X.env.scope x) (hf:X.fn x=true∨X.env.scope.names.lookup x=some .local:=by first | exact .inl rfl | exact .inr rfl | assumption):PG X (.Name x pos) (K4 i):=by
 intro pins s σ H v u Q I r h
 exact wpAny_assign_Name (qf I hN hi hx r (fun s' I'=>⟨_,H,I',h⟩) hf)
def a65:PK:=fun vs σ H Q=>vs=[]∧Q σ H
def Vo (t:TG) (u:PK):PK:=fun vs σ H Q=>∃ v r,vs=v::r∧t v σ H fun σ' H'=>u r σ' H' Q
theorem iM:W6 X [] a65:=by
 intro pins s σ H vs us Q I r h
 obtain ⟨e,h⟩:=h
 subst e
 cases r
 exact assignInOrder_nil ⟨σ,H,I,h⟩
theorem cH {e:Expr} {es:List Expr} {t:TG} {u:PK} (h1:PG X e t) (h2:W6 X es u)
  (hs:(assignEach (e::es) X.env).map (·.2)=assign e X.env::(assignEach es X.env).map (·.2):=by rfl):W6 X (e::es) (Vo t u):=by
 intro pins s σ H vs us Q I r h
 obtain ⟨v,vr,e1,h⟩:=h
 subst e1
 cases r with
 | cons r rr =>
  rw [hs]
  refine assignInOrder_cons (cS (h1 pins s σ H _ _ _ I r h) fun _ s1 ⟨σ1,H1,I1,q1⟩=>?_)
  exact h2 pins s1 σ1 H1 _ _ Q I1 rr q1
def Vn (K:PySem.W.Frag) (n:Nat) (t:PK):TG:=fun v σ H Q=>∃ a xs,v=.ref a∧aX K H a xs∧xs.length=n∧t xs σ H Q
theorem rV {es:List Expr} {k:Nat} {t:PK} {n:Nat} (hc:X.calm=true) (h:W6 X es t)
  (hn:(assignEach es X.env).length=n:=by rfl) (hst:(assignEach es X.env).findIdx? (·.1)=none:=by rfl):PG X (.Tuple es k pos) (Vn X.K n t):=by
 intro pins s σ H v u Q I r hw
 obtain ⟨a,xs,e1,hq,hl,hw⟩:=hw
 subst e1
 cases r
 obtain ⟨its,rv,ht,hz⟩:=I.tuple hq
 refine assign_Tuple_tuple (I.ok.hd hc) ht (by simp [hn,← hl,rv.length]) hst fun h' hx=>?_
 have I1:Inv X pins σ H { s with heap:=h' }:=I.kept (t':=s.toks) fun b o e=>hx b o (Nat.ne_of_lt (Heap.lt_size e)) e
 exact h pins _ σ H xs _ Q I1 (by simpa using rv) hw
def a63 (to ti:TE) (t:LS):TG:=fun v σ H Q=>to σ H fun o H1=>ti σ H1 fun i H2=>t o i v H2 fun H3=>Q σ H3
theorem Qy {o i:Expr} {to ti:TE} {t:LS} (ho:PE X o to) (hi:PE X i ti) (hs:SH X t)
  (ha:∀ v,assign (.Subscript o i pos) X.env v=(do
   let ov ← holding [v] (eval o X.env)
   let iv ← holding [v,ov] (eval i X.env)
   standAt pos
   holding [v,ov,iv] (setItem ov iv v)
   release [v,ov,iv] []):=by intro _;rfl):PG X (.Subscript o i pos) (a63 to ti t):=by
 intro pins s σ H v u Q I r h
 rw [ha]
 refine wpAny_bind (wpAny_holding (cS (ho pins s σ H _ I h) fun ov s1 ⟨x,H1,I1,r1,q1⟩=>?_))
 refine wpAny_bind (wpAny_holding (cS (hi pins s1 σ H1 _ I1 q1) fun iv s2 ⟨y,H2,I2,r2,q2⟩=>?_))
 refine wpAny_bind (wpAny_standAt (wpAny_bind (wpAny_holding (cS (hs pins s2 σ H2 x y v ov iv u _ I2 r1 r2 r q2) fun _ s3 ⟨H3,I3,q3⟩=>?_))))
 exact wpAny_release ⟨σ,H3,I3,q3⟩
def Qh (te:TE) (g:TG):TS:=fun D σ H=>te σ H fun x H1=>g x σ H1 D.nx
theorem Jj {tg e:Expr} {te:TE} {g:TG} (he:PE X e te) (hg:PG X tg g) (hs:swapsWithSole [tg] e pos.line X.env=pure false:=by rfl) (hw:swappedStores [tg] e X.env=pure none:=by rfl)
  (h1:(assignEach [tg] X.env).map (·.2)=[assign tg X.env]:=by rfl):PS X (.Assign [tg] e pos) (Qh te g):=by
 intro pins s σ H D I h
 refine wpAny_Assign_stores (cS (he pins s σ H _ I h) fun v s1 ⟨x,H1,I1,r1,q1⟩=>?_) hs hw
 rw [h1]
 exact cS (hg pins s1 σ H1 x v _ I1 r1 q1) fun _ s2 q=>q
theorem aT {i:Nat} {x:Str} {e:Expr} {te:TE} {pos':Pos} (hN:X.N.Nodup) (hi:X.N[i]?=some x) (hx:Loc X.env.scope x) (he:PE X e te) (hs:swapsWith e (some (.Name x pos')) pos.line X.env=pure false:=by rfl) (hf:X.fn x=true∨X.env.scope.names.lookup x=some .local:=by first | exact .inl rfl | exact .inr rfl | assumption) :
  PS X (.Assign [.Name x pos'] e pos) (Qh te (K4 i)):=by
 intro pins s σ H D I h
 refine wpAny_Assign_Name (cS (he pins s σ H _ I h) fun v s1 ⟨y,H1,I1,r1,q1⟩=>?_) hs
 exact qf I1 hN hi hx r1 (fun s2 I2=>⟨_,H1,I2,q1⟩) hf
def ZT (i:Nat) (te:TE) (ti:TY):TS:=fun D σ H=>∃ x,σ[i]?=some (some x)∧te σ H fun y H1=>ti x y H1 fun z H2=>D.nx (σ.set i (some z)) H2
theorem CS {i:Nat} {x:Str} {e:Expr} {te:TE} {op:Operator} {ti:TY} {pos':Pos} (hN:X.N.Nodup) (hi:X.N[i]?=some x) (hx:Loc X.env.scope x) (he:PE X e te) (ho:PIp X op ti) (hf:X.fn x=true∨X.env.scope.names.lookup x=some .local:=by first | exact .inl rfl | exact .inr rfl | assumption) :
  PS X (.AugAssign (.Name x pos') op e pos) (ZT i te ti):=by
 intro pins s σ H D I h
 obtain ⟨v,e1,h⟩:=h
 obtain ⟨m,hn,hl⟩:=I.loc
 have vis:ZD X.env.scope x:=by rcases hx with k | k;exact .inl k;exact .inr (.inl k)
 obtain ⟨u,r,l⟩:=hl i x v hi e1 vis
 refine wpAny_AugAssign_Name ?_
 have go:wpAny (model X.prog X.w) X.A (eval e X.env) (fun w s₂=>wpAny (model X.prog X.w) X.A (inplaceOp op u w) (fun r s₃=>wpAny (model X.prog X.w) X.A (storeName X.env x r) (fun _=>SP X pins D .next) X.xe s₃) X.xe s₂) X.xe s:=by
  refine cS (he pins s σ H _ I h) fun w s1 ⟨y,H1,I1,r1,q1⟩=>?_
  refine cS (ho pins s1 σ H1 v y u w _ I1 r r1 q1) fun z s2 ⟨zv,H2,I2,r2,q2⟩=>?_
  exact qf I2 hN hi hx r2 (fun s3 I3=>⟨_,H2,I3,q2⟩) hf
 rcases l with ⟨hk,hm⟩ | ⟨hk,c,hc,hcell⟩
 ·exact wpAny_loadName_local I.ok.kind hk hn hm go
 ·rcases hk with hk | hk
  ·exact wpAny_loadName_cell I.ok.kind hk hc hcell go
  ·rcases hx with k | k
   ·have:X.env.scope.names.lookup x=some .free:=hk
    rw [k] at this;cases this
   ·have:X.env.scope.names.lookup x=some .free:=hk
    rw [k] at this;cases this
def Ut (to ti te:TE) (Mv:V→V→Hp→VK→Prop) (Xi:TY) (Ms:LS):TS:=fun D σ H=>to σ H fun o H1=>ti σ H1 fun i H2=>Mv o i H2 fun x H3=>te σ H3 fun y H4=>Xi x y H4 fun z H5=>Ms o i z H5 fun H6=>D.nx σ H6
def W7 (X:Cx) (t:V→V→Hp→VK→Prop):Prop :=
 ∀ (pins:List (Addr×Obj)) (s:Shared) (σ:St) (H:Hp) (o i:V) (ov iv:Value) (Q:VK),Inv X pins σ H s→RelV o ov→RelV i iv→t o i H Q →
  wpAny (model X.prog X.w) X.A (getItem ov iv) (EP X pins σ Q) X.xe s
theorem MI {o i e:Expr} {to ti te:TE} {Mv:V→V→Hp→VK→Prop} {Xi:TY} {Ms:LS} {op:Operator} {tpos:Pos} (ho:PE X o to) (hi:PE X i ti) (hg:W7 X Mv) (he:PE X e te) (hp:PIp X op Xi) (hs:SH X Ms)
  (ha:∀ ov iv new,augStore i ov iv new=(do holding [new,ov,iv] (setItem ov iv new);release [new,ov,iv] [];pure .next):=by intros;rfl):PS X (.AugAssign (.Subscript o i tpos) op e pos) (Ut to ti te Mv Xi Ms):=by
 intro pins s σ H D I h
 refine wpAny_AugAssign_SubscriptAny (cS (ho pins s σ H _ I h) fun ov s1 ⟨x1,H1,I1,r1,q1⟩=>?_) ha
 refine cS (hi pins s1 σ H1 _ I1 q1) fun iv s2 ⟨x2,H2,I2,r2,q2⟩=>?_
 refine cS (hg pins s2 σ H2 x1 x2 ov iv _ I2 r1 r2 q2) fun old s3 ⟨x3,H3,I3,r3,q3⟩=>?_
 refine cS (he pins s3 σ H3 _ I3 q3) fun v s4 ⟨x4,H4,I4,r4,q4⟩=>?_
 refine cS (hp pins s4 σ H4 x3 x4 old v _ I4 r3 r4 q4) fun new s5 ⟨x5,H5,I5,r5,q5⟩=>?_
 exact cS (hs pins s5 σ H5 x1 x2 x5 ov iv new _ I5 r1 r2 r5 q5) fun _ s6 ⟨H6,I6,q6⟩=>⟨σ,H6,I6,q6⟩
def ipI (f:Int→Int→Int):TY:=fun x y H Q=>∃ i j,x=.int i∧y=.int j∧Q (.int (f i j)) H
theorem zP:PIp X .Add (ipI fun i j=>i+j):=by
 intro pins s σ H x y v u Q I r1 r2 h
 obtain ⟨i,j,e1,e2,q⟩:=h
 subst e1;subst e2
 obtain ⟨t,rfl⟩:=r1
 obtain ⟨t',rfl⟩:=r2
 exact iadd_int ⟨.int _,H,I.tok _,⟨_,rfl⟩,q⟩
end
section
variable {X:Cx} {pos:Pos}
def IE (c:TT) (tb:TS):TS:=fun D σ H=>∃ W:Nat→St→Hp→Prop,(∃ m,W m σ H)∧∀ m σ H,W m σ H →
 c σ H fun b H1=>if b=true then ∃ N:St→Hp→Prop,(∀ σ' H',N σ' H'→∃ m',m' < m∧W m' σ' H')∧tb { D with nx:=N,ct:=N,bk:=D.nx } σ H1 else D.nx σ H1
theorem Jh {c:Expr} {body:List Stmt} {tc:TT} {tb:TS} (hp:PassesOwn (model X.prog X.w) X.A X.env X.xe) (hc:PT X c tc) (hb:Al X body tb):PS X (.While c body [] pos) (IE tc tb):=by
 intro pins s σ H D I h
 obtain ⟨W,⟨m0,w0⟩,turn⟩:=h
 refine wpAny_While (codeAny_whileLoop (fun n s'=>∃ σ' H',Inv X pins σ' H' s'∧W n σ' H') ?_ m0 ⟨σ,H,I,w0⟩)
 rintro n s1 ⟨σ1,H1,I1,w1⟩
 refine wpAny_passesOwn hp (cS (hc pins s1 σ1 H1 _ I1 (turn n σ1 H1 w1)) fun b s2 ⟨H2,I2,q2⟩=>?_)
 cases b with
 | true =>
  obtain ⟨N,hN,q2⟩:=q2
  rw [if_pos rfl]
  refine wpAny_passesOwn hp (cS (hb pins s2 σ1 H2 _ I2 q2) fun f s3 q3=>?_)
  cases f with
  | next =>
   obtain ⟨σ3,H3,I3,n3⟩:=q3
   obtain ⟨m',hm,w3⟩:=hN σ3 H3 n3
   exact ⟨m',hm,σ3,H3,I3,w3⟩
  | cont =>
   obtain ⟨σ3,H3,I3,n3⟩:=q3
   obtain ⟨m',hm,w3⟩:=hN σ3 H3 n3
   exact ⟨m',hm,σ3,H3,I3,w3⟩
  | brk=>exact q3
  | ret v=>exact q3
 | false =>
  rw [if_neg Bool.false_ne_true]
  exact wpAny_execs_nil ⟨σ1,H2,I2,q2⟩
end
structure It where
 go:Nat→Hp→Prop
 PV:Nat→Hp→V→Hp→Prop
 stop:Nat→Hp→Prop
def uP (X:Cx) (pins:List (Addr×Obj)) (H:Hp) (b:Addr):Prop :=
 H b=none∧b≠X.env.locals∧b ∉ X.fs∧(b∈X.ex∨X.s₀.heap.objs.size≤b)∧(∀ x c,X.env.cells.lookup x=some c→c≠b)∧∀ p∈X.pn++pins,p.1≠b
theorem Inv.K6 {X:Cx} {pins:List (Addr×Obj)} {σ:St} {H H':Hp} {s:Shared} {b:Addr} (I:Inv X pins σ H s) (hb:s.heap.objs.size≤b) (hn:H' b=none):uP X pins H' b:=by
 refine ⟨hn,Nat.ne_of_gt (Nat.lt_of_lt_of_le I.lt hb),I.US hb,.inr (Nat.le_trans I.sz hb),fun x c e z=>?_,fun p hp z=>?_⟩
 ·obtain ⟨v,q⟩:=I.cell x c e
  exact absurd (Nat.lt_of_lt_of_le q.lt (by rw [z];exact hb)) (Nat.lt_irrefl _)
 ·exact absurd (Nat.lt_of_lt_of_le (Heap.lt_size (I.pin p hp).1) (by rw [z];exact hb)) (Nat.lt_irrefl _)
structure Turn (P:Program) (w:World) (K:PySem.W.Frag) (tg:Expr) (J:It) (fp:List Addr) (it:Addr) (tn:Nat→Heap→Prop):Prop where
 mem:it∈fp
 obj:∀ i h,tn i h→∀ b∈fp,∃ o,h.get? b=some o∧∀ v,o.data≠.cell v
 keep:∀ i h h',tn i h→(∀ b∈fp,∀ o,h.get? b=some o→h'.get? b=some o)→tn i h'
 item:∀ (X:Cx),X.prog=P→X.w=w→X.K=K→X.calm=true→∀ (i:Nat) (pins:List (Addr×Obj)) (s:Shared) (σ:St) (H:Hp) (E:Value→Shared→Prop),Inv X pins σ H s→(∀ b∈fp,uP X pins H b)→tn i s.heap→J.go i H →
  wpAny (model P w) X.A (pyNext (.ref it)) (fun r s1=>∃ u,r=some u ∧
   wpAny (model P w) X.A (letOwnedTupleGo tg (.ref it) u) (fun _ s2=>∃ x H',Inv X pins σ H' s2∧RelV x u∧J.PV i H x H'∧tn (i+1) s2.heap∧∀ b∈fp,H' b=none) E s1) E s
 done:∀ (X:Cx),X.prog=P→X.w=w→X.K=K→X.calm=true→∀ (i:Nat) (pins:List (Addr×Obj)) (s:Shared) (σ:St) (H:Hp) (E:Value→Shared→Prop),Inv X pins σ H s→(∀ b∈fp,uP X pins H b)→tn i s.heap→J.stop i H →
  wpAny (model P w) X.A (pyNext (.ref it)) (fun r s1=>r=none∧Inv X pins σ H s1) E s
 self:∀ (A:Around) (i:Nat) (s:Shared) (Q:Value→Shared→Prop) (E:Value→Shared→Prop),tn i s.heap→Q (.ref it) s→wpAny (model P w) A (pyIter (.ref it)) Q E s
abbrev TI:=St→Hp→(It→Hp→Prop)→Prop
def PIE (X:Cx) (pins:List (Addr×Obj)) (σ:St) (tg:Expr) (R:It→Hp→Prop) (itv:Value) (s2:Shared):Prop :=
 ∃ (it:Addr) (fp:List Addr) (tn:Nat→Heap→Prop) (J:It) (H':Hp),itv=.ref it∧Inv X pins σ H' s2∧Turn X.prog X.w X.K tg J fp it tn∧tn 0 s2.heap∧(∀ b∈fp,uP X pins H' b)∧R J H'
def PI (X:Cx) (tg iter:Expr) (wi:TI):Prop :=
 ∀ (pins:List (Addr×Obj)) (s:Shared) (σ:St) (H:Hp) (R:It→Hp→Prop),Inv X pins σ H s→wi σ H R →
  wpAny (model X.prog X.w) X.A (eval iter X.env) (fun v s1=>wpAny (model X.prog X.w) X.A (pyIter v) (PIE X pins σ tg R) X.xe s1) X.xe s
theorem K1 {M:Model} {A:Around} {E:Value→Shared→Prop} {s:Shared} {tg:Expr} {it:Addr} {u:Value} {o:Obj} {n:String} {vs:Array Value} {Q:Unit→Shared→Prop} (ho:s.heap.get? it=some o) (hc:o.cls=.type n) (hd:o.data=.fields vs)
  (hn:["enumerate","zip","dict_itemiterator","dict_reverseitemiterator","odict_iterator","itertools.zip_longest","itertools.pairwise"].contains n=false) (hQ:Q () s):wpAny M A (letOwnedTupleGo tg (.ref it) u) Q E s:=by
 unfold letOwnedTupleGo
 cases tg <;> first
  | exact wpAny_pure hQ
  | (cases u <;> first
    | exact wpAny_pure hQ
    | (
      refine wpAny_bind (wpAny_load ho ?_)
      rw [hc,hd]
      show wpAny M A (if (["enumerate","zip","dict_itemiterator","dict_reverseitemiterator","odict_iterator","itertools.zip_longest","itertools.pairwise"].contains n && vs[0]? == some (rawInt _))=true then _ else _) Q E s
      rw [if_neg (by intro h;rw [hn,Bool.false_and] at h;cases h)]
      exact wpAny_pure hQ))
def Ou (K:PySem.W.Frag) (a:Addr):It :=
 ⟨fun i H=>∃ xs x,bC K H a xs∧xs[i]?=some x,fun i H x H'=>H'=H∧∀ xs,bC K H a xs→xs[i]?=some x,fun i H=>∃ xs,bC K H a xs∧xs.length≤i⟩
def LV (K:PySem.W.Frag) (a:Addr):It :=
 ⟨fun i H=>∃ xs x,aX K H a xs∧xs[i]?=some x,fun i H x H'=>H'=H∧∀ xs,aX K H a xs→xs[i]?=some x,fun i H=>∃ xs,aX K H a xs∧xs.length≤i⟩
def SM (lo:Int) (n:Nat):It:=⟨fun i _=>i < n,fun i H x H'=>H'=H∧x=.int (lo+i),fun i _=>n≤i⟩
theorem yb {P:Program} {w:World} {K:PySem.W.Frag} {tg:Expr} (a it:Addr):Turn P w K tg (Ou K a) [it] it (fun i h=>h.IsListIter it a i) where
 mem:=by simp
 obj:=fun i h st b hb=>by
  have e:b=it:=by simpa using hb
  subst e
  obtain ⟨o,e,c,d⟩:=st
  exact ⟨o,e,fun v z=>by rw [d] at z;cases z⟩
 keep:=fun i h h' st k=>st.at fun o e=>k it (by simp) o e
 item:=by
  intro X hP hw hK hc i pins s σ H E I hf st hg
  subst hP hw hK
  obtain ⟨xs,x,hq,hx⟩:=hg
  obtain ⟨its,rv,p,hz⟩:=I.list hq
  obtain ⟨u,hu,ru⟩:=rv.get hx
  obtain ⟨f0,f1,f2,f3,f4,f5⟩:=hf it (by simp)
  refine wpAny_pyNext_list_item st p.isList (x:=u) (by simpa using hu) fun h' st' sb=>?_
  have I1:Inv X pins σ H { s with heap:=h' }:=I.turned (t':=s.toks) (fun b o hb e=>(sb.2 b hb).trans e) f0 f1 f3 f4 f5
  obtain ⟨o,e,c,d⟩:=id st'
  exact ⟨u,rfl,K1 (s:={ s with heap:=h' }) e c d (by decide) ⟨x,H,I1,ru,⟨rfl,fun ys hy=>by rw [I.Kl hy hq];exact hx⟩,st',fun b hb=>(hf b hb).1⟩⟩
 done:=by
  intro X hP hw hK hc i pins s σ H E I hf st hg
  subst hP hw hK
  obtain ⟨xs,hq,hx⟩:=hg
  obtain ⟨its,rv,p,hz⟩:=I.list hq
  obtain ⟨f0,f1,f2,f3,f4,f5⟩:=hf it (by simp)
  have hl:=rv.length
  exact wpAny_pyNext_list_end (I.ok.hd hc) st p.isList (by simp;omega) fun h' eb=>⟨rfl,I.turned (t':=s.toks) (fun b o hb e=>eb b o hb e) f0 f1 f3 f4 f5⟩
 self:=fun _ _ _ _ _ st h=>wpAny_pyIter_listiter st h
theorem vq {P:Program} {w:World} {K:PySem.W.Frag} {tg:Expr} (a it:Addr):Turn P w K tg (LV K a) [it] it (fun i h=>h.IsTupleIter it a i) where
 mem:=by simp
 obj:=fun i h st b hb=>by
  have e:b=it:=by simpa using hb
  subst e
  obtain ⟨o,e,c,d⟩:=st
  exact ⟨o,e,fun v z=>by rw [d] at z;cases z⟩
 keep:=fun i h h' st k=>st.at fun o e=>k it (by simp) o e
 item:=by
  intro X hP hw hK hc i pins s σ H E I hf st hg
  subst hP hw hK
  obtain ⟨xs,x,hq,hx⟩:=hg
  obtain ⟨its,rv,p,hz⟩:=I.tuple hq
  obtain ⟨u,hu,ru⟩:=rv.get hx
  obtain ⟨f0,f1,f2,f3,f4,f5⟩:=hf it (by simp)
  refine wpAny_pyNext_tuple_item st (show s.heap.IsTuple a its.toArray from p) (x:=u) (by simpa using hu) fun h' st' sb=>?_
  have I1:Inv X pins σ H { s with heap:=h' }:=I.turned (t':=s.toks) (fun b o hb e=>(sb.2 b hb).trans e) f0 f1 f3 f4 f5
  obtain ⟨o,e,c,d⟩:=id st'
  exact ⟨u,rfl,K1 (s:={ s with heap:=h' }) e c d (by decide) ⟨x,H,I1,ru,⟨rfl,fun ys hy=>by rw [I.Fy hy hq];exact hx⟩,st',fun b hb=>(hf b hb).1⟩⟩
 done:=by
  intro X hP hw hK hc i pins s σ H E I hf st hg
  subst hP hw hK
  obtain ⟨xs,hq,hx⟩:=hg
  obtain ⟨its,rv,p,hz⟩:=I.tuple hq
  obtain ⟨f0,f1,f2,f3,f4,f5⟩:=hf it (by simp)
  have hl:=rv.length
  exact wpAny_pyNext_tuple_end (I.ok.hd hc) st (show s.heap.IsTuple a its.toArray from p) (by simp;omega) fun h' eb=>⟨rfl,I.turned (t':=s.toks) (fun b o hb e=>eb b o hb e) f0 f1 f3 f4 f5⟩
 self:=fun _ _ _ _ _ st h=>wpAny_pyIter_tupleiter st h
theorem CD {P:Program} {w:World} {K:PySem.W.Frag} {tg:Expr} (it:Addr) (lo:Int) (n:Nat):Turn P w K tg (SM lo n) [it] it (fun i h=>IsRangeIter h it (lo+(i:Nat)*1) ((n:Int) - (i:Nat)) 1) where
 mem:=by simp
 obj:=fun i h st b hb=>by
  have e:b=it:=by simpa using hb
  subst e
  exact ⟨_,st,fun v z=>by
   have z':Data.fields _=Data.cell v:=z
   cases z'⟩
 keep:=fun i h h' st k=>k it (by simp) _ st
 item:=by
  intro X hP hw hK hc i pins s σ H E I hf st hg
  subst hP hw hK
  obtain ⟨f0,f1,f2,f3,f4,f5⟩:=hf it (by simp)
  have W:=Walks.range (prog:=X.prog) (w:=X.w) (I.ok.hd hc) it lo 1 n
  refine W.item i s _ _ hg st fun v h' tk hv st' kk=>?_
  obtain ⟨t,rfl⟩:=hv
  have I1:Inv X pins σ H { s with heap:=h',toks:=tk }:=I.turned (fun b o hb e=>kk b o (by simpa using hb) e) f0 f1 f3 f4 f5
  refine ⟨_,rfl,K1 (s:={ s with heap:=h',toks:=tk }) (n:="range_iterator") st' rfl rfl (by decide) ⟨.int (lo+i),H,I1,⟨t,?_⟩,⟨rfl,rfl⟩,st',fun b hb=>(hf b hb).1⟩⟩
  rw [Int.mul_one]
 done:=by
  intro X hP hw hK hc i pins s σ H E I hf st hg
  subst hP hw hK
  obtain ⟨f0,f1,f2,f3,f4,f5⟩:=hf it (by simp)
  exact wpAny_pyNext_range_end (I.ok.hd hc) st (by have:n≤i:=hg;omega) fun h' eb=>⟨rfl,I.turned (t':=s.toks) (fun b o hb e=>eb b o hb e) f0 f1 f3 f4 f5⟩
 self:=fun _ _ _ _ _ st h=>wpAny_pyIter_rangeiter st h
end L2
namespace L2
open PySem PySem.Spec PyProof.Rows
section
variable {X:Cx} {tg:Expr}
def Va (K:PySem.W.Frag) (tl:TE):TI:=fun σ H R=>tl σ H fun x H1=>∃ a,x=.ref a∧(∃ xs,bC K H1 a xs)∧R (Ou K a) H1
def U8 (K:PySem.W.Frag) (tl:TE):TI:=fun σ H R=>tl σ H fun x H1=>∃ a,x=.ref a∧(∃ xs,aX K H1 a xs)∧R (LV K a) H1
theorem eK {l:Expr} {tl:TE} (hl:PE X l tl):PI X tg l (Va X.K tl):=by
 intro pins s σ H R I h
 refine cS (hl pins s σ H _ I h) fun v s1 ⟨x,H1,I1,r1,q1⟩=>?_
 obtain ⟨a,e,⟨xs,hq⟩,q⟩:=q1
 subst e
 cases r1
 obtain ⟨its,rv,p,hz⟩:=I1.list hq
 refine wpAny_pyIter_list p.isList ?_
 refine ⟨s1.heap.objs.size,[s1.heap.objs.size],_,_,H1,rfl,I1.kept (t':=s1.toks) fun b o e=>Heap.get?_push_of_some _ e,yb a _,⟨_,Heap.get?_push_size _ rfl,rfl,rfl⟩,fun b hb=>?_,q⟩
 have e:b=s1.heap.objs.size:=by simpa using hb
 subst e
 exact I1.K6 (Nat.le_refl _) (I1.hok.fresh (Nat.le_refl _))
theorem dD {l:Expr} {tl:TE} (hl:PE X l tl):PI X tg l (U8 X.K tl):=by
 intro pins s σ H R I h
 refine cS (hl pins s σ H _ I h) fun v s1 ⟨x,H1,I1,r1,q1⟩=>?_
 obtain ⟨a,e,⟨xs,hq⟩,q⟩:=q1
 subst e
 cases r1
 obtain ⟨its,rv,p,hz⟩:=I1.tuple hq
 refine wpAny_pyIter_tuple (show s1.heap.IsTuple a its.toArray from p) ?_
 refine ⟨s1.heap.objs.size,[s1.heap.objs.size],_,_,H1,rfl,I1.kept (t':=s1.toks) fun b o e=>Heap.get?_push_of_some _ e,vq a _,⟨_,Heap.get?_push_size _ rfl,rfl,rfl⟩,fun b hb=>?_,q⟩
 have e:b=s1.heap.objs.size:=by simpa using hb
 subst e
 exact I1.K6 (Nat.le_refl _) (I1.hok.fresh (Nat.le_refl _))
theorem I8 {pins:List (Addr×Obj)} {σ:St} {H:Hp} {s:Shared} {R:It→Hp→Prop} {E:Value→Shared→Prop} {lo hi:Int} {t u v:Tok} {tk:Nat} (I:Inv X pins σ H s) (h1:-(2 ^ 62)≤lo) (h2:lo < 2 ^ 62) (h3:-(2 ^ 62)≤hi) (h4:hi < 2 ^ 62)
  (q:R (SM lo (hi - lo).toNat) H):wpAny (model X.prog X.w) X.A (pyIter (.ref s.heap.objs.size)) (PIE X pins σ tg R) E { s with heap:=s.heap.push { cls:=.type "range",data:=.fields #[.int lo t,.int hi u,.int 1 v] },toks:=tk }:=by
 refine wpAny_pyIter_range (IsRange.new ..) (small_one h1 h2 h3 h4) ?_
 have I1:Inv X pins σ H { s with heap:=s.heap.push { cls:=.type "range",data:=.fields #[.int lo t,.int hi u,.int 1 v] },toks:=tk }:=I.kept fun b o e=>Heap.get?_push_of_some _ e
 refine ⟨(s.heap.push { cls:=.type "range",data:=.fields #[.int lo t,.int hi u,.int 1 v] }).objs.size,[(s.heap.push { cls:=.type "range",data:=.fields #[.int lo t,.int hi u,.int 1 v] }).objs.size],_,_,H,rfl,
  I1.kept (t':=tk) fun b o e=>Heap.get?_push_of_some _ e,CD _ lo (hi - lo).toNat,?_,fun b hb=>?_,q⟩
 ·have e1:lo+((0:Nat):Int)*1=lo:=by simp
  have e2:(((hi - lo).toNat:Nat):Int) - ((0:Nat):Int)=Builtin.Range.rangeSize lo hi 1:=by rw [rangeSize_one];split <;> omega
  show IsRangeIter _ _ (lo+((0:Nat):Int)*1) ((((hi - lo).toNat:Nat):Int) - ((0:Nat):Int)) 1
  rw [e1,e2]
  exact Heap.get?_push_size _ rfl
 ·have e:b=(s.heap.push { cls:=.type "range",data:=.fields #[.int lo t,.int hi u,.int 1 v] }).objs.size:=by simpa using hb
  subst e
  exact I1.K6 (Nat.le_refl _) (I1.hok.fresh (Nat.le_refl _))
def U9 (ta:TA):TI:=fun σ H R=>ta σ H fun vs H1=>∃ j:Int,vs=[.int j]∧-(2 ^ 62)≤j∧j < 2 ^ 62∧R (SM 0 j.toNat) H1
theorem fz {a:Expr} {ta:TA} {p pos:Pos} (hg:Gl X "range") (hm:X.mg "range"=none) (ha:PA X [a] ta) (hs:starEach [a] X.env=[(false,eval a X.env)]:=by rfl):PI X tg (.Call (.Name "range" p) [a] [] pos) (U9 ta):=by
 intro pins s σ H R I h
 refine Call_ (wH I hg hm boot_range (PyProof.Rows.callWith_type1 (cS (ha pos pins s σ H _ I h) fun us s1 ⟨vs,H1,I1,r1,q1⟩=>?_) hs rfl))
 obtain ⟨j,e,q1,q2,q⟩:=q1
 subst e
 cases r1 with
 | cons r rr =>
  cases rr
  obtain ⟨t,rfl⟩:=r
  exact call_range_1 (I8 I1 (by omega) (by omega) q1 q2 (by simpa using q))
def ZP (wi:TI) (g:TG) (tb:TS):TS:=fun D σ H=>wi σ H fun J H1=>∃ W:Nat→Nat→St→Hp→Prop,(∃ m,W 0 m σ H1)∧∀ i m σ H,W i m σ H →
 (J.stop i H∧D.nx σ H)∨(J.go i H∧∃ N:St→Hp→Prop,(∀ σ' H',N σ' H'→∃ m',m' < m∧W (i+1) m' σ' H')∧∀ x H',J.PV i H x H'→g x σ H' fun σ2 H2=>tb { D with nx:=N,ct:=N,bk:=D.nx } σ2 H2)
def v8 (fp:List Addr) (h:Heap):List (Addr×Obj):=fp.filterMap fun b=>(h.get? b).map fun o=>(b,o)
theorem kN {fp:List Addr} {h:Heap} {b:Addr} {o:Obj} (hb:b∈fp) (e:h.get? b=some o):(b,o)∈v8 fp h:=List.mem_filterMap.mpr ⟨b,hb,by rw [e];rfl⟩
theorem FT {fp:List Addr} {h:Heap} {p:Addr×Obj} (hp:p∈v8 fp h):p.1∈fp∧h.get? p.1=some p.2:=by
 obtain ⟨b,hb,e⟩:=List.mem_filterMap.mp hp
 cases q:h.get? b with
 | none=>rw [q] at e;cases e
 | some o =>
  rw [q] at e
  have e':(b,o)=p:=Option.some.inj e
  subst e'
  exact ⟨hb,q⟩
theorem Inv.pinned {pins:List (Addr×Obj)} {σ:St} {H:Hp} {s:Shared} {fp:List Addr} (I:Inv X pins σ H s) (hf:∀ b∈fp,uP X pins H b) (ho:∀ b∈fp,∃ o,s.heap.get? b=some o∧∀ v,o.data≠.cell v):Inv X (pins++v8 fp s.heap) σ H s :=
 I.uV fun p hp=>(List.mem_append.mp hp).elim (fun z=>I.pin p (List.mem_append_right _ z)) fun z=>by
  obtain ⟨hb,e⟩:=FT z
  obtain ⟨f0,f1,f2,_⟩:=hf p.1 hb
  obtain ⟨o,e',d⟩:=ho p.1 hb
  rw [e] at e';cases e'
  exact ⟨e,f0,f1,f2,d⟩
theorem Inv.qc {pins pl:List (Addr×Obj)} {σ:St} {H:Hp} {s:Shared} (I:Inv X (pins++pl) σ H s):Inv X pins σ H s:=I.uV fun p hp=>I.pin p (List.mem_append_right _ (List.mem_append_left _ hp))
theorem eX {iter:Expr} {body:List Stmt} {wi:TI} {g:TG} {tb:TS} {pos:Pos} (hp:PassesOwn (model X.prog X.w) X.A X.env X.xe) (hc:X.calm=true) (hi:PI X tg iter wi) (hg:PG X tg g) (hb:Al X body tb)
  (hs:∀ x,foldedSetIterable iter X.env x=pure x:=by intro _;rfl):PS X (.For tg iter body [] pos) (ZP wi g tb):=by
 intro pins s σ H D I h
 refine wpAny_For (cS (hi pins s σ H _ I h) fun v s1 h1=>cS h1 fun itv s2 h2=>?_) hs
 obtain ⟨it,fp,tn,J,H2,e,I2,T,st2,f2,W,⟨m0,w0⟩,turn⟩:=h2
 subst e
 have Qi:∀ {H':Hp},(∀ b∈fp,H' b=none)→∀ b∈fp,uP X pins H' b:=fun hn b hb=>⟨hn b hb,(f2 b hb).2⟩
 refine codeAny_forLoop_any (fun n s'=>∃ i σ' H',Inv X pins σ' H' s'∧tn i s'.heap∧(∀ b∈fp,H' b=none)∧W i n σ' H') ?_ m0 ⟨0,σ,H2,I2,st2,fun b hb=>(f2 b hb).1,w0⟩
 rintro n s3 ⟨i,σ3,H3,I3,st3,fr3,w3⟩
 rcases turn i n σ3 H3 w3 with ⟨stop,qn⟩ | ⟨go,N,hN,step⟩
 ·refine wpAny_passesOwn hp (cS (T.done X rfl rfl rfl hc i pins s3 σ3 H3 X.xe I3 (Qi fr3) st3 stop) fun r s4 ⟨hr,I4⟩=>?_)
  subst hr
  exact wpAny_execs_nil ⟨σ3,H3,I4,qn⟩
 ·refine wpAny_passesOwn hp (cS (T.item X rfl rfl rfl hc i pins s3 σ3 H3 X.xe I3 (Qi fr3) st3 go) fun r s4 ⟨u,hr,h4⟩=>?_)
  subst hr
  refine wpAny_passesOwn hp (cS h4 fun _ s5 ⟨x,H5,I5,r5,y5,ZV,Vp⟩=>?_)
  have I5':=I5.pinned (Qi Vp) (T.obj _ _ ZV)
  refine wpAny_passesOwn hp (cS (hg _ s5 σ3 H5 x u _ I5' r5 (step x H5 y5)) fun _ s6 ⟨σ6,H6,I6,q6⟩=>?_)
  refine wpAny_passesOwn hp (cS (hb _ s6 σ6 H6 _ I6 q6) fun f s7 q7=>?_)
  have again:∀ {σ7:St} {H7:Hp},Inv X (pins++v8 fp s5.heap) σ7 H7 s7→N σ7 H7→∃ m,m < n∧∃ i σ' H',Inv X pins σ' H' s7∧tn i s7.heap∧(∀ b∈fp,H' b=none)∧W i m σ' H':=fun {σ7 H7} I7 n7=>by
   obtain ⟨m',hm,w7⟩:=hN σ7 H7 n7
   refine ⟨m',hm,i+1,σ7,H7,I7.qc,T.keep _ _ _ ZV fun b hb o e=>(I7.pin (b,o) (List.mem_append_right _ (List.mem_append_right _ (kN hb e)))).1,fun b hb=>?_,w7⟩
   obtain ⟨o,e,d⟩:=T.obj _ _ ZV b hb
   exact (I7.pin (b,o) (List.mem_append_right _ (List.mem_append_right _ (kN hb e)))).2.1
  cases f with
  | next=>obtain ⟨σ7,H7,I7,n7⟩:=q7;exact again I7 n7
  | cont=>obtain ⟨σ7,H7,I7,n7⟩:=q7;exact again I7 n7
  | brk=>obtain ⟨σ7,H7,I7,q7⟩:=q7;exact ⟨σ7,H7,I7.qc,q7⟩
  | ret v=>obtain ⟨x7,σ7,H7,I7,r7,q7⟩:=q7;exact ⟨x7,σ7,H7,I7.qc,r7,q7⟩
end
theorem jZ {K:PySem.W.Frag} {a:Addr} {xs:List V} {g:TG} {tb:TS} {D:Ends} {σ:St} {H:Hp} (Pv:Nat→St→Hp→Prop) (h0:Pv 0 σ H) (hl:∀ i σ H,i≤xs.length→Pv i σ H→bC K H a xs)
  (hs:∀ i x σ H,xs[i]?=some x→Pv i σ H→g x σ H fun σ2 H2=>tb { D with nx:=Pv (i+1),ct:=Pv (i+1),bk:=D.nx } σ2 H2) (hd:∀ σ H,Pv xs.length σ H→D.nx σ H) :
  ∃ W:Nat→Nat→St→Hp→Prop,(∃ m,W 0 m σ H)∧∀ i m σ H,W i m σ H →
   ((Ou K a).stop i H∧D.nx σ H)∨((Ou K a).go i H∧∃ N:St→Hp→Prop,(∀ σ' H',N σ' H'→∃ m',m' < m∧W (i+1) m' σ' H')∧∀ x H',(Ou K a).PV i H x H'→g x σ H' fun σ2 H2=>tb { D with nx:=N,ct:=N,bk:=D.nx } σ2 H2):=by
 refine ⟨fun i m σ H=>m=xs.length - i∧i≤xs.length∧Pv i σ H,⟨xs.length,by simp,Nat.zero_le _,h0⟩,?_⟩
 rintro i m σ H ⟨rfl,hi,p⟩
 have q:=hl i σ H hi p
 by_cases hlt:i < xs.length
 ·refine .inr ⟨⟨xs,xs[i],q,by simp [hlt]⟩,Pv (i+1),fun σ' H' p'=>⟨xs.length - (i+1),by omega,rfl,hlt,p'⟩,fun x H' y=>?_⟩
  obtain ⟨e,y⟩:=y
  subst e
  exact hs i x σ _ (y xs q) p
 ·have e:i=xs.length:=by omega
  subst e
  exact .inl ⟨⟨xs,q,Nat.le_refl _⟩,hd σ H p⟩
theorem kU {K:PySem.W.Frag} {a:Addr} {xs:List V} {g:TG} {tb:TS} {D:Ends} {σ:St} {H:Hp} (Pv:Nat→St→Hp→Prop) (h0:Pv 0 σ H) (hl:∀ i σ H,i≤xs.length→Pv i σ H→aX K H a xs)
  (hs:∀ i x σ H,xs[i]?=some x→Pv i σ H→g x σ H fun σ2 H2=>tb { D with nx:=Pv (i+1),ct:=Pv (i+1),bk:=D.nx } σ2 H2) (hd:∀ σ H,Pv xs.length σ H→D.nx σ H) :
  ∃ W:Nat→Nat→St→Hp→Prop,(∃ m,W 0 m σ H)∧∀ i m σ H,W i m σ H →
   ((LV K a).stop i H∧D.nx σ H)∨((LV K a).go i H∧∃ N:St→Hp→Prop,(∀ σ' H',N σ' H'→∃ m',m' < m∧W (i+1) m' σ' H')∧∀ x H',(LV K a).PV i H x H'→g x σ H' fun σ2 H2=>tb { D with nx:=N,ct:=N,bk:=D.nx } σ2 H2):=by
 refine ⟨fun i m σ H=>m=xs.length - i∧i≤xs.length∧Pv i σ H,⟨xs.length,by simp,Nat.zero_le _,h0⟩,?_⟩
 rintro i m σ H ⟨rfl,hi,p⟩
 have q:=hl i σ H hi p
 by_cases hlt:i < xs.length
 ·refine .inr ⟨⟨xs,xs[i],q,by simp [hlt]⟩,Pv (i+1),fun σ' H' p'=>⟨xs.length - (i+1),by omega,rfl,hlt,p'⟩,fun x H' y=>?_⟩
  obtain ⟨e,y⟩:=y
  subst e
  exact hs i x σ _ (y xs q) p
 ·have e:i=xs.length:=by omega
  subst e
  exact .inl ⟨⟨xs,q,Nat.le_refl _⟩,hd σ H p⟩
theorem nL {lo:Int} {n:Nat} {g:TG} {tb:TS} {D:Ends} {σ:St} {H:Hp} (Pv:Nat→St→Hp→Prop) (h0:Pv 0 σ H)
  (hs:∀ i σ H,i < n→Pv i σ H→g (.int (lo+i)) σ H fun σ2 H2=>tb { D with nx:=Pv (i+1),ct:=Pv (i+1),bk:=D.nx } σ2 H2) (hd:∀ σ H,Pv n σ H→D.nx σ H) :
  ∃ W:Nat→Nat→St→Hp→Prop,(∃ m,W 0 m σ H)∧∀ i m σ H,W i m σ H →
   ((SM lo n).stop i H∧D.nx σ H)∨((SM lo n).go i H∧∃ N:St→Hp→Prop,(∀ σ' H',N σ' H'→∃ m',m' < m∧W (i+1) m' σ' H')∧∀ x H',(SM lo n).PV i H x H'→g x σ H' fun σ2 H2=>tb { D with nx:=N,ct:=N,bk:=D.nx } σ2 H2):=by
 refine ⟨fun i m σ H=>m=n - i∧i≤n∧Pv i σ H,⟨n,by simp,Nat.zero_le _,h0⟩,?_⟩
 rintro i m σ H ⟨rfl,hi,p⟩
 by_cases hlt:i < n
 ·refine .inr ⟨hlt,Pv (i+1),fun σ' H' p'=>⟨n - (i+1),by omega,rfl,hlt,p'⟩,fun x H' y=>?_⟩
  obtain ⟨e,y⟩:=y
  subst e y
  exact hs i σ _ hlt p
 ·have e:i=n:=by omega
  subst e
  exact .inl ⟨Nat.le_refl _,hd σ H p⟩
theorem vp {c:TT} {tb:TS} {D:Ends} {σ:St} {H:Hp} (Pv:St→Hp→Prop) (μ:St→Hp→Nat) (h0:Pv σ H)
  (hs:∀ σ H,Pv σ H→c σ H fun b H1=>if b=true then tb { D with nx:=fun σ' H'=>Pv σ' H'∧μ σ' H' < μ σ H,ct:=fun σ' H'=>Pv σ' H'∧μ σ' H' < μ σ H,bk:=D.nx } σ H1 else D.nx σ H1)
  (mono:∀ σ H Q Q',(∀ b H1,Q b H1→Q' b H1)→c σ H Q→c σ H Q'):IE c tb D σ H:=by
 refine ⟨fun m σ H=>m=μ σ H∧Pv σ H,⟨_,rfl,h0⟩,?_⟩
 rintro m σ H ⟨rfl,p⟩
 refine mono σ H _ _ (fun b H1 q=>?_) (hs σ H p)
 cases b with
 | true=>exact ⟨_,fun σ' H' ⟨p',l⟩=>⟨_,l,rfl,p'⟩,q⟩
 | false=>exact q
end L2
namespace L2
open PySem PySem.Spec PyProof.Rows
abbrev R2:=V→V→Hp→VK→Prop
def ow (X:Cx) (f:Value→Value→Sem Value) (r:R2):Prop :=
 ∀ (pins:List (Addr×Obj)) (s:Shared) (σ:St) (H:Hp) (x y:V) (v u:Value) (Q:VK),Inv X pins σ H s→RelV x v→RelV y u→r x y H Q →
  wpAny (model X.prog X.w) X.A (f v u) (EP X pins σ Q) X.xe s
def UnR (X:Cx) (f:Value→Sem Value) (r:V→Hp→VK→Prop):Prop :=
 ∀ (pins:List (Addr×Obj)) (s:Shared) (σ:St) (H:Hp) (x:V) (v:Value) (Q:VK),Inv X pins σ H s→RelV x v→r x H Q →
  wpAny (model X.prog X.w) X.A (f v) (EP X pins σ Q) X.xe s
def j9 (X:Cx) (f:Value) (r:List V→Hp→VK→Prop):Prop :=
 ∀ (pins:List (Addr×Obj)) (s:Shared) (σ:St) (H:Hp) (xs:List V) (us:List Value) (Q:VK),Inv X pins σ H s→Vals xs us→r xs H Q →
  wpAny (model X.prog X.w) X.A (call f us) (EP X pins σ Q) X.xe s
def Ue (r:R2) (ta tb:TE):TE:=fun σ H Q=>ta σ H fun x H1=>tb σ H1 fun y H2=>r x y H2 Q
def tUn (r:V→Hp→VK→Prop) (ta:TE):TE:=fun σ H Q=>ta σ H fun x H1=>r x H1 Q
def rI (C:Int→Int→Prop) (g:Int→Int→V):R2:=fun x y H Q=>∃ i j,x=.int i∧y=.int j∧C i j∧Q (g i j) H
def Tf (g:Int→Int→V):R2:=fun x y H Q=>∃ i j,x=.int i∧y=.int j∧Q (g i j) H
def rU (g:Int→V):V→Hp→VK→Prop:=fun x H Q=>∃ i,x=.int i∧Q (g i) H
section
variable {X:Cx} {a b c:Expr} {ta tb tc:TE} {pos:Pos}
theorem Sx (ha:PE X a ta) (hb:PE X b tb) {pins:List (Addr×Obj)} {s:Shared} {σ:St} {H:Hp} {R:V→V→Hp→Prop} (I:Inv X pins σ H s)
  (h:ta σ H fun x H1=>tb σ H1 fun y H2=>R x y H2) {Q:Value→Shared→Prop} {f:Value→Value→Sem Value}
  (hf:∀ v u s2 x y H2,Inv X pins σ H2 s2→RelV x v→RelV y u→R x y H2→wpAny (model X.prog X.w) X.A (f v u) Q X.xe s2) :
  wpAny (model X.prog X.w) X.A (eval a X.env) (fun v s₁=>wpAny (model X.prog X.w) X.A (eval b X.env) (fun u s₂=>wpAny (model X.prog X.w) X.A (f v u) Q X.xe s₂) X.xe s₁) X.xe s:=by
 refine cS (ha pins s σ H _ I h) fun v s1 ⟨x,H1,I1,r1,q1⟩=>?_
 refine cS (hb pins s1 σ H1 _ I1 q1) fun u s2 ⟨y,H2,I2,r2,q2⟩=>?_
 exact hf v u s2 x y H2 I2 r1 r2 q2
theorem aZ {op:Operator} {r:R2} (ho:ow X (binaryOp op) r) (ha:PE X a ta) (hb:PE X b tb):PE X (.BinOp a op b pos) (Ue r ta tb):=by
 intro pins s σ H Q I h
 exact wpAny_BinOp (Sx ha hb I h fun v u s2 x y H2 I2 rx ry q=>ho pins s2 σ H2 x y v u Q I2 rx ry q)
theorem lO {op:UnaryOp} {r:V→Hp→VK→Prop} (ho:UnR X (unaryOp op) r) (ha:PE X a ta):PE X (.UnaryOp op a pos) (tUn r ta):=by
 intro pins s σ H Q I h
 exact UnaryOp_ (cS (ha pins s σ H _ I h) fun v s1 ⟨x,H1,I1,r1,q1⟩=>ho pins s1 σ H1 x v Q I1 r1 q1)
theorem opI {f:Value→Value→Sem Value} {C:Int→Int→Prop} {g:Int→Int→Int}
  (rule:∀ (i j:Int) (t u:Tok) (s:Shared) (Q:Value→Shared→Prop) (E:Value→Shared→Prop),C i j→Q (.int (g i j) s.toks) { s with toks:=s.toks+1 }→wpAny (model X.prog X.w) X.A (f (.int i t) (.int j u)) Q E s) :
  ow X f (rI C fun i j=>.int (g i j)):=by
 intro pins s σ H x y v u Q I rx ry h
 obtain ⟨i,j,rfl,rfl,hc,q⟩:=h
 obtain ⟨t,rfl⟩:=rx
 obtain ⟨t',rfl⟩:=ry
 exact rule i j t t' s _ _ hc ⟨.int (g i j),H,I.tok _,⟨_,rfl⟩,q⟩
theorem UK {f:Value→Value→Sem Value} {g:Int→Int→Int}
  (rule:∀ (i j:Int) (t u:Tok) (s:Shared) (Q:Value→Shared→Prop) (E:Value→Shared→Prop),Q (.int (g i j) s.toks) { s with toks:=s.toks+1 }→wpAny (model X.prog X.w) X.A (f (.int i t) (.int j u)) Q E s) :
  ow X f (Tf fun i j=>.int (g i j)):=by
 intro pins s σ H x y v u Q I rx ry h
 obtain ⟨i,j,rfl,rfl,q⟩:=h
 obtain ⟨t,rfl⟩:=rx
 obtain ⟨t',rfl⟩:=ry
 exact rule i j t t' s _ _ ⟨.int (g i j),H,I.tok _,⟨_,rfl⟩,q⟩
theorem UL {f:Value→Value→Sem Value} {g:Int→Int→Bool}
  (rule:∀ (i j:Int) (t u:Tok) (s:Shared) (Q:Value→Shared→Prop) (E:Value→Shared→Prop),Q (.bool (g i j)) s→wpAny (model X.prog X.w) X.A (f (.int i t) (.int j u)) Q E s) :
  ow X f (Tf fun i j=>.bl (g i j)):=by
 intro pins s σ H x y v u Q I rx ry h
 obtain ⟨i,j,rfl,rfl,q⟩:=h
 obtain ⟨t,rfl⟩:=rx
 obtain ⟨t',rfl⟩:=ry
 exact rule i j t t' s _ _ ⟨.bl (g i j),H,I,rfl,q⟩
def b1O (i j:Int):Prop:=0 < j∧j < 1073741824
def S9 (i j:Int):Prop:=(-(2 ^ 64) < i∧i < 2 ^ 64)∨(-(2 ^ 64) < j∧j < 2 ^ 64)
theorem S9.ok {i j:Int} (h:S9 i j):IntMulOk i j:=by
 rcases h with ⟨h1,h2⟩ | ⟨h1,h2⟩
 ·exact .of_left (intBits_le_64 h1 h2)
 ·exact .of_right (intBits_le_64 h1 h2)
theorem dQ:ow X (binaryOp .Add) (Tf fun i j=>.int (i+j)):=UK fun _ _ _ _ _ _ _ q=>add_int q
theorem zx:ow X (binaryOp .Sub) (Tf fun i j=>.int (i - j)):=UK fun _ _ _ _ _ _ _ q=>sub_int q
theorem fR:ow X (binaryOp .Mult) (rI S9 fun i j=>.int (i*j)):=opI fun _ _ _ _ _ _ _ hc q=>mul_int q hc.ok
theorem zy:ow X (binaryOp .FloorDiv) (rI b1O fun i j=>.int (i / j)):=opI fun i j _ _ _ _ _ hc q=>by
 have h1:(0:Int) < j:=hc.1
 have h2:j < 1073741824:=hc.2
 exact floordiv_int (by omega) (by rw [Int.fdiv_eq_ediv_of_nonneg i (by omega)];exact q) (.inl (PyProof.noPylong_small (by omega)))
theorem kH:ow X (binaryOp .Mod) (rI (fun _ j=>0 < j) fun i j=>.int (i % j)):=opI fun i j _ _ _ _ _ hc q=>by
 have h1:(0:Int) < j:=hc
 exact mod_int' (by omega) (by rw [Int.fmod_eq_emod_of_nonneg i (by omega)];exact q)
theorem unI {f:Value→Sem Value} {g:Int→Int}
  (rule:∀ (i:Int) (t:Tok) (s:Shared) (Q:Value→Shared→Prop) (E:Value→Shared→Prop),Q (.int (g i) s.toks) { s with toks:=s.toks+1 }→wpAny (model X.prog X.w) X.A (f (.int i t)) Q E s) :
  UnR X f (rU fun i=>.int (g i)):=by
 intro pins s σ H x v Q I rx h
 obtain ⟨i,rfl,q⟩:=h
 obtain ⟨t,rfl⟩:=rx
 exact rule i t s _ _ ⟨.int (g i),H,I.tok _,⟨_,rfl⟩,q⟩
theorem iA:UnR X (unaryOp .USub) (rU fun i=>.int (-i)):=unI fun _ _ _ _ _ q=>neg_int q
end
def Uv:V→V→Bool
 | .fL,.fL=>true | .fL,.int _=>true | .int _,.fL=>true | .fL,.bl _=>true | .bl _,.fL=>true | .fL,.str _=>true | .str _,.fL=>true
 | .int _,.int _=>true | .bl _,.bl _=>true | .str _,.str _=>true | .Hj _,.Hj _=>true
 | .int _,.str _=>true | .str _,.int _=>true | .bl _,.str _=>true | .str _,.bl _=>true
 | _,_=>false
def rEq:R2:=fun x y H Q=>Uv x y=true∧Q (.bl (decide (x=y))) H
def rNe:R2:=fun x y H Q=>Uv x y=true∧Q (.bl (!decide (x=y))) H
theorem Fb {i j:Int}:decide (V.int i=V.int j)=(i == j):=by
 rw [Bool.eq_iff_iff]
 simp
theorem LC {i j:Bool}:decide (V.bl i=V.bl j)=(i == j):=by
 rw [Bool.eq_iff_iff]
 simp
theorem E9 {i j:Str}:decide (V.str i=V.str j)=(i == j):=by
 rw [Bool.eq_iff_iff]
 simp
theorem Fc {i j:Array UInt8}:decide (V.Hj i=V.Hj j)=(i.toList == j.toList):=by
 rw [Bool.eq_iff_iff]
 cases i
 cases j
 simp
section
variable {X:Cx} {a b c:Expr} {ta tb tc:TE} {pos:Pos}
theorem bU {pins:List (Addr×Obj)} {σ:St} {H:Hp} {s:Shared} {Q:VK} {k k':Bool} (I:Inv X pins σ H s) (q:Q (.bl k) H) (e:k=k'):EP X pins σ Q (.bool k') s:=by
 subst e
 exact ⟨.bl k,H,I,rfl,q⟩
theorem bW:ow X (compareOp .Eq) rEq:=by
 intro pins s σ H x y v u Q I rx ry h
 obtain ⟨hs,q⟩:=h
 cases x with
 | fL =>
  cases rx
  cases y with
  | fL=>cases ry;exact PySem.EqNone.eq_none_none (bU I q (by simp))
  | bl j=>cases ry;exact PySem.EqNone.eq_none_bool (bU I q (by simp))
  | int j=>obtain ⟨t',rfl⟩:=ry;exact PySem.EqNone.eq_none_int (bU I q (by simp))
  | str j=>obtain ⟨t',rfl⟩:=ry;exact PySem.EqNone.eq_none_str (bU I q (by simp))
  | _=>exact absurd (show false=true from hs) Bool.false_ne_true
 | bl i =>
  cases rx
  cases y with
  | fL=>cases ry;exact PySem.EqNone.eq_bool_none (bU I q (by simp))
  | bl j=>cases ry;exact eq_bool (bU I q LC)
  | str j=>obtain ⟨t',rfl⟩:=ry;exact PySem.EqMixed.eq_bool_str (bU I q (by simp))
  | _=>exact absurd (show false=true from hs) Bool.false_ne_true
 | int i =>
  obtain ⟨t,rfl⟩:=rx
  cases y with
  | fL=>cases ry;exact PySem.EqNone.eq_int_none (bU I q (by simp))
  | int j=>obtain ⟨t',rfl⟩:=ry;exact eq_int (bU I q Fb)
  | str j=>obtain ⟨t',rfl⟩:=ry;exact PySem.EqMixed.eq_int_str (bU I q (by simp))
  | _=>exact absurd (show false=true from hs) Bool.false_ne_true
 | str i =>
  obtain ⟨t,rfl⟩:=rx
  cases y with
  | fL=>cases ry;exact PySem.EqNone.eq_str_none (bU I q (by simp))
  | bl j=>cases ry;exact PySem.EqMixed.eq_str_bool (bU I q (by simp))
  | int j=>obtain ⟨t',rfl⟩:=ry;exact PySem.EqMixed.eq_str_int (bU I q (by simp))
  | str j=>obtain ⟨t',rfl⟩:=ry;exact eq_str (bU I q E9)
  | _=>exact absurd (show false=true from hs) Bool.false_ne_true
 | Hj i =>
  obtain ⟨t,rfl⟩:=rx
  cases y with
  | Hj j=>obtain ⟨t',rfl⟩:=ry;exact PySem.W.eq_bytes (bU I q Fc)
  | _=>exact absurd (show false=true from hs) Bool.false_ne_true
 | _=>cases y <;> exact absurd (show false=true from hs) Bool.false_ne_true
theorem O2:ow X (compareOp .NotEq) rNe:=by
 intro pins s σ H x y v u Q I rx ry h
 obtain ⟨hs,q⟩:=h
 cases x with
 | fL =>
  cases rx
  cases y with
  | fL=>cases ry;exact PySem.EqNone.ne_none_none (bU I q (by simp))
  | bl j=>cases ry;exact PySem.EqNone.ne_none_bool (bU I q (by simp))
  | int j=>obtain ⟨t',rfl⟩:=ry;exact PySem.EqNone.ne_none_int (bU I q (by simp))
  | str j=>obtain ⟨t',rfl⟩:=ry;exact PySem.EqNone.ne_none_str (bU I q (by simp))
  | _=>exact absurd (show false=true from hs) Bool.false_ne_true
 | bl i =>
  cases rx
  cases y with
  | fL=>cases ry;exact PySem.EqNone.ne_bool_none (bU I q (by simp))
  | bl j=>cases ry;exact ne_bool (bU I q (congrArg not LC))
  | str j=>obtain ⟨t',rfl⟩:=ry;exact PySem.EqMixed.ne_bool_str (bU I q (by simp))
  | _=>exact absurd (show false=true from hs) Bool.false_ne_true
 | int i =>
  obtain ⟨t,rfl⟩:=rx
  cases y with
  | fL=>cases ry;exact PySem.EqNone.ne_int_none (bU I q (by simp))
  | int j=>obtain ⟨t',rfl⟩:=ry;exact ne_int (bU I q (congrArg not Fb))
  | str j=>obtain ⟨t',rfl⟩:=ry;exact PySem.EqMixed.ne_int_str (bU I q (by simp))
  | _=>exact absurd (show false=true from hs) Bool.false_ne_true
 | str i =>
  obtain ⟨t,rfl⟩:=rx
  cases y with
  | fL=>cases ry;exact PySem.EqNone.ne_str_none (bU I q (by simp))
  | bl j=>cases ry;exact PySem.EqMixed.ne_str_bool (bU I q (by simp))
  | int j=>obtain ⟨t',rfl⟩:=ry;exact PySem.EqMixed.ne_str_int (bU I q (by simp))
  | str j=>obtain ⟨t',rfl⟩:=ry;exact ne_str (bU I q (congrArg not E9))
  | _=>exact absurd (show false=true from hs) Bool.false_ne_true
 | Hj i =>
  obtain ⟨t,rfl⟩:=rx
  cases y with
  | Hj j=>obtain ⟨t',rfl⟩:=ry;exact PySem.W.ne_bytes (bU I q (congrArg not Fc))
  | _=>exact absurd (show false=true from hs) Bool.false_ne_true
 | _=>cases y <;> exact absurd (show false=true from hs) Bool.false_ne_true
theorem yh:ow X (compareOp .Lt) (Tf fun i j=>.bl (decide (i < j))):=UL fun _ _ _ _ _ _ _ q=>lt_int q
theorem yi:ow X (compareOp .Gt) (Tf fun i j=>.bl (decide (j < i))):=UL fun _ _ _ _ _ _ _ q=>gt_int q
theorem C1:ow X (compareOp .Is) (fun x y H Q=>y=.fL∧Q (.bl (decide (x=.fL))) H):=by
 intro pins s σ H x y v u Q I rx ry h
 obtain ⟨rfl,q⟩:=h
 cases ry
 refine is_none_gen (bU I q ?_)
 cases x <;> first
  | (cases rx;rfl)
  | (obtain ⟨t,rfl⟩:=rx;rfl)
theorem EH:ow X (compareOp .IsNot) (fun x y H Q=>y=.fL∧Q (.bl (!decide (x=.fL))) H):=by
 intro pins s σ H x y v u Q I rx ry h
 obtain ⟨rfl,q⟩:=h
 cases ry
 refine isnot_none_gen (bU I q ?_)
 cases x <;> first
  | (cases rx;rfl)
  | (obtain ⟨t,rfl⟩:=rx;rfl)
theorem aV (b:Expr) {op:CmpOp} (h:op≠.In:=by decide) (h2:op≠.NotIn:=by decide):behindInMarks op b=false:=by
 have e1:(op == CmpOp.In)=false:=by cases op <;> first | rfl | exact absurd rfl h
 have e2:(op == CmpOp.NotIn)=false:=by cases op <;> first | rfl | exact absurd rfl h2
 cases b <;> simp [behindInMarks,e1,e2]
theorem eO {op:CmpOp} {r:R2} (ho:ow X (compareOp op) r) (ha:PE X a ta) (hb:PE X b tb) (hm:behindInMarks op b=false):PE X (.Compare a [op] [b] pos) (Ue r ta tb):=by
 intro pins s σ H Q I h
 exact wpAny_Compare1 (Sx ha hb I h fun v u s2 x y H2 I2 rx ry q=>ho pins s2 σ H2 x y v u Q I2 rx ry q) hm
def OX (t:TE):TT:=fun σ H Q=>t σ H fun x H'=>∃ k,x=.bl k∧Q k H'
theorem aO {op:CmpOp} {r:R2} (ho:ow X (compareOp op) r) (ha:PE X a ta) (hb:PE X b tb) (hm:behindInMarks op b=false):PT X (.Compare a [op] [b] pos) (OX (Ue r ta tb)):=by
 intro pins s σ H Q I h
 refine wpAny_isTrue_Compare1 (cS (ha pins s σ H _ I h) fun v s1 ⟨x,H1,I1,r1,q1⟩=>cS (hb pins s1 σ H1 _ I1 q1) fun u s2 ⟨y,H2,I2,r2,q2⟩ =>
  cS (ho pins s2 σ H2 x y v u _ I2 r1 r2 q2) fun c s3 ⟨z,H3,I3,r3,k,e,q3⟩=>?_) hm
 subst e
 cases r3
 exact wpAny_truthy_bool ⟨H3,I3,q3⟩
theorem sG:(sizeLine:Nat) < 2 ^ 63:=by rw [sizeLine_eq];decide
theorem kI:ow X (binaryOp .Add) (fun x y H Q=>∃ i j,x=.str i∧y=.str j∧i.length+j.length≤sizeLine∧Q (.str (i++j)) H):=by
 intro pins s σ H x y v u Q I rx ry h
 obtain ⟨i,j,rfl,rfl,hz,q⟩:=h
 obtain ⟨t,rfl⟩:=rx
 obtain ⟨t',rfl⟩:=ry
 exact add_str (fun t' tk=>⟨.str (i++j),H,I.tok _,⟨_,rfl⟩,q⟩) hz
theorem vals1 {x:V} {us:List Value} (r:Vals [x] us):∃ u,us=[u]∧RelV x u:=by
 cases r with
 | cons r1 r2=>cases r2;exact ⟨_,rfl,r1⟩
theorem vals2 {x y:V} {us:List Value} (r:Vals [x,y] us):∃ u w',us=[u,w']∧RelV x u∧RelV y w':=by
 cases r with
 | cons r1 r2 =>
  cases r2 with
  | cons r3 r4=>cases r4;exact ⟨_,_,rfl,r1,r3⟩
theorem eE:j9 X (.type "int") (fun xs H Q=>(∃ i,xs=[.int i]∧Q (.int i) H)∨∃ k,xs=[.bl k]∧Q (.int (if k then 1 else 0)) H):=by
 intro pins s σ H xs us Q I r h
 rcases h with ⟨i,rfl,q⟩ | ⟨k,rfl,q⟩
 ·obtain ⟨u,rfl,t,rfl⟩:=vals1 r
  exact call_int_int ⟨.int i,H,I,⟨_,rfl⟩,q⟩
 ·obtain ⟨u,rfl,r1⟩:=vals1 r
  cases r1
  exact call_int_bool ⟨.int (if k then 1 else 0),H,I.tok _,⟨_,rfl⟩,q⟩
theorem qU:j9 X (.type "str") (fun xs H Q=>∃ i,xs=[.int i]∧i.natAbs.log2 < 1920∧Q (.str (toString i)) H):=by
 intro pins s σ H xs us Q I r h
 obtain ⟨i,rfl,hz,q⟩:=h
 obtain ⟨u,rfl,t,rfl⟩:=vals1 r
 exact PySem.P.str_of_int hz ⟨.str _,H,I.tok _,⟨_,rfl⟩,q⟩
end
end L2
namespace L2
open PySem PySem.Spec PyProof.Rows
structure DW (h:Heap) (x dx C:Addr) (mA:Str→Option Value):Prop where
 obj:h.get? x=some (PySem.W.instObj C dx)
 ns:h.Ns1 dx mA
 ne:dx≠x
theorem FZ {h:Heap} {dx:Addr} {mA:Str→Option Value} (n:h.Ns1 dx mA):∃ od,h.get? dx=some od∧∀ name,PySem.W.lookIn name od=some (mA name):=by
 obtain ⟨o,es,ep,ho,hd,hk,_,hm⟩:=n
 refine ⟨o,ho,fun name=>?_⟩
 have e:=hm name
 unfold nsFind findBy at e
 rw [← Array.find?_toList] at e
 unfold PySem.W.lookIn
 rw [hd]
 dsimp only
 split
 ·rename_i y q
  rw [q] at e
  exact congrArg some e
 ·rename_i q
  rw [q] at e
  have a:es.toList.any (·.refKey)=false:=by
   rw [List.any_eq_false]
   intro y hy
   obtain ⟨z,t,hkey⟩:=hk y (Array.mem_toList_iff.mp hy)
   simp [DictEntry.refKey,hkey]
  have a':¬ es.toList.any (·.refKey)=true:=by rw [a];exact Bool.false_ne_true
  rw [if_neg a']
  exact congrArg some e
theorem DW.look {h:Heap} {x dx C:Addr} {mA:Str→Option Value} (I:DW h x dx C mA):∃ od,PySem.W.InstAt h x (PySem.W.instObj C dx) C (some od)∧∀ name,PySem.W.lookIn name od=some (mA name) :=
 let ⟨od,ho,hl⟩:=FZ I.ns
 ⟨od,⟨I.obj,rfl,rfl,ho⟩,hl⟩
section
variable {prog:Program} {w:World} {A:Around} {E:Value→Shared→Prop} {s:Shared} {K:PySem.W.Frag} {x dx C f:Addr} {mA:Str→Option Value} {name:Str} {v:Value}
theorem get_map {expr:Bool} {Q:Value→Shared→Prop} (X:K.In s.heap) (I:DW s.heap x dx C mA) (hg:PySem.W.plainGet K C name=true) (hh:PySem.W.hasDictIn K C=true)
  (ha:PySem.W.findIn K (.ref C) name=some none) (hv:mA name=some v) (hv':PySem.W.handedIn v=true) (h:Q v { s with toks:=s.toks+1 }) :
  wpAny (model prog w) A (getAttr (.ref x) name expr) Q E s:=by
 obtain ⟨od,J,hl⟩:=I.look
 exact PySem.W.get_value X J (PySem.W.plainGet_of hg).1 (PySem.W.findObj_own hh ha rfl (by rw [hl,hv])) hv' h
theorem K2 {pl:Sem Bool} {Q:Value×List Value→Shared→Prop} (X:K.In s.heap) (I:DW s.heap x dx C mA) (hg:PySem.W.plainGet K C name=true)
  (hf:PySem.W.findIn K (.ref C) name=some (some (.ref f))) (ht:PySem.W.isFn K (.ref f)=true) (hv:mA name=none) (h:Q (.ref f,[.ref x]) s) :
  wpAny (model prog w) A (getMethod (.ref x) name pl) Q E s:=by
 obtain ⟨od,J,hl⟩:=I.look
 exact PySem.W.method_fn X J (PySem.W.plainGet_of hg).1 (PySem.W.plainGet_of hg).2 hf (beq_iff_eq.mp ht) (by show (PySem.W.lookIn name od).map (·.isSome)=some false;rw [hl,hv];rfl) h
theorem MA {ns:List Str} {Q:Unit→Shared→Prop} (X:K.In s.heap) (I:DW s.heap x dx C mA)
  (hs:PySem.W.findIn K (.ref C) "__setattr__"=some (some (.builtin "object.__setattr__"))) (hp:PySem.W.plainOver K C=true) (ht:PySem.W.takerIn K C name=some none) (hh:PySem.W.hasDictIn K C=true)
  (hw:PySem.Within mA ns) (hsz:ns.length≤sizeLine)
  (h:∀ h',DW h' x dx C (fun y=>if y=name then some v else mA y)→Heap.SameBut dx s.heap h'→Q () { s with heap:=h',toks:=s.toks+2 }) :
  wpAny (model prog w) A (setAttr (.ref x) name v) Q E s:=by
 obtain ⟨od,J,hl⟩:=I.look
 refine PySem.W.set_plain X J hs (PySem.W.osa_open (s:={ s with toks:=s.toks+1 }) (r:=none) X J hp ht fun b=>?_)
 obtain ⟨cd,hc,hd'⟩:=PySem.W.any_some hh
 have hx:s.heap.get? x=some ⟨.ref C,some dx,.plain,#[]⟩:=I.obj
 refine wpAny_bind (wpAny_pure (wpAny_bind (wpAny_bind (wpAny_loadPart hx (wpAny_bind (PySem.W.Looks.here (s:={ s with toks:=s.toks+1 }) (PySem.W.looks_clsIn X hc) ?_))))))
 rw [hd']
 refine wpAny_pure (a:=some dx) (wpAny_bind (wpAny_pure (wpAny_bind ?_)))
 refine wpAny_nsSet1 (s:={ s with toks:=s.toks+1 }) I.ns fun h' hn2 hs2=>?_
 obtain ⟨oD,esD,epD,hoD,hdD,hcD⟩:=hn2.count (PySem.Within.cons name v hw)
 refine wpAny_bind (wpAny_lookBehind hoD (by rw [hdD];exact pastItsLine_dict (Nat.le_trans hcD (by rw [List.length_cons];omega))) ?_)
 exact wpAny_pure (h _ ⟨(hs2.2 _ (Ne.symm I.ne)).trans I.obj,hn2,I.ne⟩ hs2)
theorem Kg {R:Result→Shared→Prop} {vs:List Value} {kw:List (Str×Value)} (X:K.In s.heap) (hm:PySem.W.makesIn K C=true)
  (hi:PySem.W.findIn K (.ref C) "__init__"=some (some (.ref f))) (hf:PySem.W.typeIn K (.ref f)=some (.type "function"))
  (h:codeAny (model prog w) (A.under (.builtin "type.__call__" ⟨.ref C::vs,kw⟩)) (.call (.ref f) ⟨.ref (s.heap.objs.size+1)::vs,kw⟩) (PySem.W.InitBack (s.heap.objs.size+1) R)
   { s with heap:=(s.heap.push PySem.W.emptyDict).push (PySem.W.instObj C s.heap.objs.size) }) :
  codeAny (model prog w) A (.call (.ref C) ⟨vs,kw⟩) R s:=by
 obtain ⟨hh,g,d,t,os⟩:=s
 exact PySem.W.make_core (PySem.W.makes_of X hm) (PySem.W.looks_findIn X hi) (fun self=>PySem.W.bind_fn X self hf) (.inl rfl) h
end
def gG (f:Str) (v:V):List (Str×V)→List (Str×V)
 | []=>[(f,v)]
 | (g,x)::r=>if g=f then (g,v)::r else (g,x)::gG f v r
theorem bu (f g:Str) (v:V):∀ fs:List (Str×V),(gG f v fs).lookup g=if g=f then some v else fs.lookup g
 | []=>by
  show List.lookup g [(f,v)]=_
  by_cases h:g=f
  ·have hb:(g == f)=true:=beq_iff_eq.mpr h
   simp only [List.lookup,hb,if_pos h]
  ·have hb:(g == f)=false:=beq_eq_false_iff_ne.mpr h
   simp only [List.lookup,hb,if_neg h]
 | (k,x)::r=>by
  have ih:=bu f g v r
  rw [show gG f v ((k,x)::r)=(if k=f then (k,v)::r else (k,x)::gG f v r) from rfl]
  by_cases hk:k=f
  ·rw [if_pos hk]
   by_cases h:g=k
   ·have hb:(g == k)=true:=beq_iff_eq.mpr h
    simp only [List.lookup,hb,if_pos (h.trans hk)]
   ·have hb:(g == k)=false:=beq_eq_false_iff_ne.mpr h
    simp only [List.lookup,hb,if_neg (fun e:g=f=>h (e.trans hk.symm))]
  ·rw [if_neg hk]
   by_cases h:g=k
   ·have hb:(g == k)=true:=beq_iff_eq.mpr h
    simp only [List.lookup,hb,if_neg (fun e:g=f=>hk (h.symm.trans e))]
   ·have hb:(g == k)=false:=beq_eq_false_iff_ne.mpr h
    simp only [List.lookup,hb]
    exact ih
theorem sO (f:Str) (v:V):∀ fs:List (Str×V),f∈(gG f v fs).map (·.1)∧∀ g,g∈fs.map (·.1)→g∈(gG f v fs).map (·.1)
 | []=>⟨by simp [gG],fun g h=>by simp at h⟩
 | (k,x)::r=>by
  obtain ⟨i1,i2⟩:=sO f v r
  rw [show gG f v ((k,x)::r)=(if k=f then (k,v)::r else (k,x)::gG f v r) from rfl]
  by_cases hk:k=f
  ·rw [if_pos hk]
   subst hk
   exact ⟨by simp,fun g h=>by simpa using h⟩
  ·rw [if_neg hk]
   refine ⟨?_,fun g h=>?_⟩
   ·rw [List.map_cons]
    exact List.mem_cons_of_mem _ i1
   ·rw [List.map_cons] at h ⊢
    rcases List.mem_cons.mp h with e | e
    ·exact List.mem_cons.mpr (.inl e)
    ·exact List.mem_cons_of_mem _ (i2 g e)
theorem ug (f:Str) (v:V):∀ fs:List (Str×V),(gG f v fs).length≤fs.length+1
 | []=>by simp [gG]
 | (k,x)::r=>by
  have ih:=ug f v r
  rw [show gG f v ((k,x)::r)=(if k=f then (k,v)::r else (k,x)::gG f v r) from rfl]
  by_cases hk:k=f
  ·rw [if_pos hk,List.length_cons,List.length_cons];omega
  ·rw [if_neg hk,List.length_cons,List.length_cons];omega
theorem lE.some_of {v:V} {o:Option Value} (r:lE (some v) o):∃ u,o=some u∧RelV v u:=by
 cases o with
 | none=>exact (show False from r).elim
 | some u=>exact ⟨u,rfl,r⟩
theorem lE.none_of {o:Option Value} (r:lE none o):o=none:=by
 cases o with
 | none=>rfl
 | some u=>exact (show False from r).elim
theorem Gq {v:V} {u:Value} (r:RelV v u):PySem.W.handedIn u=true:=by
 cases v with
 | fL=>cases (show u=Value.none from r);rfl
 | bl b=>cases (show u=Value.bool b from r);rfl
 | int i=>obtain ⟨t,e⟩:=(show ∃ t,u=Value.int i t from r);cases e;rfl
 | str x=>obtain ⟨t,e⟩:=(show ∃ t,u=Value.str x t from r);cases e;rfl
 | Hj b=>obtain ⟨t,e⟩:=(show ∃ t,u=Value.bytes b t from r);cases e;rfl
 | YD b=>obtain ⟨t,e⟩:=(show ∃ t,u=Value.float b t from r);cases e;rfl
 | ref a=>cases (show u=Value.ref a from r);rfl
 | ty n=>cases (show u=Value.type n from r);rfl
section
variable {P:Program} {w:World} {H H':Hp} {h h':Heap} {a C dx:Addr} {fs fs':List (Str×V)}
theorem zQ (hok:nh P w H h) (e:H a=some (.ins C dx fs)):∃ mA,DW h a dx C mA∧(∀ f,lE (fs.lookup f) (mA f))∧PySem.Within mA (fs.map (·.1))∧fs.length≤1000∧H dx=some (.own a):=by
 obtain ⟨d,z,ne,ob,mA,n,r,q⟩:=(show cX P w H h a (.ins C dx fs) from hok a _ e)
 exact ⟨mA,⟨ob,n,ne⟩,r,q,z,d⟩
end
structure Ef (K:PySem.W.Frag) (C:Addr):Prop where
 pg:PySem.W.plainGet K C Str.empty=true
 hd:PySem.W.hasDictIn K C=true
 po:PySem.W.plainOver K C=true
 sa:PySem.W.findIn K (.ref C) "__setattr__"=some (some (.builtin "object.__setattr__"))
theorem Ef.get {K:PySem.W.Frag} {C:Addr} (c:Ef K C) (f:Str):PySem.W.plainGet K C f=true:=c.pg
def fN (K:PySem.W.Frag) (C:Addr) (f:Str):Prop:=PySem.W.findIn K (.ref C) f=some none
theorem fN.Uc {K:PySem.W.Frag} {C:Addr} {f:Str} (n:fN K C f):PySem.W.takerIn K C f=some none:=by
 unfold PySem.W.takerIn
 rw [show PySem.W.findIn K (.ref C) f=some none from n]
 rfl
structure Meth (K:PySem.W.Frag) (C:Addr) (m:Str) (f:Addr):Prop where
 at_:PySem.W.findIn K (.ref C) m=some (some (.ref f))
 fn:PySem.W.isFn K (.ref f)=true
 kp:PySem.W.keepIn K (.ref f)=true
section
variable {X:Cx} {pins:List (Addr×Obj)} {σ:St} {H:Hp} {s:Shared} {a C dx:Addr} {fs:List (Str×V)} {f:Str} {v:V} {A:Around} {E:Value→Shared→Prop}
theorem Dv {b:Bool} {Q:Value→Shared→Prop} (I:Inv X pins σ H s) (e:H a=some (.ins C dx fs)) (c:Ef X.K C) (n:fN X.K C f) (l:fs.lookup f=some v)
  (h:∀ u s',Inv X pins σ H s'→RelV v u→Q u s'):wpAny (model X.prog X.w) A (getAttr (.ref a) f b) Q E s:=by
 obtain ⟨mA,O,r,_,_,_⟩:=zQ I.hok e
 obtain ⟨u,hu,ru⟩:=lE.some_of (v:=v) (o:=mA f) (by rw [← l];exact r f)
 exact get_map I.p8 O (c.get f) c.hd n hu (Gq ru) (h u _ (I.tok _) ru)
theorem kQ {m:Str} {g:Addr} {pl:Sem Bool} {Q:Value×List Value→Shared→Prop} (I:Inv X pins σ H s) (e:H a=some (.ins C dx fs)) (c:Ef X.K C) (k:Meth X.K C m g) (l:fs.lookup m=none)
  (h:Q (.ref g,[.ref a]) s):wpAny (model X.prog X.w) A (getMethod (.ref a) m pl) Q E s:=by
 obtain ⟨mA,O,r,_,_,_⟩:=zQ I.hok e
 have hn:mA m=none:=lE.none_of (by rw [← l];exact r m)
 exact K2 I.p8 O (c.get m) k.at_ k.fn hn h
theorem CL {y:V} {u:Value} {Q:Unit→Shared→Prop} (I:Inv X pins σ H s) (e:H a=some (.ins C dx fs)) (c:Ef X.K C) (n:fN X.K C f) (hl:fs.length < 1000) (ry:RelV y u)
  (h:∀ s',Inv X pins σ (upd H a (.ins C dx (gG f y fs))) s'→Q () s'):wpAny (model X.prog X.w) A (setAttr (.ref a) f u) Q E s:=by
 obtain ⟨mA,O,r,wi,_,ho⟩:=zQ I.hok e
 have hz:(fs.map (·.1)).length≤sizeLine:=by rw [List.length_map,sizeLine_eq];omega
 refine MA I.p8 O c.sa c.po n.Uc c.hd wi hz fun h' O' sb=>h _ ?_
 have hd:∃ o,h'.get? dx=some o:=let ⟨o,_,_,e',_⟩:=O'.ns;⟨o,e'⟩
 refine I.write (x:=a) (e:=dx) (by rw [e];exact True.intro) (.inr ho) (fun b q hb z=>(sb.2 b hb).trans z) hd ?_
 refine ⟨by rw [aM O.ne];exact ho,?_,O.ne,O'.obj,_,O'.ns,fun g=>?_,fun g hg=>?_⟩
 ·have:=ug f y fs;omega
 ·show lE ((gG f y fs).lookup g) (if g=f then some u else mA g)
  rw [bu]
  by_cases q:g=f
  ·rw [if_pos q,if_pos q];exact ry
  ·rw [if_neg q,if_neg q];exact r g
 ·by_cases q:g=f
  ·rw [q];exact (sO f y fs).1
  ·refine (sO f y fs).2 g (wi g fun z=>hg ?_)
   show (if g=f then some u else mA g)=none
   rw [if_neg q];exact z
theorem Inv.made (I:Inv X pins σ H s):Inv X pins σ (upd (upd H s.heap.objs.size (.own (s.heap.objs.size+1))) (s.heap.objs.size+1) (.ins C s.heap.objs.size []))
  { s with heap:=(s.heap.push PySem.W.emptyDict).push (PySem.W.instObj C s.heap.objs.size) }:=by
 have e1:(s.heap.push PySem.W.emptyDict).get? s.heap.objs.size=some PySem.W.emptyDict:=Heap.get?_push_size s.heap rfl
 have e2:((s.heap.push PySem.W.emptyDict).push (PySem.W.instObj C s.heap.objs.size)).get? (s.heap.objs.size+1)=some (PySem.W.instObj C s.heap.objs.size):=by
  have:=Heap.get?_push_size (s.heap.push PySem.W.emptyDict) (o:=PySem.W.instObj C s.heap.objs.size) rfl
  rwa [Heap.size_push] at this
 have e3:(s.heap.push PySem.W.emptyDict).Ns s.heap.objs.size (fun _=>none):=⟨PySem.W.emptyDict,#[],_,e1,rfl,(fun e he=>absurd he (by simp)),fun _=>rfl⟩
 have I1:=I.laid (a:=s.heap.objs.size) (o:=.own (s.heap.objs.size+1)) (h':=s.heap.push PySem.W.emptyDict) (t':=s.toks) (fun b u q=>Heap.get?_push_of_some _ q) (Nat.le_refl _) ⟨_,e1⟩
 refine I1.laid (a:=s.heap.objs.size+1) (o:=.ins C s.heap.objs.size []) (t':=s.toks) (fun b u q=>Heap.get?_push_of_some _ q) (Nat.le_of_eq (Heap.size_push _ _)) ?_
 have ne:s.heap.objs.size≠s.heap.objs.size+1:=Nat.ne_of_lt (Nat.lt_succ_self _)
 refine ⟨by rw [aM ne,ah],Nat.zero_le _,ne,e2,fun _=>none,(Heap.Ns1.of_empty e3).at fun o q=>Heap.get?_push_of_some _ q,fun _=>True.intro,fun y hy=>absurd rfl hy⟩
theorem Ol {prog:Program} {w:World} {env:Env} {e:Expr} {f:Str} {pos:Pos} {s:Shared} {Q:Value→Shared→Prop} (hb:attributeBase e f env (eval e env)=eval e env)
  (h:wpAny (model prog w) A (eval e env) (fun o s₁=>wpAny (model prog w) A (getAttr o f true) Q E s₁) E s):wpAny (model prog w) A (eval (.Attribute e f pos) env) Q E s :=
 Attribute_any_ h (by rw [arm_eval_Attribute,hb])
end
def Ul (K:PySem.W.Frag) (ta:TE) (f:Str):TE:=fun σ H Q=>ta σ H fun x H1=>∃ a C dx fs v,x=.ref a∧H1 a=some (.ins C dx fs)∧Ef K C∧fN K C f∧fs.lookup f=some v∧Q v H1
def a0S (K:PySem.W.Frag) (ta tv:TE) (f:Str):TS:=fun D σ H=>tv σ H fun y H1=>ta σ H1 fun x H2=>∃ a C dx fs,x=.ref a∧H2 a=some (.ins C dx fs)∧Ef K C∧fN K C f∧fs.length < 1000 ∧
 D.nx σ (upd H2 a (.ins C dx (gG f y fs)))
section
variable {X:Cx} {o e value:Expr} {f:Str} {pos pos' tpos:Pos} {ta tv:TE}
theorem bJ (he:PE X e ta) (hb:attributeBase e f X.env (eval e X.env)=eval e X.env):PE X (.Attribute e f pos) (Ul X.K ta f):=by
 intro pins s σ H Q I h
 refine Ol hb (cS (he pins s σ H _ I h) fun u s1 ⟨x,H1,I1,rx,a,C,dx,fs,v,ex,ea,c,n,l,q⟩=>?_)
 subst ex
 obtain rfl:u=Value.ref a:=rx
 exact Dv I1 ea c n l fun u' s2 I2 ru=>⟨v,H1,I2,ru,q⟩
theorem iD (ha:PE X o ta) (hv:PE X value tv) (hs:swapsWith value (some (.Attribute o f pos')) pos.line X.env=pure false):PS X (.Assign [.Attribute o f pos'] value pos) (a0S X.K ta tv f):=by
 intro pins s σ H D I h
 refine plainObj_wpAny_Assign_Attribute (cS (hv pins s σ H _ I h) fun u s1 ⟨y,H1,I1,ry,q⟩=>cS (ha pins s1 σ H1 _ I1 q) fun ov s2 ⟨x,H2,I2,rx,a,C,dx,fs,ex,ea,c,n,l,q2⟩=>?_) hs
 subst ex
 obtain rfl:ov=Value.ref a:=rx
 exact CL I2 ea c n l ry fun s3 I3=>⟨σ,_,I3,q2⟩
end
section
variable {X:Cx} {pins:List (Addr×Obj)} {σ:St} {H:Hp} {s:Shared} {A:Around} {E:Value→Shared→Prop} {Q:Value→Shared→Prop} {c:Value} {b:Bool}
end
end L2
namespace L2
open PySem PySem.Spec PyProof.Rows
structure fM (k:Nat) (A:Around):Prop where
 hd:A.handled=none
 dp:A.depth+3*k+5 < recursionLimit
 un:A.units+16*k+200 < cLine
theorem fM.mono {j k:Nat} {A:Around} (r:fM k A) (h:j≤k):fM j A:=⟨r.hd,by have:=r.dp;omega,by have:=r.un;omega⟩
theorem fM.deeper {k:Nat} {A:Around} (r:fM (k+1) A) (env:Env):fM k (A.deeper env) :=
 ⟨r.hd,by have:=r.dp;show A.depth+1+3*k+5 < _;omega,by have:=r.un;show A.units+3+16*k+200 < _;omega⟩
theorem De {A:Around} {C:Addr} {us:List Value} {kw:List (Str×Value)}:(A.under (.builtin "type.__call__" ⟨.ref C::us,kw⟩)).depth=A.depth+1:=by
 first | rfl | simp [Around.under,Code.weight,Code.isCreation,Code.isGuard,Code.isCaller,Code.frames,Code.isFrame,guardIds]
theorem Dd {A:Around} {C:Addr} {us:List Value} {kw:List (Str×Value)}:(A.under (.builtin "type.__call__" ⟨.ref C::us,kw⟩)).units=A.units+1:=by
 first | rfl | simp [Around.under,Code.cUnits,Code.frames,Code.isFrame]
theorem fM.make {k:Nat} {A:Around} (r:fM (k+1) A) (C:Addr) (us:List Value) (kw:List (Str×Value)):fM k (A.under (.builtin "type.__call__" ⟨.ref C::us,kw⟩)) :=
 ⟨r.hd,by have:=r.dp;rw [De];omega,by have:=r.un;rw [Dd];omega⟩
theorem fM.depth {k:Nat} {A:Around} (r:fM k A):A.depth < recursionLimit:=by have:=r.dp;omega
theorem fM.units {k:Nat} {A:Around} (r:fM k A):A.units+64 < cLine:=by have:=r.un;omega
def Qd:TA:=fun _ H Q=>Q [] H
def Ur (ta:TE) (tr:TA):TA:=fun σ H Q=>ta σ H fun x H1=>tr σ H1 fun xs H2=>Q (x::xs) H2
section
variable {X:Cx} {e:Expr} {es:List Expr} {te:TE} {t:TA} {pos:Pos}
theorem ai:PA X [] Qd:=fun _ _ _ _ H Q I h=>Calls.spliced_nil ⟨[],H,I,.nil,h⟩
theorem aa (ha:PE X e te) (hr:PA X es t) (hs:starEach (e::es) X.env=(false,eval e X.env)::starEach es X.env:=by rfl):PA X (e::es) (Ur te t):=by
 intro pos pins s σ H Q I h
 rw [hs]
 show wpAny _ _ (spliced ((false,eval e X.env)::backTo pos (starEach es X.env))) _ _ s
 refine Calls.spliced_cons (cS (ha pins s σ H _ I h) fun u s1 ⟨x,H1,I1,r1,q1⟩=>?_)
 exact cS (hr pos pins s1 σ H1 _ I1 q1) fun us s2 ⟨xs,H2,I2,r2,q2⟩=>⟨x::xs,H2,I2,.cons r1 r2,q2⟩
def ZK (t:TA):TE:=fun σ H Q=>t σ H fun xs H1=>xs.length≤sizeLine∧∀ p,H1 p=none→Q (.ref p) (upd H1 p (.tup xs))
def Uj (t:TA):TE:=fun σ H Q=>t σ H fun xs H1=>xs.length≤sizeLine∧∀ p,H1 p=none→Q (.ref p) (upd H1 p (.lst xs))
theorem aG {x1} (h:PA X es t):PE X (.Tuple es x1 pos) (ZK t):=by
 intro pins s σ H Q I hq
 refine wpAny_Tuple_spliced (cS (h pos pins s σ H _ I hq) fun us s1 ⟨xs,H1,I1,r,z,q⟩=>⟨by rw [← r.length];exact z,?_⟩)
 have hf:H1 s1.heap.objs.size=none:=I1.hok.fresh (Nat.le_refl _)
 refine ⟨.ref s1.heap.objs.size,upd H1 s1.heap.objs.size (.tup xs),I1.laid (t':=s1.toks) (fun b u e=>Heap.get?_push_of_some _ e) (Nat.le_refl _) ?_,rfl,q _ hf⟩
 exact ⟨z,us,r,⟨_,Heap.get?_push_size _ rfl,rfl,_,rfl⟩⟩
theorem bh (h:PA X es t):PE X (.List es pos) (Uj t):=by
 intro pins s σ H Q I hq
 refine wpAny_List_spliced (cS (h pos pins s σ H _ I hq) fun us s1 ⟨xs,H1,I1,r,z,q⟩=>⟨by rw [← r.length];exact z,?_⟩)
 have hf:H1 s1.heap.objs.size=none:=I1.hok.fresh (Nat.le_refl _)
 refine ⟨.ref s1.heap.objs.size,upd H1 s1.heap.objs.size (.lst xs),I1.laid (t':=s1.toks) (fun b u e=>Heap.get?_push_of_some _ e) (Nat.le_refl _) ?_,rfl,q _ hf⟩
 exact ⟨z,us,0,r,Heap.get?_push_size _ rfl⟩
end
abbrev Sp:=List V→Hp→VK→XK→Prop
abbrev Fv:=List Env→Hp→Shared→XK→Value→Shared→Prop
structure Ea (P:Program) (w:World) (K:PySem.W.Frag) (mg:Str→Option Value) (base:Heap) (A:Around) (outer:List Env) (s:Shared) (H:Hp):Prop where
 frames:A.frames=some outer
 mod:Mod K mg base
 bs:∀ b o,base.get? b=some o→s.heap.get? b=some o∧H b=none
 GI:base.objs.size≤s.heap.objs.size
 pU:s.heap.FunFrames base outer
 Mg:∀ b∈frs outer,H b=none
 hok:nh P w H s.heap
 bare:AllBare s.gens
def CE (outer:List Env) (P:Program) (w:World) (H:Hp) (s:Shared) (Q:VK) (u:Value) (s':Shared):Prop :=
 ∃ v H',s'.os=s.os∧AllBare s'.gens∧Un (frs outer) [] H H' s.heap s'.heap∧nh P w H' s'.heap∧RelV v u∧Q v H'
def CR (CX:Fv) (outer:List Env) (P:Program) (w:World) (H:Hp) (s:Shared) (Q:VK) (E:XK) (r:Result) (s':Shared):Prop :=
 match r with
 | .ok (.ret u)=>CE outer P w H s Q u s'
 | .ok _=>False
 | .error e=>CX outer H s E e s'
structure bF (P:Program) (w:World) (K:PySem.W.Frag) (mg:Str→Option Value) (base:Heap) (CX:Fv) (k:Nat) (f:Addr) (fd:FuncData) (ps:List Str) (sp:Sp):Prop where
 len:∀ vs H Q E,sp vs H Q E→vs.length=ps.length
 run:∀ (A:Around) (outer:List Env) (s:Shared) (H:Hp) (args:Args) (us:List Value) (vs:List V) (Q:VK) (E:XK),fM k A→Ea P w K mg base A outer s H→BindsTo s fd args (ps.zip us)→Vals vs us→sp vs H Q E →
  codeAny (model P w) A (.call (.ref f) args) (CR CX outer P w H s Q E) s
theorem Ea.make {P:Program} {w:World} {K:PySem.W.Frag} {mg:Str→Option Value} {base:Heap} {A:Around} {outer:List Env} {s:Shared} {H:Hp} (e:Ea P w K mg base A outer s H) (C:Addr) (us:List Value) (kw:List (Str×Value)) :
  Ea P w K mg base (A.under (.builtin "type.__call__" ⟨.ref C::us,kw⟩)) outer s H:=⟨by first | exact e.frames | (simpa [Around.under,Code.envs,Code.isFrame,pushEnvs] using e.frames),e.mod,e.bs,e.GI,e.pU,e.Mg,e.hok,e.bare⟩
section
variable {X:Cx} {pins:List (Addr×Obj)} {σ:St} {H:Hp} {s s':Shared}
theorem Inv.RZ (I:Inv X pins σ H s):Ea X.prog X.w X.K X.mg X.base X.A X.stack s H :=
 ⟨I.ok.frames,I.ok.mod,I.bs,Nat.le_trans I.ok.GI I.sz,I.stack,I.qg,I.hok,I.bare⟩
theorem Inv.after {Q:VK} {u:Value} (I:Inv X pins σ H s) (h:CE X.stack X.prog X.w H s Q u s'):EP X pins σ Q u s':=by
 obtain ⟨v,H',os,bare,un,hok,r,q⟩:=h
 obtain ⟨hh,g,d,t,os'⟩:=s'
 obtain rfl:os'=s.os:=os
 exact ⟨v,H',I.call (h':=hh) (g':=g) (d':=d) (t':=t) (ch:=[]) un hok bare (fun b z=>absurd z (by simp)),r,q⟩
end
def IF (sp:Sp) (xU:List V) (E:XK) (t:TA):TE:=fun σ H Q=>t σ H fun vs H1=>sp (vs++xU) H1 Q E
def Uh (C:Addr) (m:Str) (sp:Sp) (xU:List V) (E:XK) (ta:TE) (t:TA):TE:=fun σ H Q=>ta σ H fun x H1=>∃ a dx fs,x=.ref a∧H1 a=some (.ins C dx fs)∧fs.lookup m=none ∧
 t σ H1 fun vs H2=>sp (x::(vs++xU)) H2 Q E
def Ui (C:Addr) (sp:Sp) (xU:List V) (E:XK) (t:TA):TE:=fun σ H Q=>t σ H fun vs H1=>∀ x dx,H1 x=none→H1 dx=none→dx≠x →
 sp (.ref x::(vs++xU)) (upd (upd H1 dx (.own x)) x (.ins C dx [])) (fun v H2=>v=.fL∧Q (.ref x) H2) E
def Binds (K:PySem.W.Frag) (fd:FuncData) (ps:List Str) (ds:List Value):Prop :=
 ∀ (s:Shared) (us:List Value),K.In s.heap→(us++ds).length=ps.length→BindsTo s fd ⟨us,[]⟩ (ps.zip (us++ds))
theorem Binds.all {K:PySem.W.Frag} {fd:FuncData} {ps:List Str} (h:∀ us:List Value,us.length=ps.length→bindArgs fd ⟨us,[]⟩=pure (ps.zip us)):Binds K fd ps []:=fun s us _ hl=>by
 rw [List.append_nil] at hl ⊢
 exact .of_eq (h us hl)
def Passes (CX:Fv) (X:Cx) (E:XK):Prop:=∀ (pins:List (Addr×Obj)) (σ:St) (H:Hp) (s:Shared) (e:Value) (s':Shared),Inv X pins σ H s→CX X.stack H s E e s'→X.xe e s'
section
variable {X:Cx} {CX:Fv} {k:Nat} {f C:Addr} {fd:FuncData} {ps:List Str} {sp:Sp} {xU:List V} {ds:List Value} {E:XK} {x m:Str} {p pos apos:Pos} {e o:Expr} {es:List Expr} {ta:TE} {t:TA}
theorem pB {pins:List (Addr×Obj)} {σ:St} {H:Hp} {s:Shared} {Q:VK} {us:List Value} {vs:List V} (F:bF X.prog X.w X.K X.mg X.base CX k f fd ps sp) (hr:fM k X.A) (hb:Binds X.K fd ps ds) (hd:Vals xU ds) (hx:Passes CX X E)
  (I:Inv X pins σ H s) (r:Vals vs us) (h:sp (vs++xU) H Q E):wpAny (model X.prog X.w) X.A (call (.ref f) us) (EP X pins σ Q) X.xe s:=by
 have r2:Vals (vs++xU) (us++ds):=r.append hd
 have hl:(us++ds).length=ps.length:=by rw [← r2.length];exact F.len _ _ _ _ h
 refine wpAny_call (codeAny_mono (F.run X.A X.stack s H ⟨us,[]⟩ (us++ds) (vs++xU) Q E hr I.RZ (hb s us I.p8 hl) r2 h) fun r s' hq=>?_)
 cases r with
 | error e=>exact hx pins σ H s e s' I hq
 | ok fl =>
  cases fl with
  | ret u=>exact I.after hq
  | next=>exact False.elim hq
  | brk=>exact False.elim hq
  | cont=>exact False.elim hq
theorem aA (F:bF X.prog X.w X.K X.mg X.base CX k f fd ps sp) (hr:fM k X.A) (hg:Gl X x) (hm:X.mg x=some (.ref f)) (hk:PySem.W.keepIn X.K (.ref f)=true) (hb:Binds X.K fd ps ds) (hd:Vals xU ds) (hx:Passes CX X E)
  (ha:PA X (e::es) t) (hdb:(x == ("__debug__":Str))=false:=by decide) (he:starEach (e::es) X.env=(false,eval e X.env)::starEach es X.env:=by rfl) (hpl:(backTo pos (starEach es X.env)).any (·.1)=false:=by rfl) :
  PE X (.Call (.Name x p) (e::es) [] pos) (IF sp xU E t):=by
 intro pins s σ H Q I h
 refine wpAny_Call_Name_kw (jD I hg hm ?_ hdb)
 refine PySem.W.callWith_K (h₀:=X.base) I.ok.mod.lS hk (cS (ha pos pins s σ H _ I h) fun us s1 ⟨vs,H1,I1,r,q⟩=>⟨I1.p8,?_⟩) he hpl
 exact pB F hr hb hd hx I1 r q
theorem JG (F:bF X.prog X.w X.K X.mg X.base CX k f fd ps sp) (hr:fM k X.A) (hg:Gl X x) (hm:X.mg x=some (.ref f)) (hk:PySem.W.keepIn X.K (.ref f)=true) (hb:Binds X.K fd ps ds) (hd:Vals xU ds) (hx:Passes CX X E)
  (hdb:(x == ("__debug__":Str))=false:=by decide):PE X (.Call (.Name x p) [] [] pos) (IF sp xU E Qd):=by
 intro pins s σ H Q I h
 refine wpAny_Call_Name_kw (jD I hg hm ?_ hdb)
 exact PySem.W.callWith_K0 I.p8 hk (pB (us:=[]) F hr hb hd hx I .nil h)
theorem iN {pl:Sem Bool} (he:PE X o ta) (c:Ef X.K C) (hm:Meth X.K C m f) (F:bF X.prog X.w X.K X.mg X.base CX k f fd ps sp) (hr:fM k X.A) (hb:Binds X.K fd ps ds) (hd:Vals xU ds) (hx:Passes CX X E) (ha:PA X (e::es) t)
  (hst:starEach (e::es) X.env=(false,eval e X.env)::starEach es X.env:=by rfl) (hpl:(backTo pos (starEach es X.env)).any (·.1)=false:=by rfl)
  (ht:eval (.Call (.Attribute o m apos) (e::es) [] pos) X.env=(do
   let ov ← eval o X.env
   standAt apos.atName
   let (f,first) ← holding [ov] (getMethod ov m pl)
   callWith pos f first (backTo pos (starEach (e::es) X.env)) (backToKw pos (keywordEach [] X.env))):=by rfl) :
  PE X (.Call (.Attribute o m apos) (e::es) [] pos) (Uh C m sp xU E ta t):=by
 intro pins s σ H Q I h
 refine PySem.W.methodCall_KW (pl:=pl) (cS (he pins s σ H _ I h) fun u s1 ⟨x,H1,I1,rx,a,dx,fs,ex,ea,l,q⟩=>?_) ht
 subst ex
 obtain rfl:u=Value.ref a:=rx
 refine kQ I1 ea c hm l ?_
 refine PySem.W.callWith_K (first:=[.ref a]) (h₀:=X.base) I.ok.mod.lS hm.kp (cS (ha pos pins s1 σ H1 _ I1 q) fun us s2 ⟨vs,H2,I2,r,q2⟩=>⟨I2.p8,?_⟩) hst hpl
 exact pB (us:=.ref a::us) (vs:=.ref a::vs) F hr hb hd hx I2 (.cons rfl r) q2
structure Mk (K:PySem.W.Frag) (C f:Addr):Prop where
 makes:PySem.W.makesIn K C=true
 init:PySem.W.findIn K (.ref C) "__init__"=some (some (.ref f))
 fn:PySem.W.isFn K (.ref f)=true
 kp:PySem.W.keepIn K (.ref C)=true
theorem IZ {pins:List (Addr×Obj)} {σ:St} {H:Hp} {s:Shared} {Q:VK} {us:List Value} {vs:List V} (M:Mk X.K C f) (F:bF X.prog X.w X.K X.mg X.base CX k f fd ps sp) (hr:fM (k+1) X.A) (hb:Binds X.K fd ps ds) (hd:Vals xU ds)
  (hx:Passes CX X E) (I:Inv X pins σ H s) (r:Vals vs us)
  (h:∀ x dx,H x=none→H dx=none→dx≠x→sp (.ref x::(vs++xU)) (upd (upd H dx (.own x)) x (.ins C dx [])) (fun v H2=>v=.fL∧Q (.ref x) H2) E) :
  wpAny (model X.prog X.w) X.A (call (.ref C) us) (EP X pins σ Q) X.xe s:=by
 have hq:=h (s.heap.objs.size+1) s.heap.objs.size (I.hok.fresh (Nat.le_succ _)) (I.hok.fresh (Nat.le_refl _)) (Nat.ne_of_lt (Nat.lt_succ_self _))
 have I2:=Inv.made (C:=C) I
 have r2:Vals (V.ref (s.heap.objs.size+1)::(vs++xU)) (Value.ref (s.heap.objs.size+1)::(us++ds)):=.cons rfl (r.append hd)
 have hl:(Value.ref (s.heap.objs.size+1)::us++ds).length=ps.length:=by
  have e:=r2.length
  rw [F.len _ _ _ _ hq] at e
  exact e.symm
 refine wpAny_call (Kg (f:=f) I.p8 M.makes M.init (beq_iff_eq.mp M.fn) (codeAny_mono (F.run _ X.stack _ _ ⟨Value.ref (s.heap.objs.size+1)::us,[]⟩ (Value.ref (s.heap.objs.size+1)::(us++ds)) _ _ E (hr.make C us [])
  (I2.RZ.make C us []) (hb _ (Value.ref (s.heap.objs.size+1)::us) I2.p8 hl) r2 hq) fun r s' hq'=>?_))
 cases r with
 | error e=>exact hx pins σ _ _ e s' I2 hq'
 | ok fl =>
  cases fl with
  | ret u =>
   obtain ⟨v,H',I3,rv,ev,q3⟩:=I2.after hq'
   subst ev
   exact ⟨rv,⟨V.ref (s.heap.objs.size+1),H',I3,rfl,q3⟩⟩
  | next=>exact False.elim hq'
  | brk=>exact False.elim hq'
  | cont=>exact False.elim hq'
theorem cW (M:Mk X.K C f) (F:bF X.prog X.w X.K X.mg X.base CX k f fd ps sp) (hr:fM (k+1) X.A) (hg:Gl X x) (hm:X.mg x=some (.ref C)) (hb:Binds X.K fd ps ds) (hd:Vals xU ds) (hx:Passes CX X E)
  (ha:PA X (e::es) t) (hdb:(x == ("__debug__":Str))=false:=by decide) (he:starEach (e::es) X.env=(false,eval e X.env)::starEach es X.env:=by rfl) (hpl:(backTo pos (starEach es X.env)).any (·.1)=false:=by rfl) :
  PE X (.Call (.Name x p) (e::es) [] pos) (Ui C sp xU E t):=by
 intro pins s σ H Q I h
 refine wpAny_Call_Name_kw (jD I hg hm ?_ hdb)
 refine PySem.W.callWith_K (h₀:=X.base) I.ok.mod.lS M.kp (cS (ha pos pins s σ H _ I h) fun us s1 ⟨vs,H1,I1,r,q⟩=>⟨I1.p8,?_⟩) he hpl
 exact IZ M F hr hb hd hx I1 r q
end
section
variable {X:Cx} {CX:Fv} {k:Nat} {f C:Addr} {fd:FuncData} {ps ks:List Str} {sp:Sp} {E:XK} {x m:Str} {p pos apos kpos:Pos} {e o:Expr} {es:List Expr} {kws:List Keyword} {te ta:TE} {t tk:TA} {nm:Option Str}
variable {g:List Value→List Value→List Value} {gV:List V→List V→List V}
end
structure aL (N P:List Str) (sc:Scope):Prop where
 kind:sc.kind=.function
 co:sc.isCoroutine=false
 gen:sc.isGenerator=false
 nd:N.Nodup
 pre:N.take P.length=P
 par:∀ x∈P,sc.names.lookup x=some .local∨sc.names.lookup x=some .cell
 QT:∀ y∈sc.names,y.2≠.free
theorem yH {kindOf:Str→Option NameKind} {x:Str}:∀ {binds:List (Str×Value)} {m:Str→Option Value},(∀ v,(x,v) ∉ binds)→bindL kindOf binds m x=m x
 | [],_,_=>rfl
 | (n,v)::r,m,h=>by
  unfold bindL
  rw [yH fun w hw=>h w (List.mem_cons_of_mem _ hw)]
  split
  ·have:x≠n:=by rintro rfl;exact h v List.mem_cons_self
   simp [this]
  ·rfl
theorem yJ {kindOf:Str→Option NameKind} {x:Str}:∀ {binds:List (Str×Value)} {m:Str→Option Value},(∀ v,(x,v) ∉ binds)→bindC kindOf binds m x=m x
 | [],_,_=>rfl
 | (n,v)::r,m,h=>by
  unfold bindC
  rw [yJ fun w hw=>h w (List.mem_cons_of_mem _ hw)]
  split
  ·rfl
  ·have:x≠n:=by rintro rfl;exact h v List.mem_cons_self
   simp [this]
theorem yI {kindOf:Str→Option NameKind} {x:Str} {v:Value}:∀ {P:List Str} {vs:List Value} {i:Nat} {m:Str→Option Value},P.Nodup→P[i]?=some x→vs[i]?=some v→kindOf x=some .local →
  bindL kindOf (P.zip vs) m x=some v
 | [],_,_,_,_,h,_,_=>by simp at h
 | _::_,[],_,_,_,_,h,_=>by simp at h
 | p::P,w::vs,0,m,nd,h1,h2,hk=>by
  simp at h1 h2;subst h1;subst h2
  show bindL kindOf ((p,w)::P.zip vs) m p=_
  unfold bindL
  rw [yH fun v hv=>(List.nodup_cons.mp nd).1 (List.of_mem_zip hv).1,if_pos hk]
  simp
 | p::P,w::vs,i+1,m,nd,h1,h2,hk=>by
  show bindL kindOf ((p,w)::P.zip vs) m x=_
  unfold bindL
  exact yI (i:=i) (List.nodup_cons.mp nd).2 (by simpa using h1) (by simpa using h2) hk
theorem yK {kindOf:Str→Option NameKind} {x:Str} {v:Value}:∀ {P:List Str} {vs:List Value} {i:Nat} {m:Str→Option Value},P.Nodup→P[i]?=some x→vs[i]?=some v→kindOf x≠some .local →
  bindC kindOf (P.zip vs) m x=some v
 | [],_,_,_,_,h,_,_=>by simp at h
 | _::_,[],_,_,_,_,h,_=>by simp at h
 | p::P,w::vs,0,m,nd,h1,h2,hk=>by
  simp at h1 h2;subst h1;subst h2
  show bindC kindOf ((p,w)::P.zip vs) m p=_
  unfold bindC
  rw [yJ fun v hv=>(List.nodup_cons.mp nd).1 (List.of_mem_zip hv).1,if_neg hk]
  simp
 | p::P,w::vs,i+1,m,nd,h1,h2,hk=>by
  show bindC kindOf ((p,w)::P.zip vs) m x=_
  unfold bindC
  exact yK (i:=i) (List.nodup_cons.mp nd).2 (by simpa using h1) (by simpa using h2) hk
def start (N:List Str) (vs:List V):St:=vs.map some++List.replicate (N.length - vs.length) none
def DK (CX:Fv) (P:Program) (w:World) (K:PySem.W.Frag) (mg:Str→Option Value) (base:Heap) (N:List Str) (qual:Str) (scope:Scope) (f:Addr) (cd:Value) (A:Around) (outer:List Env) (s:Shared) (H:Hp) (E:XK):Cx where
 prog:=P
 w:=w
 K:=K
 mg:=mg
 base:=base
 A:=A.deeper (envOfC qual scope s.heap.objs.size f cd)
 N:=N
 s₀:=s
 H₀:=H
 env:=envOfC qual scope s.heap.objs.size f cd
 outer:=outer
 stack:=envOfC qual scope s.heap.objs.size f cd::outer
 ex:=[]
 calm:=true
 fn:=fun _=>true
 pn:=[]
 xe:=fun e s'=>wpAny (model P w) (A.deeper (envOfC qual scope s.heap.objs.size f cd)) (leaving (envOfC qual scope s.heap.objs.size f cd) e) (fun _ s''=>CX outer H s E e s'') (fun e' s''=>CX outer H s E e' s'') s'
theorem BO {sc:Scope} {n:Nat} {x:Str} (h:sc.names.lookup x=some .cell):∃ c,(cellsFrom n sc.names []).lookup x=some c:=by
 have q:=PySem.W.cellsFrom_some sc.names n [] (.inl h)
 exact Option.isSome_iff_exists.mp q
theorem Gm {CX:Fv} {P:Program} {w:World} {K:PySem.W.Frag} {mg:Str→Option Value} {base:Heap} {N ps:List Str} {qual:Str} {scope:Scope} {f:Addr} {cd:Value} {A:Around} {outer:List Env} {s s1:Shared} {H:Hp} {E:XK} {us:List Value} {vs:List V}
  (S:aL N ps scope) (hd:A.handled=none) (e0:Ea P w K mg base A outer s H) (hl:vs.length=ps.length) (r:Vals vs us)
  (x:InCallC s s.heap.objs.size (bindL (envOfC qual scope s.heap.objs.size f cd).kindOf (ps.zip us) fun _=>none) (cellsFrom (s.heap.objs.size+1) scope.names []) (bindC (envOfC qual scope s.heap.objs.size f cd).kindOf (ps.zip us) fun _=>none) s1) :
  Inv (DK CX P w K mg base N qual scope f cd A outer s H E) [] (start N vs) H s1:=by
 have hpl:ps.length≤N.length:=by have:=congrArg List.length S.pre;rw [List.length_take] at this;omega
 obtain ⟨h1,tk,rfl,hk⟩:=x.done
 have UT:∀ b:Addr,b ∉ (DK CX P w K mg base N qual scope f cd A outer s H E).ex:=fun b z=>absurd (show b∈([]:List Addr) from z) (by simp)
 refine ⟨⟨e0.mod,S.kind,rfl,rfl,Nat.le_refl _,fun y z c h1 h2=>?_,fun y hy=>?_,fun y c _ h=>?_,fun _=>hd,Around.frames_deeper e0.frames,.inr ⟨rfl,rfl⟩,fun b z=>absurd z (UT b),e0.bs,e0.GI,fun b _ _=>UT b,fun b z=>absurd z (UT b),e0.pU,e0.Mg⟩,
  rfl,e0.bare,Un.kept hk,⟨_,x.toInCall.ns,fun i y v h1 h2 h3=>?_⟩,fun y c h=>⟨_,x.cell y c h⟩,e0.hok.fresh (Nat.le_refl _),fun y c h=>?_,fun p hp=>absurd (show p∈([]:List (Addr×Obj)) from hp) (by simp),e0.hok.kept hk,?_⟩
 ·exact name_of_addr x.apart (PySem.mem_of_lookup h1) (PySem.mem_of_lookup h2)
 ·have hy:scope.names.lookup y=some .cell∨scope.names.lookup y=some .free:=hy
  rcases hy with hy | hy
  ·exact BO hy
  ·exact absurd rfl (S.QT _ (PySem.mem_of_lookup hy))
 ·exact Nat.le_of_lt (x.above y c (PySem.mem_of_lookup h))
 ·have hi:i < vs.length:=by
   unfold start at h2
   by_cases hi:i < vs.length
   ·exact hi
   ·rw [List.getElem?_append_right (by simpa using hi)] at h2
    rw [List.getElem?_replicate] at h2
    split at h2 <;> cases h2
  have ha:vs[i]?=some v:=by
   unfold start at h2
   rw [List.getElem?_append_left (by simpa using hi),List.getElem?_map] at h2
   cases e:vs[i]? with
   | none=>rw [e] at h2;cases h2
   | some a=>rw [e] at h2;cases h2;rfl
  obtain ⟨u,hu,rv⟩:=r.get ha
  have hp:ps[i]?=some y:=by
   rw [← S.pre,List.getElem?_take_of_lt (by omega)];exact h1
  have ndP:ps.Nodup:=by rw [← S.pre];exact S.nd.sublist (List.take_sublist _ _)
  refine ⟨u,rv,?_⟩
  rcases S.par y (List.mem_of_getElem? hp) with k | k
  ·exact .inl ⟨k,yI ndP hp hu k⟩
  ·obtain ⟨c,e⟩:=BO (n:=s.heap.objs.size+1) k
   refine .inr ⟨.inl k,c,e,?_⟩
   have q:=x.cell y c e
   rw [yK ndP hp hu (by show scope.names.lookup y≠_;rw [k];decide)] at q
   exact q
 ·exact e0.hok.fresh (Nat.le_of_lt (x.above y c (PySem.mem_of_lookup h)))
 ·unfold start
  show _=N.length
  rw [List.length_append,List.length_map,List.length_replicate]
  omega
theorem Pf {CX:Fv} {P:Program} {w:World} {K:PySem.W.Frag} {mg:Str→Option Value} {base:Heap} {k:Nat} {f:Addr} {name qual:Str} {params:Arguments} {body:List Stmt} {scope:Scope} {dV kV doc pm cdv ct oc:Value} {an od:Option Addr}
  {osl:Array (Option Value)} {N ps:List Str} {sp:Sp} (lk:K.lookup f=some ⟨oc,od,.func (PySem.W.fnOf name qual params body scope dV kV doc pm an cdv ct),osl⟩) (hcd:PySem.W.codeIn K cdv qual=true) (S:aL N ps scope)
  (len:∀ vs H Q E,sp vs H Q E→vs.length=ps.length)
  (hbody:∀ (A:Around) (outer:List Env) (s:Shared) (H:Hp) (vs:List V) (Q:VK) (E:XK),fM k (A.deeper (envOfC qual scope s.heap.objs.size f cdv))→sp vs H Q E →
   ∃ t,Al (DK CX P w K mg base N qual scope f cdv A outer s H E) body t∧t { nx:=fun _ H'=>Q .fL H',rt:=Q } (start N vs) H) :
  bF P w K mg base CX (k+1) f (PySem.W.fnOf name qual params body scope dV kV doc pm an cdv ct) ps sp:=by
 refine ⟨len,fun A outer s H args us vs Q E hr e0 hb r Me=>?_⟩
 have hl:=len _ _ _ _ Me
 have KX:K.In s.heap:=e0.mod.lS.keeps fun b o e=>(e0.bs b o e).1
 have lim:s.heap.NoLimit:=e0.mod.nolimit.keeps fun b o e=>(e0.bs b o e).1
 have hkind:∀ y∈ps.zip us,scope.names.lookup y.1=some .local∨(scope.names.lookup y.1=some .cell∧((cellsFrom (s.heap.objs.size+1) scope.names []).lookup y.1).isSome=true):=fun ⟨n,v⟩ hy=>by
  rcases S.par n (List.of_mem_zip hy).1 with q | q
  ·exact .inl q
  ·exact .inr ⟨q,PySem.W.cellsFrom_some _ _ _ (.inl q)⟩
 refine codeAny_call_function hr.depth (KX _ _ lk) rfl S.co S.gen rfl (PySem.W.codeRec_of KX hcd) (hb _ _ _ _ ?_)
 refine wpAny_newFunctionEnv_cells S.kind hkind fun env he s1 x=>?_
 subst he
 refine ⟨lim.keeps x.toInCall.keep,codeAny_func ?_⟩
 obtain ⟨t,ht,hq⟩:=hbody A outer s H vs Q E (hr.deeper _) Me
 have I:Inv (DK CX P w K mg base N qual scope f cdv A outer s H E) [] (start N vs) H s1:=Gm S hr.hd e0 hl r x
 refine wpAny_mono (ht [] s1 (start N vs) H _ I hq) (fun fl s' hs=>?_) fun e s' hs=>hs
 have fin:∀ {σ':St} {H':Hp} {v:V} {u:Value},Inv (DK CX P w K mg base N qual scope f cdv A outer s H E) [] σ' H' s'→RelV v u→Q v H'→CE outer P w H s Q u s' :=
  fun {σ' H' v u} J rv q=>⟨v,H',J.os,J.bare,J.base,J.hok,rv,q⟩
 cases fl with
 | ret u =>
  obtain ⟨v,σ',H',J,rv,q⟩:=hs
  exact fin J rv q
 | next =>
  obtain ⟨σ',H',J,q⟩:=hs
  exact fin (v:=V.fL) (u:=Value.none) J rfl q
 | brk =>
  obtain ⟨_,_,_,q⟩:=hs
  exact False.elim q
 | cont =>
  obtain ⟨_,_,_,q⟩:=hs
  exact False.elim q
end L2
namespace L2
open PySem PySem.Spec PyProof.Rows
section
variable {X:Cx} {x:Str} {p pos:Pos} {e:Expr} {es:List Expr} {t:TA} {id T:String} {r:List V→Hp→VK→Prop}
def tCB (r:List V→Hp→VK→Prop) (t:TA):TE:=fun σ H Q=>t σ H fun vs H1=>r vs H1 Q
theorem bS (hc:j9 X (.builtin id) r) (hg:Gl X x) (hm:X.mg x=none) (hv:bootBuiltins x=some (.builtin id)) (ha:PA X (e::es) t) (hn:x≠"__name__":=by decide) (hdb:(x == ("__debug__":Str))=false:=by decide)
  (he:starEach (e::es) X.env=(false,eval e X.env)::starEach es X.env:=by rfl) (hpl:(backTo pos (starEach es X.env)).any (·.1)=false:=by rfl):PE X (.Call (.Name x p) (e::es) [] pos) (tCB r t):=by
 intro pins s σ H Q I h
 refine wpAny_Call_Name_kw (wH I hg hm hv ?_ hn hdb)
 exact PyProof.Rows.callWith_builtin1 (cS (ha pos pins s σ H _ I h) fun us s1 ⟨vs,H1,I1,r1,q1⟩=>hc pins s1 σ H1 vs us Q I1 r1 q1) he hpl
theorem bB (hc:j9 X (.type T) r) (hg:Gl X x) (hm:X.mg x=none) (hv:bootBuiltins x=some (.type T)) (ha:PA X (e::es) t) (hn:x≠"__name__":=by decide) (hdb:(x == ("__debug__":Str))=false:=by decide)
  (he:starEach (e::es) X.env=(false,eval e X.env)::starEach es X.env:=by rfl) (hpl:(backTo pos (starEach es X.env)).any (·.1)=false:=by rfl):PE X (.Call (.Name x p) (e::es) [] pos) (tCB r t):=by
 intro pins s σ H Q I h
 refine wpAny_Call_Name_kw (wH I hg hm hv ?_ hn hdb)
 exact PyProof.Rows.callWith_type1 (cS (ha pos pins s σ H _ I h) fun us s1 ⟨vs,H1,I1,r1,q1⟩=>hc pins s1 σ H1 vs us Q I1 r1 q1) he hpl
end
end L2
namespace HT
open PySem PyProof.Rows
section
open PySem.SeqAt
open PySem.AutoSeq1 (wpAny_loadPart')
open PySem.MeetsSeq PySem.MeetsSeq2 PySem.MeetsSeq3
end
section
variable {prog:Program} {w:World} {A:Around} {E:Value→Shared→Prop} {s:Shared}
theorem Of {t b:Addr} {vs ws:List Value} {Q:Value→Shared→Prop} (ht:IsTup s.heap t vs.toArray) (hb:IsTup s.heap b ws.toArray) (hv:vs≠[])
  (h1:ws=[]→Q (.ref t) s) (h2:ws≠[]→Q (.ref s.heap.objs.size) { s with heap:=s.heap.push { cls:=.type "tuple",data:=.seq (vs++ws).toArray } })
  (hsz:vs.length+ws.length≤sizeLine):wpAny (model prog w) A (binaryOp .Add (.ref t) (.ref b)) Q E s:=by
 obtain ⟨⟨cls,dd,data,sl⟩,ho,hc,n,hd⟩:=id ht
 obtain ⟨⟨a9g,dd2,data2,sl2⟩,ho2,hc2,n2,hd2⟩:=id hb
 simp only at hc hd hc2 hd2
 subst hc hd hc2 hd2
 have e:vs.toArray++ws.toArray=(vs++ws).toArray:=by simp
 by_cases hw:ws=[]
 ·exact concat_meets ⟨_,ho,rfl⟩ ⟨_,ho2,rfl⟩ noFill_tuple_add seq_tuple_add PySem.F.slot_tuple_add PySem.F.entry_tuple_add (PySem.F.args_tuple_add_2 _ _)
   (tuple_addW1 t b vs.toArray ws.toArray n n2 dd dd2 sl sl2 (by simpa using hv) (by simp [hw])) ⟨ho,ho2,h1 hw⟩
 ·refine concat_meets ⟨_,ho,rfl⟩ ⟨_,ho2,rfl⟩ noFill_tuple_add seq_tuple_add PySem.F.slot_tuple_add PySem.F.entry_tuple_add (PySem.F.args_tuple_add_2 _ _)
   (tuple_addW2 t b vs.toArray ws.toArray n n2 dd dd2 sl sl2 (by simpa using hv) (by simpa using hw) (by rw [List.size_toArray,List.size_toArray];exact hsz)) ⟨ho,ho2,?_⟩
  rw [e]
  exact h2 hw
def gF (n d:Nat):Option Int→Nat
 | none=>d
 | some v=>if v < 0 then (v+(n:Int)).toNat else min v.toNat n
theorem Ex (n d k:Nat):gF n d (some (k:Int))=min k n:=by
 show (if (k:Int) < 0 then ((k:Int)+(n:Int)).toNat else min (k:Int).toNat n)=min k n
 rw [if_neg (by omega),Int.toNat_natCast]
theorem Ql (n d:Nat) (hd:d≤n) (o:Option Int):gF n d o≤n:=by
 cases o with
 | none=>exact hd
 | some v =>
  show (if v < 0 then (v+(n:Int)).toNat else min v.toNat n)≤n
  by_cases hv:v < 0
  ·rw [if_pos hv];omega
  ·rw [if_neg hv];exact Nat.min_le_right _ _
theorem Fd (v:Int) (n d:Nat):(if v < 0 then max (v+(n:Int)) 0 else min v (n:Int))=((gF n d (some v):Nat):Int):=by
 show (if v < 0 then max (v+(n:Int)) 0 else min v (n:Int))=(((if v < 0 then (v+(n:Int)).toNat else min v.toNat n):Nat):Int)
 by_cases hv:v < 0
 ·simp only [if_pos hv];omega
 ·simp only [if_neg hv];omega
theorem DV (lo hi:Option Int) (n:Nat):Builtin.Slice.sliceAdjust lo hi 1 (n:Int)=(((gF n 0 lo:Nat):Int),((gF n n hi:Nat):Int)):=by
 have h1:¬ ((1:Int) < 0):=by omega
 unfold Builtin.Slice.sliceAdjust
 simp only [h1,if_false]
 refine Prod.ext ?_ ?_
 ·cases lo with
  | none=>rfl
  | some v=>exact Fd v n 0
 ·cases hi with
  | none=>rfl
  | some v=>exact Fd v n n
theorem CT (i j:Nat):Builtin.Slice.slicePlaces (i:Int) (j:Int) 1=j - i:=by
 unfold Builtin.Slice.slicePlaces
 have h1:(1:Int) > 0:=by omega
 simp only [h1,if_true,Int.ediv_one]
 split <;> omega
theorem vG {v:Value} {o:Option Int} {Q:Option Int→Shared→Prop} (p:IsPart v o) (h:Q o s):wpAny (model prog w) A (Builtin.Slice.slicePartIndex v) Q E s:=by
 cases p with
 | none=>exact slicePart_none h
 | int i t=>exact slicePart_int h
theorem rK {sl:Addr} {vl vu:Value} {lo hi:Option Int} {n:Nat} {Q:Int×Int×Nat→Shared→Prop} (hs:s.heap.IsSliceOf sl vl vu .none) (pl:IsPart vl lo) (pu:IsPart vu hi)
  (h:Q (((gF n 0 lo:Nat):Int),1,gF n n hi - gF n 0 lo) s):wpAny (model prog w) A (Builtin.Slice.sliceApplied (.ref sl) (pure (n:Int))) Q E s:=by
 obtain ⟨os,hos,hcs,hds⟩:=id hs
 unfold Builtin.Slice.sliceApplied Builtin.Slice.sliceFields
 refine wpAny_bind (wpAny_bind (wpAny_field hos hds (x:=vl) rfl (wpAny_bind (wpAny_field hos hds (x:=vu) rfl (wpAny_bind (wpAny_field hos hds (x:=.none) rfl (wpAny_pure ?_)))))))
 refine wpAny_bind (slicePart_none ?_)
 show wpAny _ _ (if ((1:Int) == 0)=true then _ else _) _ _ s
 rw [if_neg (by decide)]
 refine wpAny_bind (vG pl (wpAny_bind (vG pu (wpAny_bind (wpAny_pure ?_)))))
 show wpAny _ _ (match Builtin.Slice.sliceAdjust lo hi 1 (n:Int) with | (lo,hi)=>pure (lo,(1:Int),Builtin.Slice.slicePlaces lo hi 1)) _ _ s
 rw [DV lo hi n]
 show wpAny _ _ (pure (((gF n 0 lo:Nat):Int),(1:Int),Builtin.Slice.slicePlaces ((gF n 0 lo:Nat):Int) ((gF n n hi:Nat):Int) 1)) _ _ s
 rw [CT]
 exact wpAny_pure h
theorem Jx (xs:Array Value) (i k:Nat):((List.range k).filterMap fun (m:Nat)=>xs[((i:Int)+(m:Int)*1).toNat]?).toArray=((xs.toList.drop i).take k).toArray:=by
 have e:(fun (m:Nat)=>xs[((i:Int)+(m:Int)*1).toNat]?)=fun m=>xs[i+m]?:=by
  funext m
  have:((i:Int)+(m:Int)*1).toNat=i+m:=by omega
  rw [this]
 rw [e]
 have:=pick_run xs i k
 rw [List.filterMap_map] at this
 have e2:((fun x=>xs[x]?) ∘ fun x=>i+x)=fun m=>xs[i+m]?:=rfl
 rw [e2] at this
 rw [this]
theorem qP {t sl:Addr} {items:Array Value} {vl vu:Value} {lo hi:Option Int} {Q:Value→Shared→Prop} (ht:IsTup s.heap t items) (hs:s.heap.IsSliceOf sl vl vu .none) (pl:IsPart vl lo) (pu:IsPart vu hi)
  (hw:¬ (gF items.size 0 lo=0∧gF items.size items.size hi=items.size))
  (h:Q (.ref s.heap.objs.size) { s with heap:=s.heap.push { cls:=.type "tuple",data:=.seq ((items.toList.drop (gF items.size 0 lo)).take (gF items.size items.size hi - gF items.size 0 lo)).toArray } })
  (hsz:items.size≤sizeLine):wpAny (model prog w) A (getItem (.ref t) (.ref sl)) Q E s:=by
 have EY:sizeOk (.seq ((items.toList.drop (gF items.size 0 lo)).take (gF items.size items.size hi - gF items.size 0 lo)).toArray):=by
  show ((items.toList.drop (gF items.size 0 lo)).take (gF items.size items.size hi - gF items.size 0 lo)).toArray.size≤sizeLine
  rw [List.size_toArray,List.length_take,List.length_drop,Array.length_toList]
  omega
 have hj:gF items.size items.size hi≤items.size:=Ql _ _ (Nat.le_refl _) hi
 obtain ⟨os,hos,hcs,hds⟩:=id hs
 have hTs:s.TypeIs (.ref sl) "slice":=⟨os,hos,hcs⟩
 unfold getItem
 try with_reducible refine wpAny_holding ?_
 first | refine wpAny_bind (wpAny_pure ?_) | skip
 refine wpAny_bind (wpAny_sequenceKey ht.typeIs (by decide) ?_)
 refine wpAny_bind (wpAny_callSpecial?_slot (name:=Str.ofString "__getitem__") ht.typeIs PyProof.Rows.slot_tuple_getitem
  (wpAny_call_entry PyProof.Rows.slot_tuple_getitem ht.typeIs entry_tuple_getitem ?_ (args_tuple_getitem _ _)))
 show wpAny _ _ (Builtin.Tuple.tupleItemsOf (.ref t) >>= _) _ _ s
 refine wpAny_bind (tupleItemsOf_ ht ?_)
 refine wpAny_bind (wpAny_typeOf hTs ?_)
 rw [if_pos (by decide)]
 refine wpAny_bind (rK hs pl pu ?_)
 have hno:¬ ((((gF items.size 0 lo:Nat):Int) == 0 && (1:Int) == 1 && (gF items.size items.size hi - gF items.size 0 lo) == items.size)=true):=by
  intro q
  rw [Bool.and_eq_true,Bool.and_eq_true] at q
  have q1:((gF items.size 0 lo:Nat):Int)=0:=eq_of_beq q.1.1
  have q2:gF items.size items.size hi - gF items.size 0 lo=items.size:=eq_of_beq q.2
  exact hw ⟨by omega,by omega⟩
 show wpAny _ _ (if (((gF items.size 0 lo:Nat):Int) == 0 && (1:Int) == 1 && (gF items.size items.size hi - gF items.size 0 lo) == items.size)=true then _ else _) _ _ s
 rw [if_neg hno,Jx]
 first
  | exact wpAny_bind (m:=Builtin.Tuple.tupleExact _) (wpAny_newObj_type (wpAny_pure ⟨_,rfl,wpAny_pure h⟩) EY)
  | exact wpAny_bind (m:=Builtin.Tuple.tupleExact _) (wpAny_newObj_type (wpAny_bind (wpAny_pure (wpAny_pure ⟨_,rfl,wpAny_pure h⟩))) EY)
  | exact wpAny_bind (wpAny_bind (m:=Builtin.Tuple.tupleExact _) (wpAny_newObj_type (wpAny_pure (wpAny_pure ⟨_,rfl,wpAny_pure h⟩)) EY))
  | exact wpAny_bind (wpAny_bind (m:=Builtin.Tuple.tupleExact _) (wpAny_newObj_type (wpAny_pure ⟨_,rfl,wpAny_pure h⟩) EY))
end
end HT
namespace L2
open PySem PySem.Spec PyProof.Rows
abbrev TO:=St→Hp→(Option Int→Hp→Prop)→Prop
def PO (X:Cx) (e:Option Expr) (t:TO):Prop :=
 ∀ (pins:List (Addr×Obj)) (s:Shared) (σ:St) (H:Hp) (Q:Option Int→Hp→Prop),Inv X pins σ H s→t σ H Q →
  wpAny (model X.prog X.w) X.A (evalPart e X.env) (fun u s'=>∃ o H',Inv X pins σ H' s'∧IsPart u o∧Q o H') X.xe s
def Mw:TO:=fun _ H Q=>Q none H
def Ud (t:TE):TO:=fun σ H Q=>t σ H fun x H1=>∃ i,x=.int i∧Q (some i) H1
section
variable {X:Cx} {e:Expr} {te:TE} {lo hi:Option Expr} {tl th:TO} {pos p2:Pos}
theorem kF:PO X none Mw:=by
 intro pins s σ H Q I h
 rw [evalPart_none]
 exact wpAny_pure ⟨none,H,I,.none,h⟩
theorem kE (h:PE X e te):PO X (some e) (Ud te):=by
 intro pins s σ H Q I hw
 rw [evalPart_some]
 refine cS (h pins s σ H _ I hw) fun u s1 ⟨x,H1,I1,r1,q1⟩=>?_
 obtain ⟨i,rfl,q⟩:=q1
 obtain ⟨t,rfl⟩:=r1
 exact ⟨some i,H1,I1,.int i t,q⟩
def SlR (X:Cx) (r:V→Option Int→Option Int→Hp→VK→Prop):Prop :=
 ∀ (pins:List (Addr×Obj)) (s:Shared) (σ:St) (H:Hp) (x:V) (v vl vu:Value) (lo hi:Option Int) (sl:Addr) (Q:VK),Inv X pins σ H s→RelV x v→s.heap.IsSliceOf sl vl vu .none→IsPart vl lo→IsPart vu hi→r x lo hi H Q →
  ∃ T id,typeLookup (.type T) "__getitem__"=pure (some (.builtin id))∧s.TypeIs v T∧wpAny (model X.prog X.w) X.A (getItem v (.ref sl)) (EP X pins σ Q) X.xe s
def tSl (r:V→Option Int→Option Int→Hp→VK→Prop) (te:TE) (tl th:TO):TE:=fun σ H Q=>te σ H fun x H1=>tl σ H1 fun l H2=>th σ H2 fun u H3=>r x l u H3 Q
theorem jd {r:V→Option Int→Option Int→Hp→VK→Prop} (hr:SlR X r) (he:PE X e te) (hl:PO X lo tl) (hu:PO X hi th):PE X (.Subscript e (.Slice lo hi none p2) pos) (tSl r te tl th):=by
 intro pins s σ H Q I h
 refine Subscript_ (cS (he pins s σ H _ I h) fun v s1 ⟨x,H1,I1,r1,q1⟩=>?_)
 refine wpAny_Slice (cS (hl pins s1 σ H1 _ I1 q1) fun vl s2 ⟨l,H2,I2,pl,q2⟩=>cS (hu pins s2 σ H2 _ I2 q2) fun vu s3 ⟨u,H3,I3,pu,q3⟩=>?_)
 rw [evalPart_none]
 refine wpAny_pure ?_
 have I4:Inv X pins σ H3 { s3 with heap:=s3.heap.push { cls:=.type "slice",data:=.fields #[vl,vu,.none] } }:=I3.kept (t':=s3.toks) fun b ob q=>Heap.get?_push_of_some _ q
 obtain ⟨T,id,hT,ht,hg⟩:=hr pins { s3 with heap:=s3.heap.push { cls:=.type "slice",data:=.fields #[vl,vu,.none] } } σ H3 x v vl vu l u s3.heap.objs.size Q I4 r1 (Heap.IsSliceOf.new ..) pl pu q3
 show wpAny (model X.prog X.w) X.A (subscriptTail e (.Slice lo hi none p2) v (.ref s3.heap.objs.size)) (EP X pins σ Q) X.xe { s3 with heap:=s3.heap.push { cls:=.type "slice",data:=.fields #[vl,vu,.none] } }
 exact tail_any (ops:=[.ref s3.heap.objs.size,v]) ht hT hg (by with_unfolding_all rfl)
def xV (xs:List V) (lo hi:Option Int):List V:=(xs.drop (HT.gF xs.length 0 lo)).take (HT.gF xs.length xs.length hi - HT.gF xs.length 0 lo)
theorem uw (xs:List V) (lo hi:Option Int):(xV xs lo hi).length≤xs.length:=by
 unfold xV
 rw [List.length_take,List.length_drop]
 omega
def a0V (K:PySem.W.Frag):V→Option Int→Option Int→Hp→VK→Prop:=fun x lo hi H Q=>∃ a xs,x=.ref a∧aX K H a xs ∧
 ¬ (HT.gF xs.length 0 lo=0∧HT.gF xs.length xs.length hi=xs.length)∧∀ p,H p=none→Q (.ref p) (upd H p (.tup (xV xs lo hi)))
theorem zf:SlR X (a0V X.K):=by
 intro pins s σ H x v vl vu lo hi sl Q I rx hs pl pu h
 obtain ⟨a,xs,rfl,hx,hw,q⟩:=h
 cases rx
 obtain ⟨its,r,ht,hz⟩:=I.tuple hx
 have hlen:its.toArray.size=xs.length:=by rw [List.size_toArray];exact r.length.symm
 refine ⟨"tuple",_,PyProof.Rows.slot_tuple_getitem.lookup,ht.typeIs,?_⟩
 refine HT.qP ht hs pl pu (by rw [hlen];exact hw) ?_ (by rw [hlen];exact hz)
 rw [hlen]
 refine ⟨.ref s.heap.objs.size,_,I.laid (t':=s.toks) (o:=.tup (xV xs lo hi)) (fun b ob q=>Heap.get?_push_of_some _ q) (Nat.le_refl _) ?_,rfl,q _ (I.hok.fresh (Nat.le_refl _))⟩
 exact ⟨Nat.le_trans (uw xs lo hi) hz,_,(r.drop (HT.gF xs.length 0 lo)).take (HT.gF xs.length xs.length hi - HT.gF xs.length 0 lo),IsTup.new _ _⟩
def UC (K:PySem.W.Frag):R2:=fun x y H Q=>∃ a b xs ys,x=.ref a∧y=.ref b∧aX K H a xs∧aX K H b ys∧xs≠[]∧xs.length+ys.length≤sizeLine ∧
 (ys=[]→Q (.ref a) H)∧(ys≠[]→∀ p,H p=none→Q (.ref p) (upd H p (.tup (xs++ys))))
theorem Vals.uX {xs:List V} {us:List Value} (r:Vals xs us):us=[]↔xs=[]:=by
 cases r with
 | nil=>simp
 | cons _ _=>simp
theorem MU:ow X (binaryOp .Add) (UC X.K):=by
 intro pins s σ H x y v u Q I rx ry h
 obtain ⟨a,b,xs,ys,rfl,rfl,ha,hb,hx,hz,q1,q2⟩:=h
 cases rx
 cases ry
 obtain ⟨its,r1,p1,_⟩:=I.tuple ha
 obtain ⟨its2,r2,p2,_⟩:=I.tuple hb
 refine HT.Of p1 p2 (fun z=>hx (r1.uX.mp z)) (fun z=>⟨.ref a,H,I,rfl,q1 (r2.uX.mp z)⟩) (fun z=>?_) (by rw [← r1.length,← r2.length];exact hz)
 refine ⟨.ref s.heap.objs.size,_,I.laid (t':=s.toks) (o:=.tup (xs++ys)) (fun b ob q=>Heap.get?_push_of_some _ q) (Nat.le_refl _) ?_,rfl,q2 (fun w=>z (r2.uX.mpr w)) _ (I.hok.fresh (Nat.le_refl _))⟩
 exact ⟨by rw [List.length_append];exact hz,_,r1.append r2,IsTup.new _ _⟩
end
end L2
namespace L2
open PySem PySem.Spec PyProof.Rows
def KO (n:Nat) (i:Int):Option Nat:=if 0≤i then (if i < n then some i.toNat else none) else if -(n:Int)≤i then some (i+n).toNat else none
def xO {α:Type} (xs:List α) (i:Int):Option α:=(KO xs.length i).bind fun j=>xs[j]?
theorem EV {n:Nat} {i:Int} {j:Nat} (h:KO n i=some j):seqIndex? i n=some j∧j < n∧-(n:Int)≤i∧i < n:=by
 unfold KO at h
 by_cases h0:0≤i
 ·rw [if_pos h0] at h
  by_cases h1:i < n
  ·rw [if_pos h1] at h
   have e:i.toNat=j:=Option.some.inj h
   exact ⟨by rw [seqIndex_of h0 h1,e],by omega,by omega,h1⟩
  ·rw [if_neg h1] at h;cases h
 ·rw [if_neg h0] at h
  by_cases h1:-(n:Int)≤i
  ·rw [if_pos h1] at h
   have e:(i+n).toNat=j:=Option.some.inj h
   exact ⟨by rw [seqIndex_neg (by omega) h1,e],by omega,h1,by omega⟩
  ·rw [if_neg h1] at h;cases h
theorem Ag {α:Type} {xs:List α} {i:Int} {v:α} (h:xO xs i=some v):∃ j,seqIndex? i xs.length=some j∧xs[j]?=some v∧j < xs.length∧-(xs.length:Int)≤i∧i < xs.length:=by
 unfold xO at h
 cases e:KO xs.length i with
 | none=>rw [e] at h;cases h
 | some j =>
  rw [e] at h
  obtain ⟨h1,h2,h3,h4⟩:=EV e
  exact ⟨j,h1,h,h2,h3,h4⟩
theorem fE {α:Type} {xs:List α} {j:Nat} {v:α} (h:xs[j]?=some v):xO xs (j:Int)=some v:=by
 have hj:j < xs.length:=(List.getElem?_eq_some_iff.mp h).1
 have e:KO xs.length (j:Int)=some j:=by
  unfold KO
  rw [if_pos (by omega),if_pos (by omega)];simp
 unfold xO;rw [e];exact h
theorem LN {α:Type} (xs:List α) (v:α):xO (xs++[v]) (-1)=some v:=by
 have hl:(xs++[v]).length=xs.length+1:=by simp
 have e:KO (xs++[v]).length (-1)=some xs.length:=by
  unfold KO
  rw [hl,if_neg (by decide),if_pos (by omega)]
  congr 1
  omega
 unfold xO
 rw [e]
 show (xs++[v])[xs.length]?=some v
 simp
def Ak (b:Expr):Prop:=∀ o i,subscripted b false o i=operate [o,i] (getItem o i)
def T4 (X:Cx) (r:R2):Prop :=
 ∀ (value slice:Expr) (pins:List (Addr×Obj)) (s:Shared) (σ:St) (H:Hp) (x y:V) (v u:Value) (Q:VK),Inv X pins σ H s→RelV x v→RelV y u→r x y H Q →
  subscripted slice false v u=operate [v,u] (getItem v u)→wpAny (model X.prog X.w) X.A (subscriptTail value slice v u) (EP X pins σ Q) X.xe s
def MtR (X:Cx) (id:String) (r:V→List V→Hp→VK→Prop):Prop :=
 ∀ (pins:List (Addr×Obj)) (s:Shared) (σ:St) (H:Hp) (x:V) (xs:List V) (v:Value) (us:List Value) (Q:VK),Inv X pins σ H s→RelV x v→Vals xs us→r x xs H Q →
  wpAny (model X.prog X.w) X.A (call (.builtin id) (v::us)) (EP X pins σ Q) X.xe s
section
variable {X:Cx} {a b:Expr} {ta tb:TE} {pos:Pos}
theorem aF {r:R2} (hr:T4 X r) (ha:PE X a ta) (hb:PE X b tb) (hs:Ak b):PE X (.Subscript a b pos) (Ue r ta tb):=by
 intro pins s σ H Q I h
 exact Subscript_ (Sx ha hb I h fun v u s2 x y H2 I2 rx ry q=>hr a b pins s2 σ H2 x y v u Q I2 rx ry q (hs _ _))
def UA (K:PySem.W.Frag):R2:=fun x y H Q=>∃ p xs i v,x=.ref p∧y=.int i∧bC K H p xs∧xO xs i=some v∧Q v H
def Uz (K:PySem.W.Frag):R2:=fun x y H Q=>∃ p xs i v,x=.ref p∧y=.int i∧aX K H p xs∧xO xs i=some v∧Q v H
def a0Y:R2:=fun x y H Q=>∃ z i c,x=.str z∧y=.int i∧z.length≤sizeLine∧xO z.cps.toList i=some c∧Q (.str ⟨#[c]⟩) H
theorem bM:T4 X (UA X.K):=by
 intro value slice pins s σ H x y v u Q I rx ry h hs
 obtain ⟨p,xs,i,z,rfl,rfl,hq,he,q⟩:=h
 cases rx
 obtain ⟨t,rfl⟩:=ry
 obtain ⟨its,r,pl,hz⟩:=I.list hq
 obtain ⟨j,h1,h2,h3,h4,h5⟩:=Ag he
 obtain ⟨w,ew,rw'⟩:=r.get h2
 have hl:=r.length
 have hn:=sG
 have fin:EP X pins σ Q w s:=⟨z,H,I,rw',q⟩
 by_cases h0:0≤i
 ·have hj:i.toNat=j:=by
   rw [seqIndex_of h0 h5] at h1
   exact Option.some.inj h1
  exact item_listR pl.isList h0 (by omega) (by rw [hj];simpa using ew) fin hs
 ·have hj:(i+(its.toArray.size:Int)).toNat=j:=by
   rw [seqIndex_neg (by omega) h4] at h1
   rw [List.size_toArray,← hl]
   exact Option.some.inj h1
  exact subscriptTail_builtinR (x:=w) pl.isList.typeIs slot_list_getitem.lookup
   (wpAny_getItem_list_neg (Q:=fun r s'=>r=w∧EP X pins σ Q r s') pl.isList (by omega) (by rw [List.size_toArray] <;> omega) (by omega) (by rw [hj];simpa using ew) ⟨rfl,fin⟩) hs
theorem aK:T4 X (Uz X.K):=by
 intro value slice pins s σ H x y v u Q I rx ry h hs
 obtain ⟨p,xs,i,z,rfl,rfl,hq,he,q⟩:=h
 cases rx
 obtain ⟨t,rfl⟩:=ry
 obtain ⟨its,r,pl,hz⟩:=I.tuple hq
 obtain ⟨j,h1,h2,h3,h4,h5⟩:=Ag he
 obtain ⟨w,ew,rw'⟩:=r.get h2
 have hl:=r.length
 have hn:=sG
 have fin:EP X pins σ Q w s:=⟨z,H,I,rw',q⟩
 exact subscriptTail_builtinR (x:=w) pl.typeIs slot_tuple_getitem.lookup
  (getItem_tuple (j:=j) (Q:=fun r s'=>r=w∧EP X pins σ Q r s') pl (by omega) (by omega) (by rw [List.size_toArray,← hl];exact h1) (by simpa using ew) ⟨rfl,fin⟩) hs
theorem zM:T4 X a0Y:=by
 intro value slice pins s σ H x y v u Q I rx ry h hs
 obtain ⟨z,i,c,rfl,rfl,hz,he,q⟩:=h
 obtain ⟨t,rfl⟩:=rx
 obtain ⟨t',rfl⟩:=ry
 obtain ⟨j,h1,h2,h3,h4,h5⟩:=Ag he
 have hl:z.cps.toList.length=z.length:=by simp [Str.length]
 rw [hl] at h1 h4 h5
 have hn:=sG
 exact tail_any (typeIs_str s z t) slot_str_getitem.lookup (getItem_str (c:=c) (by
  have e1:decide (i < -(2 ^ 63:Int))=false:=decide_eq_false (by omega)
  have e2:decide (i ≥ 2 ^ 63)=false:=decide_eq_false (by omega)
  rw [e1,e2,Bool.or_false]) (by rw [h1];simpa using h2) ⟨.str ⟨#[c]⟩,H,I.tok _,⟨_,rfl⟩,q⟩) hs
theorem Dc (its:List Value) (n j:Nat) (u:Value):Obj.mapSeq (·.setIfInBounds j u) { cls:=.type "list",data:=.seq its.toArray n }={ cls:=.type "list",data:=.seq (its.set j u).toArray n }:=by
 simp [Obj.mapSeq]
theorem Inv.lst {pins:List (Addr×Obj)} {σ:St} {H:Hp} {s:Shared} {p:Addr} {xs:List V} (I:Inv X pins σ H s) (h:H p=some (.lst xs)) :
  ∃ (its:List Value) (n:Nat),Vals xs its∧s.heap.get? p=some { cls:=.type "list",data:=.seq its.toArray n }∧xs.length≤sizeLine:=by
 obtain ⟨z,its,n,r,e⟩:=I.hok p _ h
 exact ⟨its,n,r,e,z⟩
theorem Inv.Q3 {pins:List (Addr×Obj)} {σ:St} {H:Hp} {s:Shared} {p:Addr} {xs ys:List V} {its its':List Value} {n n':Nat} {f:Obj→Obj} (I:Inv X pins σ H s) (h:H p=some (.lst xs))
  (ho:s.heap.get? p=some { cls:=.type "list",data:=.seq its.toArray n }) (hf:f { cls:=.type "list",data:=.seq its.toArray n }={ cls:=.type "list",data:=.seq its'.toArray n' }) (r:Vals ys its') (hz:ys.length≤sizeLine) (t:Nat) :
  Inv X pins σ (upd H p (.lst ys)) { s with heap:=s.heap.update p f,toks:=t }:=by
 have e:(s.heap.update p f).get? p=some { cls:=.type "list",data:=.seq its'.toArray n' }:=by
  rw [Heap.get?_update_self f ho (by rw [hf] <;> rfl),hf]
 refine I.write (x:=p) (e:=p) (by rw [h];trivial) (.inl rfl) (fun b u hb q=>(Heap.get?_update_other _ _ (Ne.symm hb)).trans q) ⟨_,e⟩ ?_
 exact ⟨hz,its',n',r,e⟩
def Uy:V→V→V→Hp→(Hp→Prop)→Prop:=fun o i v H Q=>∃ p xs k j,o=.ref p∧i=.int k∧H p=some (.lst xs)∧KO xs.length k=some j∧Q (upd H p (.lst (xs.set j v)))
theorem set_list:SH X Uy:=by
 intro pins s σ H o i v ov iv u Q I ro ri rv h
 obtain ⟨p,xs,k,j,rfl,rfl,hp,hj,q⟩:=h
 cases ro
 obtain ⟨t,rfl⟩:=ri
 obtain ⟨its,n,r,ho,hz⟩:=I.lst hp
 obtain ⟨h1,h2,h3,h4⟩:=EV hj
 have hl:=r.length
 have hn:=sG
 have I':Inv X pins σ (upd H p (.lst (xs.set j v))) { s with heap:=s.heap.update p (Obj.mapSeq (·.setIfInBounds j u)) } :=
  I.Q3 hp ho (Dc its n j u) (r.set rv j) (by rw [List.length_set];exact hz) s.toks
 by_cases h0:0≤k
 ·have hk:k.toNat=j:=by
   rw [seqIndex_of h0 h4] at h1
   exact Option.some.inj h1
  exact PySem.W.ki_setAt ho h0 (by omega) (by rw [List.size_toArray,← hl];exact h4) (by rw [hk];exact ⟨_,I',q⟩)
 ·have hk:(k+(its.toArray.size:Int)).toNat=j:=by
   rw [seqIndex_neg (by omega) h3] at h1
   rw [List.size_toArray,← hl]
   exact Option.some.inj h1
  exact PySem.W.ki_setBack ho (by omega) (by rw [List.size_toArray,← hl];exact h3) (by omega) (by rw [hk];exact ⟨_,I',q⟩)
theorem ze (lo hi:Option Int) (n:Nat):(sliceBounds lo hi none n).1=((HT.gF n 0 lo:Nat):Int)∧(sliceBounds lo hi none n).2.1=((HT.gF n n hi:Nat):Int)∧(sliceBounds lo hi none n).2.2=1:=by
 refine ⟨?_,?_,rfl⟩
 ·cases lo with
  | none=>simp [sliceBounds,HT.gF]
  | some i =>
   simp only [sliceBounds,HT.gF,Option.getD_none,show (1:Int) > 0 by decide,if_true]
   by_cases h:i < 0
   ·simp only [h,if_true] <;> omega
   ·simp only [h,if_false] <;> omega
 ·cases hi with
  | none=>simp [sliceBounds,HT.gF]
  | some i =>
   simp only [sliceBounds,HT.gF,Option.getD_none,show (1:Int) > 0 by decide,if_true]
   by_cases h:i < 0
   ·simp only [h,if_true] <;> omega
   ·simp only [h,if_false] <;> omega
theorem xR (its:List Value) (lo hi:Option Int):slicePick its.toArray lo hi none=((its.drop (HT.gF its.length 0 lo)).take (HT.gF its.length its.length hi - HT.gF its.length 0 lo)).toArray:=by
 obtain ⟨h1,h2,h3⟩:=ze lo hi its.toArray.size
 unfold slicePick
 rw [h1,h2,h3]
 simp only [sliceRange_one,pick_run,List.size_toArray] <;> rfl
def a0W (K:PySem.W.Frag):V→Option Int→Option Int→Hp→VK→Prop:=fun x lo hi H Q=>∃ a xs,x=.ref a∧bC K H a xs∧∀ p,H p=none→Q (.ref p) (upd H p (.lst (xV xs lo hi)))
theorem zg:SlR X (a0W X.K):=by
 intro pins s σ H x v vl vu lo hi sl Q I rx hs pl pu h
 obtain ⟨a,xs,rfl,hx,q⟩:=h
 cases rx
 obtain ⟨its,r,ht,hz⟩:=I.list hx
 have hlen:=r.length
 refine ⟨"list",_,slot_list_getitem.lookup,ht.isList.typeIs,?_⟩
 refine wpAny_getItem_list_slice ht.isList hs pl pu .none (by simp) ?_ (by rw [List.size_toArray] <;> omega)
 rw [xR,← hlen]
 refine ⟨.ref s.heap.objs.size,_,I.laid (t':=s.toks) (o:=.lst (xV xs lo hi)) (fun b ob q=>Heap.get?_push_of_some _ q) (Nat.le_refl _) ?_,rfl,q _ (I.hok.fresh (Nat.le_refl _))⟩
 exact ⟨Nat.le_trans (uw xs lo hi) hz,_,0,(r.drop (HT.gF xs.length 0 lo)).take (HT.gF xs.length xs.length hi - HT.gF xs.length 0 lo),Heap.get?_push_size _ rfl⟩
def j4:V→Bool
 | .fL=>true
 | .bl _=>true
 | .int _=>true
 | .str _=>true
 | _=>false
def E8:V→V→Bool
 | .fL,.fL=>true
 | .bl a,.bl b=>a == b
 | .bl a,.int b=>(if a then 1 else 0) == b
 | .int a,.bl b=>a == (if b then 1 else 0)
 | .int a,.int b=>a == b
 | .str a,.str b=>a == b
 | _,_=>false
theorem Lx {A:Around} {s:Shared} {y x:V} {u v:Value} (ry:RelV y u) (rx:RelV x v) (fy:j4 y=true) (fx:j4 x=true):SeqAt.EqAt A s u v (E8 y x):=by
 cases y with
 | fL =>
  cases ry
  cases x with
  | fL=>cases rx;exact SeqAt.EqAt.same _
  | bl b=>cases rx;exact SeqAt.EqAt.none_bool b
  | int b=>obtain ⟨t,rfl⟩:=rx;exact SeqAt.EqAt.none_int b t
  | str b=>obtain ⟨t,rfl⟩:=rx;exact SeqAt.EqAt.none_str b t
  | _=>exact absurd (show false=true from fx) Bool.false_ne_true
 | bl a =>
  cases ry
  cases x with
  | fL=>cases rx;exact SeqAt.EqAt.bool_none a
  | bl b=>cases rx;exact SeqAt.EqAt.bool_bool a b
  | int b=>obtain ⟨t,rfl⟩:=rx;exact SeqAt.EqAt.bool_int a b t
  | str b=>obtain ⟨t,rfl⟩:=rx;exact SeqAt.EqAt.bool_str a b t
  | _=>exact absurd (show false=true from fx) Bool.false_ne_true
 | int a =>
  obtain ⟨t',rfl⟩:=ry
  cases x with
  | fL=>cases rx;exact SeqAt.EqAt.int_none a t'
  | bl b=>cases rx;exact SeqAt.EqAt.int_bool a t' b
  | int b=>obtain ⟨t,rfl⟩:=rx;exact SeqAt.EqAt.int_int a t' b t
  | str b=>obtain ⟨t,rfl⟩:=rx;exact SeqAt.EqAt.int_str a t' b t
  | _=>exact absurd (show false=true from fx) Bool.false_ne_true
 | str a =>
  obtain ⟨t',rfl⟩:=ry
  cases x with
  | fL=>cases rx;exact SeqAt.EqAt.str_none a t'
  | bl b=>cases rx;exact SeqAt.EqAt.str_bool a t' b
  | int b=>obtain ⟨t,rfl⟩:=rx;exact SeqAt.EqAt.str_int a t' b t
  | str b=>obtain ⟨t,rfl⟩:=rx;exact SeqAt.EqAt.str_str a t' b t
  | _=>exact absurd (show false=true from fx) Bool.false_ne_true
 | _=>exact absurd (show false=true from fy) Bool.false_ne_true
def DB (x:V) (u:Value):Bool:=match u with
 | .none=>E8 .fL x
 | .bool b=>E8 (.bl b) x
 | .int i _=>E8 (.int i) x
 | .str z _=>E8 (.str z) x
 | _=>false
theorem Lw {x y:V} {u:Value} (r:RelV y u) (f:j4 y=true):DB x u=E8 y x:=by
 cases y with
 | fL=>cases r;rfl
 | bl b=>cases r;rfl
 | int i=>obtain ⟨t,rfl⟩:=r;rfl
 | str z=>obtain ⟨t,rfl⟩:=r;rfl
 | _=>exact absurd (show false=true from f) Bool.false_ne_true
theorem qX {x:V}:∀ {xs:List V} {us:List Value},Vals xs us→xs.all j4=true→us.any (DB x)=xs.any fun y=>E8 y x
 | _,_,.nil,_=>rfl
 | y::xs,u::us,.cons r t,f=>by
  rw [List.all_cons,Bool.and_eq_true] at f
  rw [List.any_cons,List.any_cons,Lw r f.1,qX t f.2]
theorem mQ {A:Around} {s:Shared} {x:V} {v:Value} (rx:RelV x v) (fx:j4 x=true):∀ {xs:List V} {us:List Value},Vals xs us→xs.all j4=true→∀ u∈us,SeqAt.EqAt A s u v (DB x u)
 | _,_,.nil,_=>fun u hu=>by cases hu
 | y::xs,u::us,.cons r t,f=>fun u' hu=>by
  rw [List.all_cons,Bool.and_eq_true] at f
  rcases List.mem_cons.mp hu with rfl | hu
  ·rw [Lw r f.1];exact Lx r rx f.1 fx
  ·exact mQ rx fx t f.2 u' hu
def u9 (x:V) (xs:List V):Bool:=xs.any fun y=>E8 y x
def rIn (K:PySem.W.Frag) (neg:Bool):R2:=fun x y H Q=>∃ p xs,y=.ref p∧(bC K H p xs∨aX K H p xs)∧j4 x=true∧xs.all j4=true∧Q (.bl (if neg then !u9 x xs else u9 x xs)) H
theorem rX:ow X (compareOp .In) (rIn X.K false):=by
 intro pins s σ H x y v u Q I rx ry h
 obtain ⟨p,xs,rfl,hq,fx,fs,q⟩:=h
 cases ry
 rcases hq with hq | hq
 ·obtain ⟨its,r,pl,hz⟩:=I.list hq
  refine SeqAt.in_listAt (DB x) pl.isList (fun w hw=>mQ rx fx r fs w (by simpa using hw)) ⟨.bl _,H,I,rfl,?_⟩
  rw [show its.toArray.any (DB x)=its.any (DB x) by simp,qX r fs]
  exact q
 ·obtain ⟨its,r,pl,hz⟩:=I.tuple hq
  refine SeqAt.in_tupleAt (DB x) pl (fun w hw=>mQ rx fx r fs w (by simpa using hw)) ⟨.bl _,H,I,rfl,?_⟩
  rw [show its.toArray.any (DB x)=its.any (DB x) by simp,qX r fs]
  exact q
theorem qC:ow X (compareOp .NotIn) (rIn X.K true):=by
 intro pins s σ H x y v u Q I rx ry h
 obtain ⟨p,xs,rfl,hq,fx,fs,q⟩:=h
 cases ry
 rcases hq with hq | hq
 ·obtain ⟨its,r,pl,hz⟩:=I.list hq
  refine SeqAt.notIn_listAt (DB x) pl.isList (fun w hw=>mQ rx fx r fs w (by simpa using hw)) ⟨.bl _,H,I,rfl,?_⟩
  rw [show its.toArray.any (DB x)=its.any (DB x) by simp,qX r fs]
  exact q
 ·obtain ⟨its,r,pl,hz⟩:=I.tuple hq
  refine SeqAt.notIn_tupleAt (DB x) pl (fun w hw=>mQ rx fx r fs w (by simpa using hw)) ⟨.bl _,H,I,rfl,?_⟩
  rw [show its.toArray.any (DB x)=its.any (DB x) by simp,qX r fs]
  exact q
theorem bP:j9 X (.builtin "len") (fun xs H Q=>∃ p ys,xs=[.ref p]∧(bC X.K H p ys∨aX X.K H p ys)∧Q (.int ys.length) H):=by
 intro pins s σ H xs us Q I r h
 obtain ⟨p,ys,rfl,hq,q⟩:=h
 obtain ⟨u,rfl,rx⟩:=vals1 r
 cases rx
 have hn:=sG
 rcases hq with hq | hq
 ·obtain ⟨its,r',pl,hz⟩:=I.list hq
  have hlen:=r'.length
  exact Calls.call_len_list pl.isList (by simp only [List.size_toArray] <;> omega) ⟨.int ys.length,H,I.tok _,⟨s.toks+1,by rw [List.size_toArray,hlen]⟩,q⟩
 ·obtain ⟨its,r',pl,hz⟩:=I.tuple hq
  have hlen:=r'.length
  exact len_tuple pl (by simp only [List.size_toArray] <;> omega) ⟨.int ys.length,H,I.tok _,⟨s.toks+1,by rw [List.size_toArray,hlen]⟩,q⟩
theorem Ad:j9 X (.type "list") (fun xs H Q=>∃ p ys,xs=[.ref p]∧(bC X.K H p ys∨aX X.K H p ys)∧∀ l,H l=none→Q (.ref l) (upd H l (.lst ys))):=by
 intro pins s σ H xs us Q I r h
 obtain ⟨p,ys,rfl,hq,q⟩:=h
 obtain ⟨u,rfl,rx⟩:=vals1 r
 cases rx
 have fin:∀ (its:List Value),Vals ys its→ys.length≤sizeLine→∀ (h':Heap) (c':Nat),(∀ b o',s.heap.get? b=some o'→h'.get? b=some o') →
   h'.get? s.heap.objs.size=some { cls:=.type "list",dict:=none,data:=.seq its.toArray c',slots:=#[] }→EP X pins σ Q (.ref s.heap.objs.size) { s with heap:=h' }:=fun its r' hz h' c' kp e =>
  ⟨.ref s.heap.objs.size,_,I.laid (t':=s.toks) kp (Nat.le_refl _) (show cX X.prog X.w _ h' _ (.lst ys) from ⟨hz,its,c',r',e⟩),rfl,q _ (I.hok.fresh (Nat.le_refl _))⟩
 rcases hq with hq | hq
 ·obtain ⟨its,r',pl,hz⟩:=I.list hq
  have hlen:=r'.length
  obtain ⟨o,ho,hc,n,hd⟩:=pl.isList
  exact call_list_seq p (.inl rfl) ho hc hd (fun h' c' kp e=>fin its r' hz h' c' kp e) (by simp only [List.size_toArray] <;> omega)
 ·obtain ⟨its,r',pl,hz⟩:=I.tuple hq
  have hlen:=r'.length
  obtain ⟨o,ho,hc,n,hd⟩:=pl
  exact call_list_seq p (.inr rfl) ho hc hd (fun h' c' kp e=>fin its r' hz h' c' kp e) (by simp only [List.size_toArray] <;> omega)
theorem bN:j9 X (.type "tuple") (fun xs H Q=>∃ p ys,xs=[.ref p]∧((bC X.K H p ys∧∀ l,H l=none→Q (.ref l) (upd H l (.tup ys)))∨(aX X.K H p ys∧Q (.ref p) H))):=by
 intro pins s σ H xs us Q I r h
 obtain ⟨p,ys,rfl,h⟩:=h
 obtain ⟨u,rfl,rx⟩:=vals1 r
 cases rx
 rcases h with ⟨hq,q⟩ | ⟨hq,q⟩
 ·obtain ⟨its,r',pl,hz⟩:=I.list hq
  have hlen:=r'.length
  refine call_tuple_list pl.isList (fun h' kp=>?_) (by simp only [List.size_toArray] <;> omega)
  have I1:Inv X pins σ H { s with heap:=h' }:=I.kept (t':=s.toks) kp
  have I2:Inv X pins σ (upd H h'.objs.size (.tup ys)) { s with heap:=h'.push { cls:=.type "tuple",data:=.seq its.toArray } } :=
   I1.laid (t':=s.toks) (fun b o e=>Heap.get?_push_of_some _ e) (Nat.le_refl _) (show cX X.prog X.w _ _ _ (.tup ys) from ⟨hz,its,r',IsTup.new _ _⟩)
  exact ⟨.ref h'.objs.size,_,I2,rfl,q _ (I1.hok.fresh (Nat.le_refl _))⟩
 ·obtain ⟨its,r',pl,hz⟩:=I.tuple hq
  exact call_tuple_same pl ⟨.ref p,H,I,rfl,q⟩
def tyV (K:PySem.W.Frag) (T:String) (x:V) (H:Hp):Prop:=match x with
 | .str _=>T="str"
 | .int _=>T="int"
 | .ref p=>(T="list"∧∃ xs,bC K H p xs)∨(T="tuple"∧∃ o,K.lookup p=some o∧o.cls=.type "tuple"∧o.dict=none) ∨
   (T="dict"∧((∃ kvs,H p=some (.dK kvs))∨∃ kvs,H p=some (.dT kvs)))∨(T="set"∧∃ S n,H p=some (.set S n))
 | _=>False
theorem P8 {pins:List (Addr×Obj)} {σ:St} {H:Hp} {s:Shared} {T:String} {x:V} {v:Value} (I:Inv X pins σ H s) (r:RelV x v) (ty:tyV X.K T x H) :
  s.TypeIs v T∧∀ a,v=.ref a→∃ ob,s.heap.get? a=some ob∧ob.dict=none:=by
 cases x with
 | str z =>
  obtain ⟨t,rfl⟩:=r
  cases (show T="str" from ty)
  exact ⟨typeIs_str s z t,fun _ e=>nomatch e⟩
 | int i =>
  obtain ⟨t,rfl⟩:=r
  cases (show T="int" from ty)
  exact ⟨typeIs_int s i t,fun _ e=>nomatch e⟩
 | ref p =>
  cases r
  rcases ty with ⟨rfl,xs,hq⟩ | ⟨rfl,o,hk,hc,hd⟩ | ⟨rfl,hk⟩ | ⟨rfl,S,n,hk⟩
  ·obtain ⟨its,_,pl,_⟩:=I.list hq
   refine ⟨pl.isList.typeIs,fun a e=>?_⟩
   cases e
   obtain ⟨o,n,e,c,hd,_⟩:=pl
   exact ⟨o,e,hd⟩
  ·refine ⟨⟨o,I.p8 p o hk,hc⟩,fun a e=>?_⟩
   cases e
   exact ⟨o,I.p8 _ o hk,hd⟩
  ·have z:∃ o,s.heap.get? p=some o∧o.ExactDict:=by
    rcases hk with ⟨kvs,hk⟩ | ⟨kvs,hk⟩
    ·obtain ⟨_,_,_,_,o,_,_,e,ex,_⟩:=I.hok p _ hk
     exact ⟨o,e,ex⟩
    ·obtain ⟨_,_,_,_,o,_,_,e,ex,_⟩:=I.hok p _ hk
     exact ⟨o,e,ex⟩
   obtain ⟨o,e,ex⟩:=z
   refine ⟨⟨o,e,ex.1⟩,fun a e2=>?_⟩
   cases e2
   exact ⟨o,e,ex.2.1⟩
  ·obtain ⟨o,_,_,_,e,ex,_⟩:=I.hok p _ hk
   refine ⟨⟨o,e,ex.1⟩,fun a e2=>?_⟩
   cases e2
   exact ⟨o,e,ex.2.1⟩
 | _=>exact False.elim ty
def tBM (K:PySem.W.Frag) (T:String) (r:V→List V→Hp→VK→Prop) (to:TE) (t:TA):TE:=fun σ H Q=>to σ H fun x H1=>tyV K T x H1∧t σ H1 fun xs H2=>r x xs H2 Q
variable {o e:Expr} {es:List Expr} {to:TE} {t:TA} {name:Str} {apos cpos:Pos} {T id:String} {r:V→List V→Hp→VK→Prop}
theorem jz (pa:PlainAttrs T) (slot:Slot T name id) (hty:typeOf (.builtin id)=pure (.type "method_descriptor")) (hm:MtR X id r) (ho:PE X o to) (ha:PA X (e::es) t)
  (hbase:attributeBase o name X.env (eval o X.env)=eval o X.env:=by rfl)
  (hfew:((backTo cpos (starEach (e::es) X.env)).all (fun x=>!x.1) && (backToKw cpos (keywordEach [] X.env)).all (fun x=>x.1.isSome)
   && decide ((e::es).length+([]:List Keyword).length+(if ([]:List Keyword).isEmpty then 0 else 1) < 30))=true:=by rfl)
  (hline:(apos.endLine == cpos.line)=true:=by rfl) (hs:starEach (e::es) X.env=(false,eval e X.env)::starEach es X.env:=by rfl) (hplain:(backTo cpos (starEach es X.env)).any (·.1)=false:=by rfl) :
  PE X (.Call (.Attribute o name apos) (e::es) [] cpos) (tBM X.K T r to t):=by
 intro pins s σ H Q I h
 refine wpAny_Call_method_late hbase hfew hline rfl (cS (ho pins s σ H _ I h) fun v s1 ⟨x,H1,I1,r1,ty,q1⟩=>?_)
 obtain ⟨h1,h2⟩:=P8 I1 r1 ty
 refine ⟨T,id,pa,slot,hty,h1,h2,?_⟩
 have hA:=ha cpos pins s1 σ H1 _ I1 q1
 rw [hs] at hA ⊢
 refine Calls.callWith_builtin (by show (false || (backTo cpos (starEach es X.env)).any (·.1))=false;rw [hplain] <;> rfl) (Calls.evalArgs_plain ?_)
 exact cS hA fun us s2 ⟨vs,H2,I2,r2,q2⟩=>hm pins s2 σ H2 x vs v us Q I2 r1 r2 q2
end
end L2
namespace L2
open PySem PySem.Spec PyProof.Rows
def MtM (X:Cx) (id:String) (r:V→List V→Hp→VK→Prop):Prop :=
 ∀ (pins:List (Addr×Obj)) (s:Shared) (σ:St) (H:Hp) (x:V) (xs:List V) (v:Value) (us:List Value) (Q:VK),Inv X pins σ H s→RelV x v→Vals xs us→r x xs H Q →
  wpAny (model X.prog X.w) X.A (call (.builtin id) (v::us)) (EP X pins σ Q) X.xe s
theorem Vals.one:∀ {x:V} {us:List Value},Vals [x] us→∃ u,us=[u]∧RelV x u
 | _,_,.cons r .nil=>⟨_,rfl,r⟩
theorem Vals.rep {xs:List V} {us:List Value} (h:Vals xs us):∀ k:Nat,Vals (List.replicate k xs).flatten (List.replicate k us).flatten
 | 0=>.nil
 | k+1=>by
  rw [List.replicate_succ,List.replicate_succ,List.flatten_cons,List.flatten_cons]
  exact Vals.append h (Vals.rep h k)
theorem foldl_rep (its:List Value):∀ (k:Nat) (acc:List Value),
  List.foldl (fun x1 x2=>x1++x2) acc.toArray (List.replicate k its.toArray)=(acc++(List.replicate k its).flatten).toArray
 | 0,acc=>by simp
 | k+1,acc=>by
  have e:acc.toArray++its.toArray=(acc++its).toArray:=by simp
  have e2:(acc++its)++(List.replicate k its).flatten=acc++(List.replicate (k+1) its).flatten:=by
   rw [List.replicate_succ,List.flatten_cons,List.append_assoc]
  rw [← e2,← foldl_rep its k (acc++its),← e,List.replicate_succ,List.foldl_cons]
section
variable {X:Cx} {pins:List (Addr×Obj)} {σ:St} {H:Hp} {s:Shared} {l b:Addr} {xs ys zs:List V}
theorem Inv.Q4 {its its':List Value} {n:Nat} {f:Array Value→Array Value} {t':Nat} (I:Inv X pins σ H s) (hH:H l=some (.lst xs))
  (e:s.heap.get? l=some { cls:=.type "list",data:=.seq its.toArray n }) (hf:f its.toArray=its'.toArray) (hv:Vals ys its') (hz:ys.length≤sizeLine) :
  Inv X pins σ (upd H l (.lst ys)) { s with heap:=s.heap.update l (Obj.mapSeq f),toks:=t' }:=by
 have q:=PySem.IsL.update e f
 rw [hf] at q
 refine I.write (x:=l) (e:=l) (by rw [hH];exact trivial) (.inl rfl) (fun b' u hb hu=>(Heap.get?_update_other s.heap (Obj.mapSeq f) (Ne.symm hb)).trans hu) ⟨_,q⟩ ?_
 exact ⟨hz,its',_,hv,q⟩
theorem Inv.UZ {its:List Value} {t':Nat} (I:Inv X pins σ H s) (hv:Vals ys its) (hz:ys.length≤sizeLine) :
  Inv X pins σ (upd H s.heap.objs.size (.lst ys)) { s with heap:=s.heap.push { cls:=.type "list",data:=.seq its.toArray },toks:=t' } :=
 I.laid (fun _ _ q=>Heap.get?_push_of_some _ q) (Nat.le_refl _) ⟨hz,its,0,hv,Heap.get?_push_size _ rfl⟩
theorem Inv.fresh (I:Inv X pins σ H s):H s.heap.objs.size=none:=I.hok.fresh (Nat.le_refl _)
theorem Inv.Dg (I:Inv X pins σ H s) (hH:H l=some (.lst xs)):xs.length≤sizeLine∧∃ (its:List Value) (n:Nat),Vals xs its∧xs.length=its.length∧s.heap.get? l=some { cls:=.type "list",data:=.seq its.toArray n }:=by
 obtain ⟨z,its,n,r,e⟩:=I.hok l _ hH
 exact ⟨z,its,n,r,r.length,e⟩
theorem wj {n:Nat} (h:n≤sizeLine):Builtin.List.listTooLong n=false:=by
 unfold Builtin.List.listTooLong
 exact decide_eq_false (by omega)
end
section
variable {X:Cx}
def MF:V→List V→Hp→VK→Prop:=fun x vs H Q=>∃ l xs y,x=.ref l∧vs=[y]∧H l=some (.lst xs)∧xs.length < sizeLine∧Q .fL (upd H l (.lst (xs++[y])))
theorem dZ:MtM X "list.append" MF:=by
 intro pins s σ H x vs v us Q I rx rv h
 obtain ⟨l,xs,y,rfl,rfl,hH,hz,q⟩:=h
 cases rx
 obtain ⟨u,rfl,ru⟩:=rv.one
 obtain ⟨z,its,n,r,hl,e⟩:=I.Dg hH
 refine call_meets F.slot_list_append ⟨_,e,rfl⟩ F.entry_list_append (F.args_list_append_2 _ _) (PySem.list_append l its.toArray n u (by rw [List.size_toArray];omega)) ⟨e,?_⟩
 refine ⟨.fL,_,I.Q4 (its':=its++[u]) hH e (by simp) (r.append (.cons ru .nil)) ?_,rfl,q⟩
 rw [List.length_append,List.length_singleton]
 omega
def MD:V→List V→Hp→VK→Prop:=fun x vs H Q=>∃ l b xs zs,x=.ref l∧vs=[.ref b]∧H l=some (.lst xs)∧H b=some (.lst zs)∧xs.length+zs.length≤sizeLine∧Q .fL (upd H l (.lst (xs++zs)))
theorem ym:MtM X "list.extend" MD:=by
 intro pins s σ H x vs v us Q I rx rv h
 obtain ⟨l,b,xs,zs,rfl,rfl,hH,hB,hz,q⟩:=h
 cases rx
 obtain ⟨u,rfl,ru⟩:=rv.one
 cases ru
 obtain ⟨z,its,n,r,hl,e⟩:=I.Dg hH
 obtain ⟨z2,its2,n2,r2,hl2,e2⟩:=I.Dg hB
 have hsz:its.toArray.size+its2.toArray.size≤sizeLine:=by rw [List.size_toArray,List.size_toArray];omega
 have By:¬ (!its.toArray.isEmpty && Builtin.List.listTooLong (its.toArray.size+its2.toArray.size))=true:=by
  rw [wj hsz,Bool.and_false]
  exact Bool.false_ne_true
 refine call_meets F.slot_list_extend ⟨_,e,rfl⟩ F.entry_list_extend (F.args_list_extend_2 _ _)
  (AutoSeq1.list_extend_list_list_0 l its.toArray n b its2.toArray n2 By (by rw [List.size_toArray];omega) (by omega)) ⟨e,e2,?_⟩
 refine ⟨.fL,_,I.Q4 (its':=its++its2) hH e (by simp) (r.append r2) ?_,rfl,q⟩
 rw [List.length_append]
 omega
def a01:R2:=fun x y H Q=>∃ l b xs zs,x=.ref l∧y=.ref b∧H l=some (.lst xs)∧H b=some (.lst zs)∧xs.length+zs.length≤sizeLine∧∀ p,H p=none→Q (.ref p) (upd H p (.lst (xs++zs)))
theorem fS:ow X (binaryOp .Add) a01:=by
 intro pins s σ H x y v u Q I rx ry h
 obtain ⟨l,b,xs,zs,rfl,rfl,hH,hB,hz,q⟩:=h
 cases rx
 cases ry
 obtain ⟨z,its,n,r,hl,e⟩:=I.Dg hH
 obtain ⟨z2,its2,n2,r2,hl2,e2⟩:=I.Dg hB
 refine PySem.P.add_list e e2 ?_ (by rw [List.size_toArray,List.size_toArray];omega)
 have ea:its.toArray++its2.toArray=(its++its2).toArray:=by simp
 rw [ea]
 exact ⟨.ref _,_,I.UZ (t':=s.toks) (r.append r2) (by rw [List.length_append];omega),rfl,q _ I.fresh⟩
def a0X:R2:=fun x y H Q=>∃ l k xs,x=.ref l∧y=.int k∧H l=some (.lst xs)∧-(2 ^ 63)≤k∧k < 2 ^ 63∧xs.length*k.toNat≤sizeLine ∧
 ∀ p,H p=none→Q (.ref p) (upd H p (.lst (List.replicate k.toNat xs).flatten))
theorem len_rep {α:Type} (xs:List α) (k:Nat):(List.replicate k xs).flatten.length=k*xs.length:=by
 induction k with
 | zero=>simp
 | succ k ih=>rw [List.replicate_succ,List.flatten_cons,List.length_append,ih,Nat.succ_mul,Nat.add_comm]
theorem CZ:ow X (binaryOp .Mult) a0X:=by
 intro pins s σ H x y v u Q I rx ry h
 obtain ⟨l,k,xs,rfl,rfl,hH,h1,h2,hz,q⟩:=h
 cases rx
 obtain ⟨t,rfl⟩:=ry
 obtain ⟨z,its,n,r,hl,e⟩:=I.Dg hH
 have hlen:its.toArray.size*k.toNat≤sizeLine:=by rw [List.size_toArray,← hl];exact hz
 have hcap:¬ its.toArray.size*k.toNat > (2 ^ 63 - 1) / 8:=by
  have:(sizeLine:Nat)≤(2 ^ 63 - 1) / 8:=by decide
  omega
 have hfit:¬ (!Builtin.List.listFitsIndex k)=true:=by
  rw [fitsIndex_both h1 h2]
  exact Bool.false_ne_true
 have By:¬ Builtin.List.listTooLong (its.toArray.size*k.toNat)=true:=by
  rw [wj hlen]
  exact Bool.false_ne_true
 have hnew:List.foldl (fun x1 x2=>x1++x2) #[] (List.replicate (if its.toArray.isEmpty=true then 0 else k.toNat) its.toArray)=(List.replicate k.toNat its).flatten.toArray:=by
  have f0:∀ m:Nat,List.foldl (fun x1 x2=>x1++x2) #[] (List.replicate m its.toArray)=(List.replicate m its).flatten.toArray:=fun m=>by
   have:=foldl_rep its m []
   rw [List.nil_append] at this
   exact this
  rw [f0]
  cases its with
  | nil=>simp
  | cons a r'=>rw [if_neg (by simp)]
 refine wpAny_binaryOp_repeat_ref (T:="list") (U:="int") (by decide) ⟨_,e,rfl⟩ (fun s'=>typeIs_int s' k t) noFill_list_mul F.fills_int_mul F.slot_int_rmul repeat_list F.slot_int_index.lookup
  (call_meets F.slot_int_rmul (typeIs_int s k t) F.entry_int_rmul (F.args_int_rmul_2 _ _) (int___rmul___int_list k t l its.toArray n)
   ⟨e,rfl,⟨_,e,rfl⟩,call_meets F.slot_list_mul ⟨_,e,rfl⟩ F.entry_list_mul (F.args_list_mul_2 _ _) (AutoListH.list___mul___list_int_3 l its.toArray n k t hfit hcap By) ⟨e,?_⟩⟩)
 rw [hnew]
 exact ⟨.ref _,_,I.UZ (t':=s.toks) (r.rep k.toNat) (by rw [len_rep,Nat.mul_comm];exact hz),rfl,q _ I.fresh⟩
end
section
variable {prog:Program} {w:World} {A:Around} {E:Value→Shared→Prop} {s:Shared}
end
section
variable {X:Cx}
end
end L2
namespace Att
open PySem PySem.W PySem.Calls PyProof.Rows
theorem uI {P:Params} {h:Heap}:∀ (ns:List Int) (vs:List Value),WellAll P h vs (ns.map WData.int)→IntsAre vs ns:=by
 intro ns
 induction ns with
 | nil =>
  intro vs w
  rw [List.map_nil] at w
  cases w
  exact .nil
 | cons n ns ih =>
  intro vs w
  rw [List.map_cons] at w
  cases w with
  | cons a b =>
   cases a
   exact .cons _ _ (ih _ b)
theorem Fz {l:OpenLaw} {n:Nat} (hn:l.most=some n) {P:Params} {h:Heap} {args:List WData} {vals:List Value}
  (hpre:l.row.toRowW.claim.pre args=true) (hwl:WellAll P h vals args) :
  ∃ a vs ns,vals=[Value.ref a]∧args=[WData.list (ns.map WData.int)]∧h.get? a=some { cls:=.type "list",data:=.seq vs.toArray }∧IntsAre vs ns∧ns.length≤n:=by
 have hsh:WShape.hasAll [] args [.list .int]=true:=(pre_splitW hpre).1
 have hc:l.pre.holds [] { args:=args }=true:=(pre_splitW hpre).2
 obtain ⟨d,r,rfl,h1,h2⟩:=hasAllW_cons hsh
 obtain rfl:=hasAllW_nil h2
 obtain ⟨xs,rfl,h3⟩:=hasW_list h1
 obtain ⟨ns,rfl⟩:=items_int h3
 have hlen:ns.length≤n:=by
  unfold OpenLaw.pre at hc
  have h4:(WTm.not (.lt (.lit (.int (n:Int))) (.len (.arg 0)))).holds [] { args:=[.list (ns.map .int)] }=true:=by
   have h4:=(holds_andW hc).1
   rw [hn] at h4
   exact h4
  have h5:=condW_of h4 (w_not (w_lt w_lit (w_len_list (w_arg rfl))))
  rw [List.length_map] at h5
  refine Nat.le_of_not_lt fun q=>?_
  have q':(n:Int) < ((ns.length:Nat):Int):=by omega
  first
   | (rw [decide_eq_true q'] at h5;exact absurd h5 (by decide))
   | (simp at h5;omega)
 cases hwl with
 | cons w1 w2 =>
  cases w2
  cases w1 with
  | list ho hall=>exact ⟨_,_,ns,rfl,rfl,ho,uI ns _ hall,hlen⟩
theorem FD (l:OpenLaw) (args:List WData):l.row.toRowW.claim.post args (.bool true) args=true :=
 postW_of (r:=l.row.toRowW) (X:=(true == true))
  (show WShape.has [] (.bool true) .bool=true by first | rfl | decide | simp [WShape.has,WShape.arms,WShape.armsAll])
  (show (WTm.eq .res (.lit (.bool true))).value [] { args:=args,res:=some (.bool true),after:=args }=some (.bool (true == true)) from w_eq_bool (w_res rfl) w_lit) rfl
theorem BU {l:OpenLaw} {n:Nat} {q:Program} {loose:List Str} {XP:(Str→Option Value)→Heap→Prop} {YP:World→Heap→Prop} {d:DefRec}
  (hn:l.most=some n) (hdf:d.params.defaults=[])
  (call:∀ (w:World) (s₀ s₁:Shared) (mg mb:Str→Option Value) (fa:Addr) (o:Obj) (pm cd doc:Value) (a:Addr) (vs:List Value) (ns:List Int),
   Ground q loose [] XP w s₀ mg mb s₁.heap→YP w s₁.heap →
   s₁.heap.get? fa=some o→o.data=.func (docDef d.name d.params d.body d.scope pm cd doc)→s₁.heap.CodeRec cd d.name→mg d.name=some (.ref fa) →
   s₁.heap.get? a=some { cls:=.type "list",data:=.seq vs.toArray }→IntsAre vs ns→ns.length≤n→s₁.gens=#[] →
   codeAny (model l.prog w) callerA (.call (.ref fa) ⟨[.ref a],[]⟩) (fun r s'=>r=.ok (.ret (.bool true))∧OldK s₁.heap s'.heap∧s'.os=s₁.os∧AllBare s'.gens) s₁) :
  WalkO q loose XP YP l.row.toRowW d [] (fun f vs=>PySem.call f vs):=by
 intro w s₀ s₁ mg mb G Y fa o pm cd doc dV kV ho hd hcd hD hmg hg args vals as hpre hlay hrd hwl hlo
 obtain rfl:dV=.none:=Dflts.none hD hdf
 obtain rfl:kV=.none:=Dflts.noKw hD
 obtain ⟨a,vs,ns,rfl,rfl,hobj,hints,hlen⟩:=Fz hn hpre hwl
 refine enter_call (codeAny_mono (call w s₀ s₁ mg mb fa o pm cd doc a vs ns G Y ho (fd_plain hd) hcd hmg hobj hints hlen hg) fun r s' hq=>?_)
 obtain ⟨rfl,h2,h3,h4⟩:=hq
 exact ⟨.inl ⟨.bool true,.bool true,[],rfl,fun _=>rfl,.bool true,FD l _,fun _=>⟨List.Pairwise.nil,fun _ hm=>(nomatch hm)⟩⟩,h2,h3,h4⟩
section
variable {prog:Program} {w:World} {A:Around} {E:Value→Shared→Prop} {s:Shared} {K:Frag}
end
end Att
namespace L2
open PySem PySem.Spec PyProof.Rows
theorem ya:∀ {vs:List Value} {ns:List Int},IntsAre vs ns→Vals (ns.map V.int) vs
 | _,_,.nil=>.nil
 | _,_,.cons n t h=>.cons ⟨t,rfl⟩ (ya h)
def SI (H:Hp):Prop:=∀ b,H b=none∨∃ o xs,H b=some (.K5 o (.lst xs))
theorem Ko {P:Program} {w:World} {K:PySem.W.Frag} {mg mb:Str→Option Value} {CX:Fv} {k:Nat} {fa a:Addr} {fd:FuncData} {x:Str} {sp:Sp} {s₁:Shared} {vs:List Value} {ns:List Int}
  (KX:K.In s₁.heap) (hns:s₁.heap.Ns mainGlobals mg) (hb:s₁.heap.Ns builtinsNs mb) (hbb:∀ x:Str,x≠"__name__"→mb x=bootBuiltins x) (hlim:s₁.heap.NoLimit) (hg:s₁.gens=#[])
  (ha:s₁.heap.get? a=some { cls:=.type "list",data:=.seq vs.toArray }) (hi:IntsAre vs ns) (hl:ns.length≤sizeLine) (hr:fM k callerA)
  (F:∀ base:Heap,K.In base→base.Ns mainGlobals mg→bF P w K mg base CX k fa fd [x] sp) (hbind:∀ (s:Shared) (u:Value),BindsTo s fd ⟨[u],[]⟩ [(x,u)])
  (Me:∀ H:Hp,SI H→bC K H a (ns.map V.int)→sp [.ref a] H (fun v _=>v=.bl true) fun _ _ _=>False)
  (hCX:∀ H e s',CX [] H s₁ (fun _ _ _=>False) e s'→False) :
  codeAny (model P w) callerA (.call (.ref fa) ⟨[.ref a],[]⟩) (fun r s'=>r=.ok (.ret (.bool true))∧OldK s₁.heap s'.heap∧s'.os=s₁.os∧AllBare s'.gens) s₁:=by
 have rv:=ya hi
 have a4q:=hi.length
 have core:∀ H:Hp,SI H→bC K H a (ns.map V.int)→nh P w H s₁.heap→(∀ b,H b≠none→b=a)→(H a≠none→K.lookup a=none) →
   codeAny (model P w) callerA (.call (.ref fa) ⟨[.ref a],[]⟩) (fun r s'=>r=.ok (.ret (.bool true))∧OldK s₁.heap s'.heap∧s'.os=s₁.os∧AllBare s'.gens) s₁:=by
  intro H hO hS hok hA hK
  have Ff:∀ {b:Addr} {o:Obj},s₁.heap.get? b=some o→H b=none→(zS s₁.heap H).get? b=some o:=fun e n=>KQ e n
  have UT:∀ {b:Addr} {o:Obj} {es:Array DictEntry} {ep:Nat},s₁.heap.get? b=some o→o.data=.dict es ep→H b=none:=fun {b o es ep} e d=>by
   cases q:H b with
   | none=>rfl
   | some u =>
    have e':b=a:=hA b (by rw [q];simp)
    subst e'
    rw [ha] at e;cases e
    have d':Data.seq vs.toArray _=Data.dict es ep:=d
    cases d'
  have Xo:∀ {b:Addr} {m:Str→Option Value},s₁.heap.Ns b m→(zS s₁.heap H).Ns b m:=fun {b m} ⟨o,es,ep,e,d,r⟩=>⟨o,es,ep,Ff e (UT e d),d,r⟩
  have hKb:K.In (zS s₁.heap H):=fun b o e=>Ff (KX b o e) (by
   cases q:H b with
   | none=>rfl
   | some u =>
    have e':b=a:=hA b (by rw [q];simp)
    subst e'
    rw [hK (by rw [q];simp)] at e;cases e)
  have hM:Mod K mg (zS s₁.heap H):=⟨hKb,Xo hns,⟨mb,Xo hb,hbb⟩,let ⟨mc,h1,h2⟩:=hlim;⟨mc,Xo h1,h2⟩⟩
  have e0:Ea P w K mg (zS s₁.heap H) callerA [] s₁ H:=⟨rfl,hM,fun b o e=>Nj e,Nat.le_of_eq (Gn _ _),trivial,fun b hb=>absurd (show b∈([]:List Addr) from hb) (by simp),hok,.of_eq hg⟩
  refine codeAny_mono ((F _ hKb (Xo hns)).run callerA [] s₁ H ⟨[.ref a],[]⟩ [.ref a] [.ref a] _ _ hr e0 (hbind s₁ (.ref a)) (.cons rfl .nil) (Me H hO hS)) fun r s' h=>?_
  cases r with
  | error e=>exact (hCX H e s' h).elim
  | ok fl =>
   cases fl with
   | next=>exact False.elim h
   | brk=>exact False.elim h
   | cont=>exact False.elim h
   | ret u =>
    obtain ⟨v,H',os,bare,un,a6P,r',q⟩:=h
    have q':v=.bl true:=q
    subst q'
    obtain rfl:u=Value.bool true:=r'
    refine ⟨rfl,OldK.of_keep fun b o e=>?_,os,bare⟩
    cases q:H b with
    | none=>exact un.keep b o e q (by intro z;exact absurd (show b∈([]:List Addr) from z) (by simp)) (by simp)
    | some u =>
     rcases hO b with z | ⟨ob,xs,z⟩
     ·rw [q] at z;cases z
     ·have z2:=un.qQ b ob _ z
      obtain ⟨e1,_⟩:=hok b _ z
      obtain ⟨e2,_⟩:=a6P b _ z2
      rw [e] at e1;cases e1
      exact e2
 cases hk:K.lookup a with
 | some o =>
  have e:=KX a o hk
  rw [ha] at e
  cases e
  refine core (fun _=>none) (fun _=>.inl rfl) (.inr ⟨_,vs.toArray,_,hk,rfl,rfl,rfl,by rw [List.size_toArray,a4q];exact hl,by simpa using rv⟩) (fun b u z=>by have z':(none:Option HO)=some u:=z;cases z') (fun b z=>absurd rfl z) fun z=>absurd rfl z
 | none =>
  refine core (fun b=>if b=a then some (.K5 { cls:=.type "list",data:=.seq vs.toArray } (.lst (ns.map V.int))) else none) (fun b=>?_) (.inl (.inr ⟨{ cls:=.type "list",data:=.seq vs.toArray },if_pos rfl⟩)) (fun b u z=>?_) (fun b z=>?_) fun _=>hk
  ·by_cases hb:b=a
   ·exact .inr ⟨_,_,if_pos hb⟩
   ·exact .inl (if_neg hb)
  ·by_cases hb:b=a
   ·have z':=(if_pos hb).symm.trans z
    cases z'
    subst hb
    exact ⟨ha,by rw [List.length_map];exact hl,vs,_,rv,ha⟩
   ·have z':=(if_neg hb).symm.trans z
    cases z'
  ·by_cases hb:b=a
   ·exact hb
   ·exact absurd (if_neg hb) z
end L2
namespace L2
open PySem PySem.Spec PyProof.Rows
theorem Mp {l:PySem.W.OpenLaw} {n k:Nat} {q:Program} {loose:List Str} {XP:(Str→Option Value)→Heap→Prop} {YP:World→Heap→Prop} {d:DefRec} {K:Params→PySem.W.Frag} {CX:World→Fv} {sp:World→Sp} {x:Str}
  (hn:l.most=some n) (hn2:n≤sizeLine) (hdf:d.params.defaults=[]) (hr:fM k callerA)
  (hY:∀ (w:World) (h:Heap),YP w h→(K w.params).In h)
  (F:∀ (w:World) (mg:Str→Option Value) (fa:Addr) (h:Heap),(K w.params).In h→h.Ns mainGlobals mg→mg d.name=some (.ref fa) →
   ∃ fd:FuncData,(∀ (s:Shared) (u:Value),BindsTo s fd ⟨[u],[]⟩ [(x,u)]) ∧
    ∀ base:Heap,(K w.params).In base→base.Ns mainGlobals mg→bF l.prog w (K w.params) mg base (CX w) k fa fd [x] (sp w))
  (Me:∀ (w:World) (H:Hp) (a:Addr) (ns:List Int),ns.length≤n→SI H→bC (K w.params) H a (ns.map V.int)→sp w [.ref a] H (fun v _=>v=.bl true) fun _ _ _=>False)
  (hCX:∀ (w:World) (H:Hp) (s:Shared) (e:Value) (s':Shared),CX w [] H s (fun _ _ _=>False) e s'→False) :
  PySem.W.WalkO q loose XP YP l.row.toRowW d [] (fun f vs=>PySem.call f vs):=by
 refine Att.BU hn hdf fun w s₀ s₁ mg mb fa o pm cd doc a vs ns G Y ho hd hcd hmg hobj hints hlen hg=>?_
 have KX:=hY w _ Y
 obtain ⟨fd,hb,hF⟩:=F w mg fa _ KX G.T.g hmg
 exact Ko KX G.T.g G.T.b G.T.builtins G.T.nolimit hg hobj hints (Nat.le_trans hlen hn2) hr hF hb (fun H hO hS=>Me w H a ns hlen hO hS) fun H e s'=>hCX w H s₁ e s'
end L2
namespace L2
open PySem PySem.Spec PyProof.Rows
def inClass (s:Stmt) (j:Nat):Stmt:=match s with
 | .ClassDef _ _ _ body _ _ _ _ _ _ _=>body.getD j (.Pass ⟨0,0,0,0⟩)
 | _=>.Pass ⟨0,0,0,0⟩
def aI (s:Stmt):Arguments:=match s with
 | .FunctionDef _ a _ _ _ _ _ _ _ _=>a
 | _=>{ posonlyargs:=[],args:=[],vararg:=none,kwonlyargs:=[],kw_defaults:=[],kwarg:=none,defaults:=[] }
def ay (s:Stmt):List Stmt:=match s with
 | .FunctionDef _ _ b _ _ _ _ _ _ _=>b
 | _=>[]
def aq (s:Stmt):Scope:=match s with
 | .FunctionDef _ _ _ _ _ _ sc _ _ _=>sc
 | _=>{ kind:=.function,names:=[],isGenerator:=false,isCoroutine:=false }
abbrev fh:Fv:=fun _ _ _ _ _ _=>False
abbrev E0:XK:=fun _ _ _=>False
theorem aE {X:Cx}:Passes fh X E0:=fun _ _ _ _ _ _ _ h=>h.elim
structure dO (K:PySem.W.Frag) (x qual:Str) (st:Stmt) (f:Addr) (fd:FuncData):Prop where
 ex:∃ (oc:Value) (od:Option Addr) (kV doc pm:Value) (an:Option Addr) (cdv ct:Value) (osl:Array (Option Value)),
  fd=PySem.W.fnOf x qual (aI st) (ay st) (aq st) .none kV doc pm an cdv ct∧K.lookup f=some ⟨oc,od,.func fd,osl⟩∧PySem.W.codeIn K cdv qual=true
 kp:PySem.W.keepIn K (.ref f)=true
section
variable {P:Program} {w:World} {K:PySem.W.Frag} {mg:Str→Option Value} {base:Heap}
theorem dO.ok {x qual:Str} {st:Stmt} {f:Addr} {fd:FuncData} {N ps:List Str} {k:Nat} {sp:Sp} (F:dO K x qual st f fd) (S:aL N ps (aq st)) (len:∀ vs H Q E,sp vs H Q E→vs.length=ps.length)
  (hbody:∀ (cdv:Value) (A:Around) (outer:List Env) (s:Shared) (H:Hp) (vs:List V) (Q:VK) (E:XK),fM k (A.deeper (envOfC qual (aq st) s.heap.objs.size f cdv))→sp vs H Q E →
   ∃ t,Al (DK fh P w K mg base N qual (aq st) f cdv A outer s H E).Xp (ay st) t∧t { nx:=fun _ H'=>Q .fL H',rt:=Q } (start N vs) H):bF P w K mg base fh (k+1) f fd ps sp:=by
 obtain ⟨oc,od,kV,doc,pm,an,cdv,ct,osl,rfl,lk,hcd⟩:=F.ex
 refine Pf lk hcd S len fun A outer s H vs Q E hr Me=>?_
 obtain ⟨t,h,q⟩:=hbody cdv A outer s H vs Q E hr Me
 exact ⟨t,h.Xp,q⟩
theorem dO.binds {x qual:Str} {st:Stmt} {f:Addr} {fd:FuncData} {ps:List Str} (F:dO K x qual st f fd)
  (h:∀ (kV doc pm:Value) (an:Option Addr) (cdv ct:Value) (us:List Value),us.length=ps.length→bindArgs (PySem.W.fnOf x qual (aI st) (ay st) (aq st) .none kV doc pm an cdv ct) ⟨us,[]⟩=pure (ps.zip us)):Binds K fd ps []:=by
 obtain ⟨oc,od,kV,doc,pm,an,cdv,ct,osl,rfl,lk,hcd⟩:=F.ex
 exact .all (h kV doc pm an cdv ct)
theorem aY {x qual:Str} {st:Stmt} {f:Addr} {oc:Value} {od an:Option Addr} {osl:Array (Option Value)} {kV doc pm cdv ct:Value} (l:K.lookup f=some ⟨oc,od,.func (PySem.W.fnOf x qual (aI st) (ay st) (aq st) .none kV doc pm an cdv ct),osl⟩)
  (c:PySem.W.codeIn K cdv qual=true) (k:PySem.W.keepIn K (.ref f)=true):dO K x qual st f (PySem.W.fnOf x qual (aI st) (ay st) (aq st) .none kV doc pm an cdv ct):=⟨⟨oc,od,kV,doc,pm,an,cdv,ct,osl,rfl,l,c⟩,k⟩
end
theorem bD {A:Around} {k:Nat} (hr:fM k A):A.units+1 < cLine:=Nat.lt_of_le_of_lt (Nat.add_le_add_left (by decide:1≤64) _) hr.units
section
variable {X:Cx}
theorem pv (i:Nat) {x:Str} {pos:Pos} (hN:X.N[i]?=some x:=by rfl) (hv:ZD X.env.scope x:=by first | exact Or.inl rfl | exact Or.inr (Or.inl rfl) | exact Or.inr (Or.inr rfl)) (hd:(x == ("__debug__":Str))=false:=by decide)
  (hcd:(x == ("__classdict__":Str))=false:=by decide):PE X (.Name x pos) (P9 i):=Qz hN hv hd hcd
end
theorem zN {A B:Prop} (h:B):if false=true then A else B:=by
 rw [if_neg Bool.false_ne_true]
 exact h
theorem pQ {A B:Prop} (h:A):if true=true then A else B:=by
 rw [if_pos rfl]
 exact h
theorem Bs {c A B:Prop} [Decidable c] (h1:c→A) (h2:¬ c→B):if c then A else B:=by
 by_cases h:c
 ·rw [if_pos h]
  exact h1 h
 ·rw [if_neg h]
  exact h2 h
def az (H H':Hp):Prop:=∀ b o,H b=some o→H' b=some o
theorem az.refl (H:Hp):az H H:=fun _ _ h=>h
theorem az.trans {H H1 H2:Hp} (a:az H H1) (b:az H1 H2):az H H2:=fun c o h=>b c o (a c o h)
theorem az.free {H H':Hp} (e:az H H') {l:Addr} (h:H' l=Option.none):H l=Option.none:=by
 cases q:H l with
 | none=>rfl
 | some o =>
  rw [e l o q] at h
  cases h
end L2
namespace L2
open PySem PySem.Spec PyProof.Rows
section
variable {κ:Type} [DecidableEq κ]
def jQ (kvs:List (κ×V)) (k:κ):Option V:=(kvs.find? fun kv=>decide (kv.1=k)).map (·.2)
def putK (kvs:List (κ×V)) (k:κ) (v:V):List (κ×V) :=
 if (kvs.any fun kv=>decide (kv.1=k))=true then kvs.map (fun kv=>if kv.1=k then (kv.1,v) else kv) else kvs++[(k,v)]
theorem lX {p:κ×V} {r:List (κ×V)} {k:κ} (e:p.1=k):jQ (p::r) k=some p.2:=by simp [jQ,List.find?_cons,e]
theorem jP {p:κ×V} {r:List (κ×V)} {k:κ} (e:¬ p.1=k):jQ (p::r) k=jQ r k:=by simp [jQ,List.find?_cons,e]
theorem Ay (k:κ):∀ kvs:List (κ×V),(kvs.any fun kv=>decide (kv.1=k))=(jQ kvs k).isSome
 | []=>rfl
 | p::r=>by
  rw [List.any_cons]
  by_cases e:p.1=k
  ·simp only [lX e,decide_eq_true e,Bool.true_or,Option.isSome_some]
  ·rw [jP e,decide_eq_false e,Bool.false_or];exact Ay k r
theorem mR (kvs:List (κ×V)) (k:κ) (v:V):(putK kvs k v).length≤kvs.length+1:=by
 unfold putK
 split
 ·rw [List.length_map];omega
 ·rw [List.length_append,List.length_cons,List.length_nil];omega
theorem lE.sQ {o:Option V} {u:Option Value} (r:lE o u):o.isSome=u.isSome:=by
 cases o with
 | none=>cases u with
  | none=>rfl
  | some _=>exact (show False from r).elim
 | some _=>cases u with
  | none=>exact (show False from r).elim
  | some _=>rfl
theorem lE.getD {o:Option V} {u:Option Value} {d:V} {d':Value} (r:lE o u) (rd:RelV d d'):RelV (o.getD d) (u.getD d'):=by
 cases o with
 | none=>cases u with
  | none=>exact rd
  | some _=>exact (show False from r).elim
 | some _=>cases u with
  | none=>exact (show False from r).elim
  | some _=>exact r
theorem KV.val {kvs:List (κ×V)} {vs:List (κ×Value)} (r:KV kvs vs) (k:κ):lE (jQ kvs k) (valueAt vs k):=by
 unfold KV at r
 induction r with
 | nil=>exact True.intro
 | @cons p q ps qs h t ih =>
  obtain ⟨h1,h2⟩:=h
  by_cases e:p.1=k
  ·have e':q.1=k:=h1.symm.trans e
   have b:valueAt (q::qs) k=some q.2:=by simp [valueAt,List.find?_cons,e']
   rw [lX e,b];exact h2
  ·have e':¬ q.1=k:=fun z=>e (h1.trans z)
   have b:valueAt (q::qs) k=valueAt qs k:=by simp [valueAt,List.find?_cons,e']
   rw [jP e,b];exact ih
theorem KV.any {kvs:List (κ×V)} {vs:List (κ×Value)} (r:KV kvs vs) (k:κ):(kvs.any fun kv=>decide (kv.1=k))=vs.any fun kv=>decide (kv.1=k):=by
 unfold KV at r
 induction r with
 | nil=>rfl
 | cons h t ih=>rw [List.any_cons,List.any_cons,ih,h.1]
theorem KV.repl {kvs:List (κ×V)} {vs:List (κ×Value)} (r:KV kvs vs) (k:κ) {y:V} {u:Value} (ry:RelV y u) :
  KV (kvs.map fun kv=>if kv.1=k then (kv.1,y) else kv) (vs.map fun kv=>if kv.1=k then (kv.1,u) else kv):=by
 unfold KV at r ⊢
 induction r with
 | nil=>exact .nil
 | @cons p q ps qs h t ih =>
  rw [List.map_cons,List.map_cons]
  refine .cons ?_ ih
  obtain ⟨h1,h2⟩:=h
  by_cases e:p.1=k
  ·rw [if_pos e,if_pos (h1.symm.trans e)];exact ⟨h1,ry⟩
  ·rw [if_neg e,if_neg (fun z=>e (h1.trans z))];exact ⟨h1,h2⟩
theorem KV.put {kvs:List (κ×V)} {vs:List (κ×Value)} (r:KV kvs vs) (k:κ) {y:V} {u:Value} (ry:RelV y u):KV (putK kvs k y) (stored vs k u):=by
 unfold putK stored
 rw [r.any k]
 by_cases e:(vs.any fun kv=>decide (kv.1=k))=true
 ·rw [if_pos e,if_pos e];exact r.repl k ry
 ·rw [if_neg e,if_neg e];exact Paired.snoc r ⟨rfl,ry⟩
theorem KV.keys {kvs:List (κ×V)} {vs:List (κ×Value)} (r:KV kvs vs):kvs.map (·.1)=vs.map (·.1):=by
 unfold KV at r
 induction r with
 | nil=>rfl
 | cons h t ih=>rw [List.map_cons,List.map_cons,ih,h.1]
theorem KV.length {kvs:List (κ×V)} {vs:List (κ×Value)} (r:KV kvs vs):kvs.length=vs.length:=Paired.length r
end
theorem wN {P:Program} {w:World} {k:Key} {u:Value} (r:RelV (kV k) u):(cM P w).is k u=true:=by
 cases k with
 | inl i=>obtain ⟨t,e⟩:=(show ∃ t,u=Value.int i t from r);subst e;exact Bg P w i t
 | inr x=>obtain ⟨t,e⟩:=(show ∃ t,u=Value.str x t from r);subst e;exact mO P w x t
theorem yq {P:Program} {w:World}:∀ {ks:List Key} {us:List Value},Vals (ks.map kV) us→ItemsAre (cM P w) ks us
 | [],_,r=>by rw [List.map_nil] at r;cases r;exact .nil
 | k::ks,_,r=>by
  rw [List.map_cons] at r
  cases r with
  | cons h t=>exact .cons (wN h) (yq t)
abbrev KT (H:Hp):List (List Key×V)→List (List Key×Addr×Value)→Prop:=Paired fun p q=>p.1=q.1∧H q.2.1=some (.tup (p.1.map kV))∧RelV p.2 q.2.2
theorem KT.val {H:Hp} {kvs:List (List Key×V)} {xs:List (List Key×Addr×Value)} (r:KT H kvs xs) (k:List Key):lE (jQ kvs k) ((atKey xs k).map (·.2)):=by
 induction r with
 | nil=>exact True.intro
 | @cons p q ps qs h t ih =>
  obtain ⟨h1,_,h2⟩:=h
  by_cases e:p.1=k
  ·have e':q.1=k:=h1.symm.trans e
   have b:atKey (q::qs) k=some q.2:=by simp [atKey,List.find?_cons,e']
   rw [lX e,b];exact h2
  ·have e':¬ q.1=k:=fun z=>e (h1.trans z)
   have b:atKey (q::qs) k=atKey qs k:=by simp [atKey,List.find?_cons,e']
   rw [jP e,b];exact ih
theorem KT.repl {H:Hp} {kvs:List (List Key×V)} {xs:List (List Key×Addr×Value)} (r:KT H kvs xs) (k:List Key) {y:V} {u:Value} (ry:RelV y u) :
  KT H (kvs.map fun kv=>if kv.1=k then (kv.1,y) else kv) (xs.map (putAt k u)):=by
 induction r with
 | nil=>exact .nil
 | @cons p q ps qs h t ih =>
  rw [List.map_cons,List.map_cons]
  refine .cons ?_ ih
  obtain ⟨h1,h2,h3⟩:=h
  unfold putAt
  by_cases e:p.1=k
  ·rw [if_pos e,if_pos (h1.symm.trans e)];exact ⟨h1,h2,ry⟩
  ·rw [if_neg e,if_neg (fun z=>e (h1.trans z))];exact ⟨h1,h2,h3⟩
theorem KT.put {H:Hp} {kvs:List (List Key×V)} {xs:List (List Key×Addr×Value)} (r:KT H kvs xs) (k:List Key) {b:Addr} {y:V} {u:Value} (hb:H b=some (.tup (k.map kV))) (ry:RelV y u) :
  KT H (putK kvs k y) (storedH xs k b u):=by
 have e:(kvs.any fun kv=>decide (kv.1=k))=(atKey xs k).isSome:=by
  rw [Ay,(r.val k).sQ,Option.isSome_map]
 unfold putK storedH
 rw [e]
 by_cases q:(atKey xs k).isSome=true
 ·rw [if_pos q,if_pos q];exact r.repl k ry
 ·rw [if_neg q,if_neg q];exact Paired.snoc r ⟨rfl,hb,ry⟩
theorem KT.keeps {H H':Hp} {kvs:List (List Key×V)} {xs:List (List Key×Addr×Value)} (r:KT H kvs xs) (ht:∀ b ys,H b=some (.tup ys)→H' b=some (.tup ys)):KT H' kvs xs :=
 Paired.cF r fun _ _ z=>⟨z.1,ht _ _ z.2.1,z.2.2⟩
section
variable {P:Program} {w:World} {H:Hp} {h:Heap} {a:Addr}
theorem O0 {u:HO} (ok:nh P w H h) (e:Rd H a u):cX P w H h a u:=e.ok ok
theorem wX {kvs:List (Key×V)} (ok:nh P w H h) (e:Rd H a (.dK kvs)):kvs.length≤sizeLine∧(a == sysModules)=false∧∃ vs,KV kvs vs∧h.DictOf (cM P w) a vs :=
 show cX P w H h a (.dK kvs) from O0 ok e
theorem Pw {kvs:List (Key×V)} (ok:nh P w H h) (e:H a=some (.dK kvs)):kvs.length≤sizeLine∧(a == sysModules)=false∧∃ vs,KV kvs vs∧h.DictOf (cM P w) a vs:=wX ok (.inl e)
theorem wL {ks:List Key} (ok:nh P w H h) (e:H a=some (.tup (ks.map kV))):(tupleKind (cM P w)).is h ks a:=by
 obtain ⟨_,its,r,o,h1,h2,n,h3⟩:=(show cX P w H h a (.tup (ks.map kV)) from ok a _ e)
 exact ⟨o,its.toArray,n,h1,h2,h3,by simpa using yq r⟩
theorem yw {kvs:List (List Key×V)} (ok:nh P w H h) (e:Rd H a (.dT kvs)):kvs.length≤sizeLine∧(a == sysModules)=false ∧
  ∃ xs,KT H kvs xs∧h.DictOfH (tupleKind (cM P w)) a xs:=by
 obtain ⟨z,y,xs,r,o,es,ep,h1,h2,h3,h4,h5⟩:=(show cX P w H h a (.dT kvs) from O0 ok e)
 refine ⟨z,y,xs,r,o,es,ep,h1,h2,h3,h4,fun x hx=>?_,h5⟩
 have all:∀ {l:List (List Key×V)} {m:List (List Key×Addr×Value)},KT H l m→∀ x∈m,(tupleKind (cM P w)).is h x.1 x.2.1:=by
  intro l m q
  induction q with
  | nil=>intro x hx;exact nomatch hx
  | @cons p q ps qs hq t ih =>
   intro x hx
   rcases List.mem_cons.mp hx with e | hx
   ·subst e
    exact wL ok (by rw [← hq.1];exact hq.2.1)
   ·exact ih x hx
 exact all r x hx
theorem VS {kvs:List (List Key×V)} (ok:nh P w H h) (e:H a=some (.dT kvs)):kvs.length≤sizeLine∧(a == sysModules)=false ∧
  ∃ xs,KT H kvs xs∧h.DictOfH (tupleKind (cM P w)) a xs:=yw ok (.inl e)
end
def nZ (H:Hp) (a:Addr) (y:V) (r:Option V):Prop :=
 (∃ kvs k,Rd H a (.dK kvs)∧y=kV k∧r=jQ kvs k)∨∃ kvs k b,Rd H a (.dT kvs)∧y=.ref b∧H b=some (.tup (k.map kV))∧r=jQ kvs k
def xM (H:Hp) (a:Addr) (y v:V) (H':Hp):Prop :=
 (∃ kvs k,H a=some (.dK kvs)∧y=kV k∧kvs.length < sizeLine∧H'=upd H a (.dK (putK kvs k v))) ∨
 ∃ kvs k b,H a=some (.dT kvs)∧y=.ref b∧H b=some (.tup (k.map kV))∧kvs.length < sizeLine∧H'=upd H a (.dT (putK kvs k v))
theorem nZ.k {H:Hp} {a:Addr} {kvs:List (Key×V)} {k:Key} (e:H a=some (.dK kvs)):nZ H a (kV k) (jQ kvs k):=.inl ⟨kvs,k,.inl e,rfl,rfl⟩
theorem xM.k {H:Hp} {a:Addr} {kvs:List (Key×V)} {k:Key} {v:V} (e:H a=some (.dK kvs)) (hl:kvs.length < sizeLine):xM H a (kV k) v (upd H a (.dK (putK kvs k v))):=.inl ⟨kvs,k,e,rfl,hl,rfl⟩
section
variable {X:Cx} {pins:List (Addr×Obj)} {σ:St} {H:Hp} {s:Shared} {a:Addr} {y v:V} {u r:Value} {o:Option V} {A:Around} {E:Value→Shared→Prop}
theorem Inv.big (I:Inv X pins σ H s):sysModules < s.heap.objs.size:=by
 have h:mainGlobals < s.heap.objs.size:=(I.mod.glob.keeps I.bk).lt
 exact Nat.lt_trans (by decide) h
theorem GC {Q:Value→Shared→Prop} (hu:A.units+1 < cLine) (I:Inv X pins σ H s) (g:nZ H a y (some v)) (ry:RelV y u) (h:∀ w' s',Inv X pins σ H s'→RelV v w'→Q w' s') :
  wpAny (model X.prog X.w) A (getItem (.ref a) u) Q E s:=by
 rcases g with ⟨kvs,k,e,ey,l⟩ | ⟨kvs,k,b,e,ey,eb,l⟩
 ·subst ey
  obtain ⟨z,hd,vs,rel,dd⟩:=wX I.hok e
  obtain ⟨w',hw,rw'⟩:=lE.some_of (v:=v) (o:=valueAt vs k) (by rw [l];exact rel.val k)
  exact wpAny_getItem_of (wN ry) dd.mapOf hw (h w' _ (I.tok _) rw')
 ·subst ey
  cases (show u=Value.ref b from ry)
  obtain ⟨z,hd,xs,rel,dd⟩:=yw I.hok e
  obtain ⟨w',hw,rw'⟩:=lE.some_of (v:=v) (o:=(atKey xs k).map (·.2)) (by rw [l];exact rel.val k)
  obtain ⟨p,hp,hp2⟩:=Option.map_eq_some_iff.mp hw
  refine wpAny_getItem_heap (tupleKind_room_in1 hu) (wL I.hok eb) dd hp ?_
  rw [hp2]
  exact h w' _ (I.tok _) rw'
theorem a8q {Q:Value→Shared→Prop} (hu:A.units+1 < cLine) (I:Inv X pins σ H s) (g:nZ H a y o) (ry:RelV y u) (h:∀ s',Inv X pins σ H s'→Q (.bool o.isSome) s') :
  wpAny (model X.prog X.w) A (compareOp .In u (.ref a)) Q E s:=by
 rcases g with ⟨kvs,k,e,ey,l⟩ | ⟨kvs,k,b,e,ey,eb,l⟩
 ·subst ey
  obtain ⟨z,hd,vs,rel,dd⟩:=wX I.hok e
  refine wpAny_in_of (wN ry) hd dd.mapOf ?_
  rw [← (rel.val k).sQ,← l]
  exact h _ (I.tok _)
 ·subst ey
  cases (show u=Value.ref b from ry)
  obtain ⟨z,hd,xs,rel,dd⟩:=yw I.hok e
  refine wpAny_in_heap (tupleKind_room_in1 hu) (wL I.hok eb) hd dd ?_
  have q:=(rel.val k).sQ
  rw [Option.isSome_map] at q
  rw [← q,← l]
  exact h _ (I.tok _)
theorem z7 {h':Heap} {t':Nat} {ob:HO} (I:Inv X pins σ H s) (mu:W8 (H a)) (hs:Heap.SameBut a s.heap h') (he:∃ q,h'.get? a=some q) (new:cX X.prog X.w (upd H a ob) h' a ob) :
  Inv X pins σ (upd H a ob) { s with heap:=h',toks:=t' } :=
 I.write (x:=a) (e:=a) mu (.inl rfl) (fun b q hb z=>(hs.2 b hb).trans z) he new
theorem LA {P:Program} {w:World} {H':Hp} {h':Heap} {kvs:List (Key×V)} {vs:List (Key×Value)} (z:kvs.length≤sizeLine) (hd:(a == sysModules)=false) (rel:KV kvs vs) (dd:h'.DictOf (cM P w) a vs) :
  cX P w H' h' a (.dK kvs):=⟨z,hd,vs,rel,dd⟩
theorem GB {H':Hp} {Q:Unit→Shared→Prop} (hu:A.units+1 < cLine) (I:Inv X pins σ H s) (g:xM H a y v H') (ry:RelV y u) (rv:RelV v r) (h:∀ s',Inv X pins σ H' s'→Q () s') :
  wpAny (model X.prog X.w) A (setItem (.ref a) u r) Q E s:=by
 rcases g with ⟨kvs,k,e,ey,l,eH⟩ | ⟨kvs,k,b,e,ey,eb,l,eH⟩
 ·subst ey eH
  obtain ⟨z,hd,vs,rel,dd⟩:=Pw I.hok e
  have hz:vs.length≤sizeLine:=by rw [← rel.length];exact z
  have hl:(putK kvs k v).length≤sizeLine:=by have:=mR kvs k v;omega
  refine wpAny_setItem_pairs (hsz:=hz) (wN ry) dd fun h' Mh hs=>h _ ?_
  have he:∃ q,h'.get? a=some q:=let ⟨q,_,_,hq,_⟩:=Mh;⟨q,hq⟩
  exact z7 I (by rw [e];exact True.intro) hs he (LA hl hd (rel.put k rv) Mh)
 ·subst ey eH
  cases (show u=Value.ref b from ry)
  obtain ⟨z,hd,xs,rel,dd⟩:=VS I.hok e
  have hz:xs.length≤sizeLine:=by rw [← Paired.length rel];exact z
  have hl:(putK kvs k v).length≤sizeLine:=by have:=mR kvs k v;omega
  refine wpAny_setItem_heap (hsz:=hz) (tupleKind_room_in1 hu) (wL I.hok eb) dd fun h' Mh hs=>h _ ?_
  obtain ⟨q,es,ep,hq,h2,h3,h4,_,h5⟩:=Mh
  refine z7 I (by rw [e];exact True.intro) hs ⟨q,hq⟩ ⟨hl,hd,_,(rel.put k eb rv).keeps fun c ys ec=>?_,q,es,ep,hq,h2,h3,h4,h5⟩
  rw [aM (mK ec e (fun z=>nomatch z))]
  exact ec
end
section
variable {X:Cx} {pins:List (Addr×Obj)} {σ:St} {H:Hp} {s:Shared} {a:Addr} {kvs:List (Key×V)} {k:Key} {u:Value} {A:Around} {E:Value→Shared→Prop}
end
def SJ (i:Expr):Prop:=∀ ov iv,subscripted i false ov iv=operate [ov,iv] (getItem ov iv)
theorem Eu {prog:Program} {w:World} {A:Around} {E:Value→Shared→Prop} {s:Shared} {env:Env} {value slice:Expr} {pos:Pos} {T id:String} {Q:Value→Shared→Prop}
  (hl:typeLookup (.type T) "__getitem__"=pure (some (.builtin id))) (hs:SJ slice)
  (h:wpAny (model prog w) A (eval value env) (fun o s₁=>wpAny (model prog w) A (eval slice env) (fun i s₂=>s₂.TypeIs o T∧wpAny (model prog w) A (getItem o i) Q E s₂) E s₁) E s) :
  wpAny (model prog w) A (eval (.Subscript value slice pos) env) Q E s:=by
 refine Subscript_ (wpAny_mono h (fun o s₁ h₁=>wpAny_mono h₁ (fun i s₂ h₂=>?_) fun _ _ x=>x) fun _ _ x=>x)
 obtain ⟨hT,h₂⟩:=h₂
 unfold subscriptTail
 refine wpAny_bind ?_
 rw [getitemInPython_of_ne hT.not_modules]
 refine wpAny_bind (wpAny_specialOf hT hl ?_)
 have fin:wpAny (model prog w) A (subscripted slice false o i) (fun r s₃=>wpAny (model prog w) A (letTemporaryGo value o r >>= fun _=>pure r) Q E s₃) E s₂:=by
  rw [hs o i]
  exact wpAny_operating (wpAny_mono h₂ (fun r s₃ h₃=>wpAny_bind (wpAny_letTemporaryGo (wpAny_pure h₃))) fun _ _ x=>x)
 first
  | exact wpAny_pure (wpAny_bind fin)
  | exact wpAny_bind (wpAny_pure (wpAny_bind fin))
  | exact wpAny_bind fin
theorem BI {X:Cx} {pins:List (Addr×Obj)} {σ:St} {H:Hp} {s:Shared} {a:Addr} {y:V} {o:Option V} (I:Inv X pins σ H s) (g:nZ H a y o):s.TypeIs (.ref a) "dict":=by
 rcases g with ⟨kvs,k,e,_,_⟩ | ⟨kvs,k,b,e,_,_,_⟩
 ·obtain ⟨_,_,vs,_,dd⟩:=wX I.hok e
  exact dd.typeIs
 ·obtain ⟨_,_,xs,_,dd⟩:=yw I.hok e
  exact dd.typeIs
def Uq (td ty:TE):TE:=fun σ H Q=>td σ H fun x H1=>ty σ H1 fun y H2=>∃ a v,x=.ref a∧nZ H2 a y (some v)∧Q v H2
def ZQ (ty td:TE):TE:=fun σ H Q=>ty σ H fun y H1=>td σ H1 fun x H2=>∃ a o,x=.ref a∧nZ H2 a y o∧Q (.bl o.isSome) H2
def Ux (td ty tv:TE):TS:=fun D σ H=>tv σ H fun v H1=>td σ H1 fun x H2=>ty σ H2 fun y H3=>∃ a H4,x=.ref a∧xM H3 a y v H4∧D.nx σ H4
section
variable {X:Cx} {o i e value:Expr} {pos pos' tpos:Pos} {td ty tv:TE}
theorem iO (hu:X.A.units+1 < cLine) (ho:PE X o td) (hi:PE X i ty) (hs:SJ i):PE X (.Subscript o i pos) (Uq td ty):=by
 intro pins s σ H Q I h
 refine Eu PySem.F.slot_dict_getitem.lookup hs (cS (ho pins s σ H _ I h) fun u s1 ⟨x,H1,I1,rx,q1⟩=>cS (hi pins s1 σ H1 _ I1 q1) fun iv s2 ⟨y,H2,I2,ry,a,v,ex,g,q2⟩=>?_)
 subst ex
 obtain rfl:u=Value.ref a:=rx
 exact ⟨BI I2 g,GC hu I2 g ry fun w' s3 I3 rw'=>⟨v,H2,I3,rw',q2⟩⟩
theorem QA (hu:X.A.units+1 < cLine) (hi:PE X i ty) (ho:PE X o td):PC X .In i o (ZQ ty td):=by
 intro pins s σ H Q I h
 refine cS (hi pins s σ H _ I h) fun iv s1 ⟨y,H1,I1,ry,q1⟩=>cS (ho pins s1 σ H1 _ I1 q1) fun u s2 ⟨x,H2,I2,rx,a,ov,ex,g,q2⟩=>?_
 subst ex
 obtain rfl:u=Value.ref a:=rx
 exact a8q hu I2 g ry fun s3 I3=>⟨.bl ov.isSome,H2,I3,rfl,q2⟩
theorem kD (hu:X.A.units+1 < cLine) (ho:PE X o td) (hi:PE X i ty) (hv:PE X value tv) (hs:swapsWith value (some (.Subscript o i pos')) pos.line X.env=pure false) :
  PS X (.Assign [.Subscript o i pos'] value pos) (Ux td ty tv):=by
 intro pins s σ H D I h
 refine wpAny_Assign_Subscript (cS (hv pins s σ H _ I h) fun r s1 ⟨v,H1,I1,rv,q1⟩=>cS (ho pins s1 σ H1 _ I1 q1) fun u s2 ⟨x,H2,I2,rx,q2⟩=>cS (hi pins s2 σ H2 _ I2 q2) fun iv s3 ⟨y,H3,I3,ry,a,H4,ex,g,q3⟩=>?_) hs
 subst ex
 obtain rfl:u=Value.ref a:=rx
 exact GB hu I3 g ry rv fun s4 I4=>⟨σ,H4,I4,q3⟩
end
theorem BH {P:Program} {w:World} {H:Hp} (h:Heap) (hb:sysModules < h.objs.size):cX P w H (h.push { cls:=.type "dict",data:=.dict #[] }) h.objs.size (.dK []) :=
 ⟨Nat.zero_le _,beq_eq_false_iff_ne.mpr (Ne.symm (Nat.ne_of_lt hb)),[],.nil,Heap.DictOf.new h⟩
def Qf:TE:=fun _ H Q=>∀ p,H p=none→Q (.ref p) (upd H p (.dK []))
section
variable {X:Cx} {pos:Pos}
theorem mG:PE X (.Dict [] [] pos) Qf:=fun pins s σ H Q I h =>
 wpAny_Dict_empty ⟨.ref s.heap.objs.size,_,I.laid (a:=s.heap.objs.size) (o:=.dK []) (t':=s.toks) (fun _ _ q=>Heap.get?_push_of_some _ q) (Nat.le_refl _) (BH s.heap I.big),rfl,h _ (I.hok.fresh (Nat.le_refl _))⟩
end
def yS:List (TE×TE)→St→Hp→(List (V×V)→Hp→Prop)→Prop
 | [],_,H,Q=>Q [] H
 | (tk,tv)::r,σ,H,Q=>tk σ H fun x H1=>tv σ H1 fun y H2=>yS r σ H2 fun ps H3=>Q ((x,y)::ps) H3
abbrev VV:List (V×V)→List (Value×Value)→Prop:=Paired fun p q=>RelV p.1 q.1∧RelV p.2 q.2
def W5 (X:Cx) (pos:Pos) (keys:List (Option Expr)) (values:List Expr) (Mu:List (TE×TE)):Prop :=
 ∀ (pins:List (Addr×Obj)) (s:Shared) (σ:St) (H:Hp) (Q:List (V×V)→Hp→Prop),Inv X pins σ H s→yS Mu σ H Q →
  wpAny (model X.prog X.w) X.A (evalPairs (pairTrees keys values X.env pos)) (fun vs s'=>∃ ps H',Inv X pins σ H' s'∧VV ps vs∧Q ps H') X.xe s
theorem MJ {X:Cx} {pos:Pos}:W5 X pos [] [] []:=fun pins s σ H Q I h=>pairTrees_nil_walk ⟨[],H,I,.nil,h⟩
theorem Jm {X:Cx} {pos:Pos} {k v:Expr} {ks:List (Option Expr)} {vs:List Expr} {tk tv:TE} {Mu:List (TE×TE)} (hk:PE X k tk) (hv:PE X v tv) (hr:W5 X pos ks vs Mu) :
  W5 X pos (some k::ks) (v::vs) ((tk,tv)::Mu):=fun pins s σ H Q I h =>
 pairTrees_cons_walk (cS (hk pins s σ H _ I h) fun u s1 ⟨x,H1,I1,rx,q1⟩=>cS (hv pins s1 σ H1 _ I1 q1) fun w2 s2 ⟨y,H2,I2,ry,q2⟩ =>
  cS (hr pins s2 σ H2 _ I2 q2) fun ws s3 ⟨ps,H3,I3,rel,q3⟩=>⟨(x,y)::ps,H3,I3,.cons ⟨rx,ry⟩ rel,q3⟩)
def kM (kvs more:List (Key×V)):List (Key×V):=more.foldl (fun acc kv=>putK acc kv.1 kv.2) kvs
theorem KV.merge:∀ {more:List (Key×V)} {rs:List (Key×Value)} {kvs:List (Key×V)} {vs:List (Key×Value)},KV more rs→KV kvs vs→KV (kM kvs more) (merged vs rs):=by
 intro more rs kvs vs r
 unfold KV at r
 induction r generalizing kvs vs with
 | nil=>intro q;exact q
 | @cons p q ps qs h t ih =>
  intro r0
  have e:KV (putK kvs p.1 p.2) (stored vs q.1 q.2):=by
   have:=r0.put p.1 h.2
   rw [← h.1];exact this
  exact ih e
theorem oq:∀ (more kvs:List (Key×V)),(kM kvs more).length≤kvs.length+more.length
 | [],kvs=>by show kvs.length≤kvs.length+0;omega
 | p::r,kvs=>by
  have h1:=oq r (putK kvs p.1 p.2)
  have h2:=mR kvs p.1 p.2
  show (kM (putK kvs p.1 p.2) r).length≤_
  rw [List.length_cons];omega
theorem xq {P:Program} {w:World}:∀ {kvs:List (Key×V)} {ws:List (Value×Value)},VV (kvs.map fun kv=>(kV kv.1,kv.2)) ws→∃ rs,Carries (cM P w) ws rs∧KV kvs rs
 | [],_,r=>by rw [List.map_nil] at r;cases r;exact ⟨[],True.intro,.nil⟩
 | p::kvs,_,r=>by
  rw [List.map_cons] at r
  cases r with
  | @cons a b as bs h t =>
   obtain ⟨rs,c,q⟩:=xq (P:=P) (w:=w) t
   obtain ⟨b1,b2⟩:=b
   exact ⟨(p.1,b2)::rs,⟨wN h.1,rfl,c⟩,.cons ⟨rfl,h.2⟩ q⟩
def Up (Mu:List (TE×TE)):TE:=fun σ H Q=>∀ p,H p=none→yS Mu σ (upd H p (.dK [])) fun ps H2=>H2 p=some (.dK [])∧∃ kvs:List (Key×V),ps=kvs.map (fun kv=>(kV kv.1,kv.2))∧kvs.length≤15∧Q (.ref p) (upd H2 p (.dK (kM [] kvs)))
theorem MN {X:Cx} {pos:Pos} {keys:List (Option Expr)} {values:List Expr} {Mu:List (TE×TE)} (h:W5 X pos keys values Mu) (hall:keys.all (·.isSome)=true) (hl:keys.length=values.length) (h0:keys≠[])
  (h15:keys.length≤15):PE X (.Dict keys values pos) (Up Mu):=by
 intro pins s σ H Q I q
 have hn:=I.hok.fresh (Nat.le_refl s.heap.objs.size)
 have I1:=I.laid (a:=s.heap.objs.size) (o:=.dK []) (h':=s.heap.push { cls:=.type "dict",data:=.dict #[] }) (t':=s.toks) (fun _ _ q=>Heap.get?_push_of_some _ q) (Nat.le_refl _) (BH s.heap I.big)
 refine wpAny_Dict_walk (knd:=cM X.prog X.w) hall hl h0 h15 (cS (h pins _ σ _ _ I1 (q _ hn)) fun ws s2 ⟨ps,H2,I2,rel,e,kvs,ep,lk,q2⟩=>?_)
 subst ep
 obtain ⟨rs,c,rk⟩:=xq (P:=X.prog) (w:=X.w) rel
 obtain ⟨z,hd,vs0,r0,dd⟩:=Pw I2.hok e
 cases r0
 refine ⟨rs,c,dd,fun h' Mh hs=>⟨.ref s.heap.objs.size,_,?_,rfl,q2⟩⟩
 have hz:(kM [] kvs).length≤sizeLine:=by
  have h1:=oq kvs []
  rw [List.length_nil] at h1
  rw [sizeLine_eq];omega
 have he:∃ q,h'.get? s.heap.objs.size=some q:=let ⟨q,_,_,hq,_⟩:=Mh;⟨q,hq⟩
 exact z7 I2 (by rw [e];exact True.intro) hs he (LA hz hd (rk.merge .nil) Mh)
structure M2 (X:Cx) (o:Expr) (m:Str) (apos:Pos) (e f:Expr) (cpos:Pos):Prop where
 base:attributeBase o m X.env (eval o X.env)=eval o X.env
 few:((backTo cpos (starEach [e,f] X.env)).all (fun x=>!x.1) && (backToKw cpos (keywordEach [] X.env)).all (fun x=>x.1.isSome)
  && decide (([e,f]:List Expr).length+([]:List Keyword).length+(if ([]:List Keyword).isEmpty then 0 else 1) < 30))=true
 line:(apos.endLine == cpos.line)=true
 trees:backTo cpos (starEach [e,f] X.env)=[(false,eval e X.env),(false,eval f X.env)]
def IsD (H:Hp) (a:Addr):Prop:=(∃ kvs,Rd H a (.dK kvs))∨∃ kvs,Rd H a (.dT kvs)
theorem Rc {X:Cx} {pins:List (Addr×Obj)} {σ:St} {H:Hp} {s:Shared} {a:Addr} (I:Inv X pins σ H s) (d:IsD H a) :
  s.TypeIs (.ref a) "dict"∧(∀ b,Value.ref a=.ref b→∃ ob,s.heap.get? b=some ob∧ob.dict=none)∧(a == sysModules)=false:=by
 rcases d with ⟨kvs,e⟩ | ⟨kvs,e⟩
 ·obtain ⟨_,hd,vs,_,dd⟩:=wX I.hok e
  refine ⟨dd.typeIs,fun b q=>?_,hd⟩
  cases q
  obtain ⟨ob,_,_,h1,h2,_⟩:=dd
  exact ⟨ob,h1,h2.2.1⟩
 ·obtain ⟨_,hd,xs,_,dd⟩:=yw I.hok e
  refine ⟨dd.typeIs,fun b q=>?_,hd⟩
  cases q
  obtain ⟨ob,_,_,h1,h2,_⟩:=dd
  exact ⟨ob,h1,h2.2.1⟩
section
variable {X:Cx} {pins:List (Addr×Obj)} {σ:St} {H:Hp} {s:Shared} {a:Addr} {y d:V} {u r:Value} {o:Option V} {A:Around} {E:Value→Shared→Prop}
theorem Ss {Q:Value→Shared→Prop} (hu:A.units+1 < cLine) (I:Inv X pins σ H s) (g:nZ H a y o) (ry:RelV y u) (rd:RelV d r) (h:∀ w' s',Inv X pins σ H s'→RelV (o.getD d) w'→Q w' s') :
  wpAny (model X.prog X.w) A (call (.builtin "dict.get") [.ref a,u,r]) Q E s:=by
 rcases g with ⟨kvs,k,e,ey,l⟩ | ⟨kvs,k,b,e,ey,eb,l⟩
 ·subst ey
  obtain ⟨z,hd,vs,rel,dd⟩:=wX I.hok e
  refine call_meetsIn PySem.F.slot_dict_get dd.typeIs PySem.F.entry_dict_get (PySem.F.args_dict_get_3 _ _ _) (meets_dict_get_default (cM X.prog X.w) a (wN ry) hd r) ⟨_,dd.mapOf,h _ _ (I.tok _) ?_⟩
  rw [l]
  exact (rel.val k).getD rd
 ·subst ey
  cases (show u=Value.ref b from ry)
  obtain ⟨z,hd,xs,rel,dd⟩:=yw I.hok e
  refine call_meetsIn PySem.F.slot_dict_get dd.typeIs PySem.F.entry_dict_get (PySem.F.args_dict_get_3 _ _ _) (meetsH_dict_get_default (tupleKind (cM X.prog X.w)) a b hd r) ⟨tupleKind_room_in1 hu,k,xs,wL I.hok eb,dd,h _ _ (I.tok _) ?_⟩
  rw [l]
  exact (rel.val k).getD rd
end
def Qg (td ty tx:TE):TE:=fun σ H Q=>td σ H fun x H1=>∃ a,x=.ref a∧IsD H1 a∧ty σ H1 fun y H2=>tx σ H2 fun z H3=>∃ o,nZ H3 a y o∧Q (o.getD z) H3
section
variable {X:Cx} {o e f:Expr} {apos cpos:Pos} {td ty tx:TE}
theorem AU (hu:X.A.units+1 < cLine) (ho:PE X o td) (he:PE X e ty) (hf:PE X f tx) (m:M2 X o "get" apos e f cpos):PE X (.Call (.Attribute o "get" apos) [e,f] [] cpos) (Qg td ty tx):=by
 intro pins s σ H Q I h
 refine wpAny_Call_method m.base m.few m.line PySem.F.plainAttrs_dict PySem.F.slot_dict_get PySem.F.type_dict_get (cS (ho pins s σ H _ I h) fun u s1 ⟨x,H1,I1,rx,a,ex,d,q1⟩=>?_)
 subst ex
 obtain rfl:u=Value.ref a:=rx
 obtain ⟨t1,t2,_⟩:=Rc I1 d
 refine ⟨t1,t2,?_⟩
 rw [m.trees]
 refine Calls.callWith_builtin rfl (Calls.evalArgs_plain (Calls.spliced_cons (cS (he pins s1 σ H1 _ I1 q1) fun iv s2 ⟨y,H2,I2,ry,q2⟩ =>
  Calls.spliced_cons (cS (hf pins s2 σ H2 _ I2 q2) fun fv s3 ⟨z,H3,I3,rz,ov,g,q3⟩=>Calls.spliced_nil ?_))))
 exact Ss hu I3 g ry rz fun w' s4 I4 rw'=>⟨_,H3,I4,rw',q3⟩
end
section
variable {X:Cx} {pins:List (Addr×Obj)} {σ:St} {H:Hp} {s:Shared} {a:Addr} {kvs:List (Key×V)} {A:Around} {E:Value→Shared→Prop}
end
section
variable {X:Cx} {pins:List (Addr×Obj)} {σ:St} {H:Hp} {s:Shared} {a:Addr} {y:V} {u:Value} {A:Around} {E:Value→Shared→Prop}
end
end L2
namespace L2
open PySem PySem.Spec PyProof.Rows
section
variable {X:Cx}
end
section
variable {κ:Type} [DecidableEq κ]
end
end L2
set_option maxHeartbeats 4000000
namespace L2
open PySem PySem.Spec PyProof.Rows
abbrev jK:Value→Shared→Prop:=fun _ _=>False
abbrev yy (X:Cx) (sc:Scope) (N:List Str) (cl:List (Str×Addr)) (C:Addr) (s:Shared) (H:Hp) (fp:List Addr):Cx :=
 { X with N:=N,s₀:=s,H₀:=H,env:=compEnvC sc cl C X.env,outer:=X.stack,ex:=fp,fn:=fun _=>false,pn:=[],xe:=jK }
def Ext (σ σ':St):Prop:=σ'.length=σ.length∧∀ (i:Nat) v,σ[i]?=some (some v)→σ'[i]?=some (some v)
theorem Ext.one {x:V} {r:St}:Ext (none::r) (some x::r):=⟨rfl,fun i v h=>by cases i with | zero=>cases h | succ i=>exact h⟩
theorem Ext.two {x y:V} {r:St}:Ext (none::none::r) (some x::some y::r):=⟨rfl,fun i v h=>by
 cases i with
 | zero=>cases h
 | succ i=>cases i with | zero=>cases h | succ i=>exact h⟩
def Er (cs:List Expr) (env:Env):Sem Bool:=forIn cs true fun c r=>if r=true then do let ok ← isTrue c env (eval c env);pure (ForInStep.yield ok) else pure (ForInStep.yield r)
def W4 (X:Cx) (cs:List Expr) (t:TT):Prop :=
 ∀ (pins:List (Addr×Obj)) (s:Shared) (σ:St) (H:Hp) (Q:Bool→Hp→Prop),Inv X pins σ H s→t σ H Q→wpAny (model X.prog X.w) X.A (Er cs X.env) (TP X pins σ Q) X.xe s
def Es:TT:=fun _ H Q=>Q true H
theorem cA {X:Cx}:W4 X [] Es:=fun pins s σ H Q I h=>wpAny_tests_nil ⟨H,I,h⟩
theorem kC {X:Cx} {c:Expr} {t:TT} (hc:PT X c t):W4 X [c] t:=fun pins s σ H Q I h=>wpAny_tests_one (hc pins s σ H Q I h)
section
variable {prog:Program} {w:World} {A:Around} {R:Result→Shared→Prop} {s:Shared}
theorem GF {elt target iter:Expr} {cs:List Expr} {scope:Scope} {pos:Pos} {it acc:Value} {env:Env} (J:Nat→Shared→Prop)
  (turn:∀ n s,J n s→wpAny (model prog w) A (pyNext it) (fun r s1=>match r with
   | none=>R (.ok .next) s1
   | some v=>wpAny (model prog w) A (letOwnedTupleGo target it v) (fun _ s2=>wpAny (model prog w) A (assign target env v) (fun _ s3 =>
     wpAny (model prog w) A (Er cs env) (fun ok s4=>if ok=true then wpAny (model prog w) A (eval elt env) (fun x s5 =>
       wpAny (model prog w) A (call (.builtin "list.append") [acc,x]) (fun _ s6=>∃ m,m < n∧J m s6) jK s5) jK s4
      else ∃ m,m < n∧J m s4) jK s3) jK s2) jK s1) jK s) (n:Nat) (h:J n s) :
  codeAny (model prog w) A (.compLoop (.ListComp elt [⟨target,iter,cs,0⟩] scope pos) 0 it acc env) R s:=by
 refine codeAny_loop rfl J (fun k s' hk=>?_) n h
 show wpAny (model prog w) A ((compTurn (.ListComp elt [⟨target,iter,cs,0⟩] scope pos) 0 it acc env).onRaise (fun x=>do noteFrame x env;theTreesLotGoes x)) _ _ s'
 refine wpAny_noted ?_
 have no:∀ (e:Value) (s2:Shared),jK e s2→notedBy (model prog w) A env (fun e s'=>R (.error e) s') e s2:=fun _ _ f=>f.elim
 rw [compTurn_list]
 refine wpAny_bind (wpAny_standAt (wpAny_bind (wpAny_mono (turn k s' hk) (fun r s1 g1=>?_) no)))
 cases r with
 | none=>exact wpAny_pure g1
 | some v =>
  refine wpAny_bind (wpAny_mono g1 (fun _ s2 g2=>?_) no)
  refine wpAny_bind (wpAny_mono g2 (fun _ s3 g3=>?_) no)
  refine wpAny_bind (wpAny_mono g3 (fun ok s4 g4=>?_) no)
  cases ok with
  | false=>exact wpAny_pure ⟨rfl,g4⟩
  | true=>exact wpAny_bind (wpAny_bind (wpAny_mono g4 (fun x s5 g5=>wpAny_bind (wpAny_mono g5 (fun _ s6 g6=>wpAny_pure (wpAny_pure ⟨rfl,g6⟩)) no)) no))
end
def ux (J:It) (g:TG) (tt:TT) (te:TE) (σ0:St) (W:Nat→Nat→List V→Hp→Prop) (R:List V→Hp→Prop):Prop :=
 ∀ i m ys H,W i m ys H→(J.stop i H∧R ys H)∨(J.go i H∧∃ F:List V→Hp→Prop,(∀ ys' H',F ys' H'→∃ m',m' < m∧W (i+1) m' ys' H')∧∀ x H',J.PV i H x H'→g x σ0 H' fun σ2 H2=>Ext σ0 σ2∧tt σ2 H2 fun b H3 =>
  if b=true then te σ2 H3 fun v H4=>ys.length < sizeLine∧F (ys++[v]) H4 else F ys H3)
structure xN (X:Cx) (sc:Scope) (cl:List (Str×Addr)) (own:Nat) (N:List Str) (fr:List Nat):Prop where
 kind:sc.kind=.function
 names:∀ x∈sc.names,x.2=.local→sc.names.lookup x.1=some .local
 zz:∀ x∈sc.names,x.2≠.cell
 clos:closureFor sc X.env=pure cl
 cells:∀ x c,cl.lookup x=some c→X.env.cells.lookup x=some c
 has:∀ x,((relabel sc X.env).names.lookup x=some .cell∨(relabel sc X.env).names.lookup x=some .free)→∃ c,cl.lookup x=some c
 len:N.length=own+fr.length
 YC:∀ (i:Nat) j,fr[i]?=some j→∃ x,N[own+i]?=some x∧X.N[j]?=some x∧(X.env.kindOf x=some .cell∨X.env.kindOf x=some .free)∧((relabel sc X.env).names.lookup x=some .cell∨(relabel sc X.env).names.lookup x=some .free)
def OQ (env:Env):List (Str×Addr)→Prop
 | []=>True
 | p::r=>env.cells.lookup p.1=some p.2∧OQ env r
theorem OQ.mem {env:Env}:∀ {cl:List (Str×Addr)},OQ env cl→∀ p∈cl,env.cells.lookup p.1=some p.2
 | [],_,_,h=>nomatch h
 | _::_,h,p,hp=>by
  rcases List.mem_cons.mp hp with rfl | hp
  ·exact h.1
  ·exact h.2.mem p hp
def zO (k:Option NameKind):Bool:=match k with
 | some .cell=>true
 | some .free=>true
 | _=>false
theorem EW {k:Option NameKind} (h:zO k=true):k=some .cell∨k=some .free:=by
 cases k with
 | none=>cases h
 | some k=>cases k <;> first | exact .inl rfl | exact .inr rfl | cases h
def E4 (X:Cx) (sc:Scope):List Str→List Nat→Bool
 | [],[]=>true
 | x::ns,j::fr=>decide (X.N[j]?=some x) && zO (X.env.kindOf x) && zO ((relabel sc X.env).names.lookup x) && E4 X sc ns fr
 | _,_=>false
theorem BC {X:Cx} {sc:Scope}:∀ {ns:List Str} {fr:List Nat},E4 X sc ns fr=true→ns.length=fr.length∧∀ (i:Nat) j,fr[i]?=some j→∃ x,ns[i]?=some x∧X.N[j]?=some x∧zO (X.env.kindOf x)=true∧zO ((relabel sc X.env).names.lookup x)=true
 | [],[],_=>⟨rfl,fun i j h=>by simp at h⟩
 | [],_::_,h=>by cases h
 | _::_,[],h=>by cases h
 | x::ns,j::fr,h=>by
  have h:(decide (X.N[j]?=some x) && zO (X.env.kindOf x) && zO ((relabel sc X.env).names.lookup x) && E4 X sc ns fr)=true:=h
  rw [Bool.and_eq_true,Bool.and_eq_true,Bool.and_eq_true] at h
  obtain ⟨⟨⟨h1,h2⟩,h3⟩,h4⟩:=h
  obtain ⟨l,g⟩:=BC h4
  refine ⟨by simp [l],fun i k e=>?_⟩
  cases i with
  | zero=>cases e;exact ⟨x,rfl,of_decide_eq_true h1,h2,h3⟩
  | succ i=>exact g i k e
theorem br {X:Cx} {sc:Scope} {cl:List (Str×Addr)} (UI frN:List Str) (fr:List Nat) (kind:sc.kind=.function) (names:(sc.names.all fun x=>x.2 != .local || sc.names.lookup x.1 == some .local)=true)
  (zz:(sc.names.all fun x=>x.2 != .cell)=true) (clos:closureFor sc X.env=pure cl) (cells:OQ X.env cl) (has:((relabel sc X.env).names.all fun y=>!zO (some y.2) || (cl.lookup y.1).isSome)=true)
  (len:frN.length=fr.length) (YC:E4 X sc frN fr=true):xN X sc cl UI.length (UI++frN) fr where
 kind:=kind
 names:=fun x hx hl=>by
  have:=List.all_eq_true.mp names x hx
  rw [hl] at this
  simpa using this
 zz:=fun x hx=>by simpa using List.all_eq_true.mp zz x hx
 clos:=clos
 cells:=fun x c h=>cells.mem (x,c) (PySem.mem_of_lookup h)
 has:=fun x h=>by
  obtain ⟨k,hk,e⟩:∃ k,(relabel sc X.env).names.lookup x=some k∧zO (some k)=true:=by
   rcases h with h | h
   ·exact ⟨_,h,rfl⟩
   ·exact ⟨_,h,rfl⟩
  have:=List.all_eq_true.mp has (x,k) (PySem.mem_of_lookup hk)
  rw [e] at this
  exact Option.isSome_iff_exists.mp (by simpa using this)
 len:=by rw [List.length_append,len]
 YC:=fun i j e=>by
  obtain ⟨_,g⟩:=BC YC
  obtain ⟨x,e1,e2,e3,e4⟩:=g i j e
  refine ⟨x,?_,e2,EW e3,EW e4⟩
  rw [List.getElem?_append_right (Nat.le_add_right _ _),Nat.add_sub_cancel_left]
  exact e1
def Ma (own:Nat) (fr:List Nat) (σ:St):St:=List.replicate own none++fr.map fun j=>(σ[j]?).join
section
variable {X:Cx} {sc:Scope} {cl:List (Str×Addr)} {own:Nat} {N:List Str} {fr:List Nat}
theorem Qj {σ:St} {i:Nat} {v:V} (h:(Ma own fr σ)[i]?=some (some v)):∃ k j,i=own+k∧fr[k]?=some j∧σ[j]?=some (some v):=by
 unfold Ma at h
 by_cases hi:i < own
 ·rw [List.getElem?_append_left (by simpa using hi),List.getElem?_replicate,if_pos hi] at h
  cases h
 ·rw [List.getElem?_append_right (by simpa using hi),List.length_replicate,List.getElem?_map] at h
  cases e:fr[i - own]? with
  | none=>rw [e] at h;cases h
  | some j =>
   rw [e] at h
   have h:(σ[j]?).join=some v:=Option.some.inj h
   refine ⟨i - own,j,by omega,e,?_⟩
   cases q:σ[j]? with
   | none=>rw [q] at h;cases h
   | some o=>rw [q] at h;exact congrArg some h
theorem GK {pins:List (Addr×Obj)} {σ:St} {H:Hp} {s:Shared} {fp:List Addr} {h1:Heap} {m1:Str→Option Value} {t:Nat} {C D:Addr} {od:Obj} (S:xN X sc cl own N fr) (I:Inv X pins σ H s) (hfp:∀ b∈fp,uP X pins H b)
  (hob:∀ b∈fp,∃ o,s.heap.get? b=some o) (kp:∀ b o,s.heap.get? b=some o→h1.get? b=some o) (hC:s.heap.objs.size≤C) (hns:h1.Ns C m1) (hD:s.heap.objs.size≤D) (hDC:D≠C) (ho:h1.get? D=some od) (hod:∀ v,od.data≠.cell v) :
  Inv (yy X sc N cl C s H fp) [(D,od)] (Ma own fr σ) H { s with heap:=h1,toks:=t }:=by
 have My:∀ b∈fp,b < s.heap.objs.size:=fun b hb=>let ⟨o,e⟩:=hob b hb;Heap.lt_size e
 refine ⟨⟨I.ok.mod,S.kind,I.ok.glob,I.ok.blt,hC,fun x y c a b=>I.ok.inj x y c (S.cells x c a) (S.cells y c b),S.has,(fun x c z=>nomatch z),I.ok.hd,I.ok.frames,.inl rfl,fun b hb=>?_,I.bs,Nat.le_trans I.ok.GI I.sz,fun b o e hb=>?_,fun b hb hf=>?_,I.stack,I.qg⟩,
  rfl,I.bare,Un.kept kp,⟨m1,hns,fun i x v e1 e2 e3=>?_⟩,fun x c e=>?_,I.hok.fresh hC,fun x c e=>I.jh x c (S.cells x c e),fun p hp=>?_,I.hok.kept kp,?_⟩
 ·exact ⟨Nat.ne_of_lt (Nat.lt_of_lt_of_le (My b hb) hC),fun x c e=>(hfp b hb).2.2.2.2.1 x c (S.cells x c e)⟩
 ·rcases (hfp b hb).2.2.2.1 with z | z
  ·exact I.ok.Ba b o e z
  ·exact absurd (Nat.lt_of_lt_of_le (Heap.lt_size e) (Nat.le_trans I.ok.GI z)) (Nat.lt_irrefl _)
 ·rcases List.mem_cons.mp (I.yT b hf) with z | z
  ·exact (hfp b hb).2.1 z
  ·exact (hfp b hb).2.2.1 z
 ·obtain ⟨k,j,rfl,ej,eσ⟩:=Qj e2
  obtain ⟨y,n1,n2,k1,k2⟩:=S.YC k j ej
  have e1:N[own+k]?=some x:=e1
  rw [n1] at e1
  cases e1
  obtain ⟨m,hn,hl⟩:=I.loc
  obtain ⟨u,ru,l⟩:=hl j x v n2 eσ (by rcases k1 with z | z;exact .inr (.inl z);exact .inr (.inr z))
  refine ⟨u,ru,.inr ⟨k2,?_⟩⟩
  obtain ⟨c,hc⟩:=S.has x k2
  refine ⟨c,hc,?_⟩
  rcases l with ⟨q,_⟩ | ⟨_,c',e',z⟩
  ·rcases k1 with k1 | k1 <;> (rw [k1] at q;cases q)
  ·have:=S.cells x c hc
   rw [e'] at this;cases this
   obtain ⟨o,Mf,h2'⟩:=z
   exact ⟨o,kp _ _ Mf,h2'⟩
 ·obtain ⟨v,o,Mf,h2'⟩:=I.cell x c (S.cells x c e)
  exact ⟨v,o,kp _ _ Mf,h2'⟩
 ·have hp:p=(D,od):=by simpa using hp
  subst hp
  refine ⟨ho,I.hok.fresh hD,hDC,fun hf=>?_,hod⟩
  have:D∈X.env.locals::X.fs:=I.yT D hf
  rcases List.mem_cons.mp this with z | z
  ·exact absurd (Nat.lt_of_lt_of_le I.lt hD) (by rw [z];exact Nat.lt_irrefl _)
  ·exact I.US hD z
 ·unfold Ma
  rw [List.length_append,List.length_replicate,List.length_map]
  exact S.len.symm
theorem GL {pins pl:List (Addr×Obj)} {σ τ:St} {H H':Hp} {s s':Shared} {fp:List Addr} {C D:Addr} {ys:List V} {its:List Value} {n:Nat} (I:Inv X pins σ H s) (hfp:∀ b∈fp,uP X pins H b) (hC:s.heap.objs.size≤C) (hD:s.heap.objs.size≤D)
  (B:Inv (yy X sc N cl C s H fp) pl τ H' s') (hn:H' D=none) (ho:s'.heap.get? D=some { cls:=.type "list",data:=.seq its.toArray n }) (r:Vals ys its) (hz:ys.length≤sizeLine) :
  Inv X pins σ (upd H' D (.lst ys)) s':=by
 have ne:∀ b o,s.heap.get? b=some o→b≠D:=fun b o e=>Nat.ne_of_lt (Nat.lt_of_lt_of_le (Heap.lt_size e) hD)
 have nt:∀ b u,H' b=some u→b≠D:=fun b u e=>av e hn
 refine I.Pz (ch:=fp) B.os ⟨B.base.keep,B.base.slot,fun b o e q hx=>?_,B.base.there,fun b xs e=>?_,fun b o u e=>?_,fun b ps e=>?_⟩ (fun b u e=>?_) B.bare fun b hb=>?_
 ·rw [aM (ne b o e)];exact B.base.free b o e q hx
 ·have:=B.base.tups b xs e;rw [aM (nt _ _ this)];exact this
 ·have:=B.base.qQ b o u e;rw [aM (nt _ _ this)];exact this
 ·obtain ⟨mo,this⟩:=B.base.rC b ps e;exact ⟨mo,by rw [aM (nt _ _ this)];exact this⟩
 ·by_cases hb:b=D
  ·subst hb
   rw [ah] at e
   cases e
   exact ⟨hz,its,n,r,ho⟩
  ·rw [aM hb] at e
   exact (B.hok b u e).stay (fun _ _ _ q=>q) (fun c q=>by rw [aM (nt _ _ q)];exact q) fun c xs q=>by rw [aM (nt _ _ q)];exact q
 ·obtain ⟨_,f1,_,f3,f4,f5⟩:=hfp b hb
  exact ⟨f3,f1,f4,f5⟩
end
end L2
namespace L2
open PySem PySem.Spec PyProof.Rows
section
variable {X:Cx} {sc:Scope} {cl:List (Str×Addr)} {own:Nat} {N:List Str} {fr:List Nat}
theorem Inv.Jv {pins lM:List (Addr×Obj)} {σ:St} {H:Hp} {s:Shared} (I:Inv X pins σ H s) (h:∀ p∈lM,p∈pins):Inv X lM σ H s:=I.uV fun p hp=>I.pin p (List.mem_append_right _ (h p hp))
theorem yD {elt tg iter:Expr} {cs:List Expr} {pos:Pos} {g:TG} {tt:TT} {te:TE} {pins:List (Addr×Obj)} {σ:St} {H:Hp} {s:Shared} {it:Addr} {fp:List Addr} {tn:Nat→Heap→Prop} {J:It} {RR:Value→Addr→Result→Shared→Prop}
  (S:xN X sc cl own N fr) (hc:X.calm=true) (I:Inv X pins σ H s) (T:Turn X.prog X.w X.K tg J fp it tn) (st:tn 0 s.heap) (hfp:∀ b∈fp,uP X pins H b)
  (hg:∀ C s H,PG (yy X sc N cl C s H fp) tg g) (ht:∀ C s H,W4 (yy X sc N cl C s H fp) cs tt) (he:∀ C s H,PE (yy X sc N cl C s H fp) elt te)
  {W:Nat→Nat→List V→Hp→Prop} {R:List V→Hp→Prop} (w0:∃ m,W 0 m [] H) (walk:ux J g tt te (Ma own fr σ) W R)
  (fin:∀ D C H' ys s' m,s'.heap.Ns C m→H' D=none→uP X pins (upd H' D (.lst ys)) C→Inv X pins σ (upd H' D (.lst ys)) s'→R ys H'→RR (.ref D) C (.ok .next) s') :
  wpAny (model X.prog X.w) X.A (newList []) (fun acc s3=>wpAny (model X.prog X.w) X.A (newFunctionEnv sc X.env.globals cl [] X.env.qual none .none (some X.env)) (fun cenv s4 =>
   codeAny (model X.prog X.w) X.A (.compStart (.ListComp elt [⟨tg,iter,cs,0⟩] sc pos) 0 (.ref it) acc { cenv with scope:=relabel sc X.env }) (RR acc cenv.locals) s4) X.xe s3) X.xe s:=by
 refine wpAny_newObj_type (wpAny_newFunctionEnv S.zz (by intro y hy;simp at hy) (fun h1 hns Yv=>?_) S.kind)
 dsimp only at hns Yv ⊢
 generalize hH:s.heap.push { cls:=.type "list",dict:=none,data:=.seq ([]:List Value).toArray }=hp at hns Yv ⊢
 have sC:hp.objs.size=s.heap.objs.size+1:=by rw [← hH,Heap.size_push]
 have hDC:s.heap.objs.size≠hp.objs.size:=by omega
 have kp:∀ b o,s.heap.get? b=some o→h1.get? b=some o:=fun b o e=>by
  have l:=Heap.lt_size e
  exact Yv.extBut b o (Nat.ne_of_lt (by rw [sC];exact Nat.lt_succ_of_lt l)) (Heap.get?_push_of_some _ (hH ▸ Heap.get?_push_of_some _ e))
 have hD1:h1.get? s.heap.objs.size=some { cls:=.type "list",data:=.seq ([]:List Value).toArray }:=Yv.extBut _ _ hDC (Heap.get?_push_of_some _ (hH ▸ Heap.get?_push_size _ rfl))
 have My:∀ b∈fp,b < s.heap.objs.size:=fun b hb=>let ⟨o,e,_⟩:=T.obj 0 _ st b hb;Heap.lt_size e
 generalize hCC:hp.objs.size=C at *
 generalize hDD:s.heap.objs.size=D at *
 have I1:∀ t,Inv (yy X sc N cl C s H fp) [(D,{ cls:=.type "list",data:=.seq ([]:List Value).toArray })] (Ma own fr σ) H { s with heap:=h1,toks:=t }:=fun t =>
  GK S I hfp (fun b hb=>let ⟨o,e,_⟩:=T.obj 0 _ st b hb;⟨o,e⟩) kp (by omega) hns (by omega) hDC hD1 (by intro v z;cases z)
 have st1:tn 0 h1:=T.keep 0 _ _ st fun b hb o e=>kp b o e
 have fpo:∀ {H':Hp} {s':Shared} {τ:St} {pl:List (Addr×Obj)} {od:Obj},Inv (yy X sc N cl C s H fp) pl τ H' s'→(∀ p∈pl,p.1=D)→(∀ b∈fp,H' b=none)→∀ b∈fp,uP (yy X sc N cl C s H fp) pl H' b:=fun {H' s' τ pl od} B hpl hn b hb=>by
  have q:=My b hb
  refine ⟨hn b hb,(B.ok.RU b hb).1,B.ok.BE b hb,.inl hb,(B.ok.RU b hb).2,fun p hp=>?_⟩
  have hp:p∈pl:=by simpa using hp
  rw [hpl p hp];exact (Nat.ne_of_lt q).symm
 have loop:∀ t,codeAny (model X.prog X.w) X.A (.compLoop (.ListComp elt [⟨tg,iter,cs,0⟩] sc pos) 0 (.ref it) (.ref D) (compEnvC sc cl C X.env)) (RR (.ref D) C) { s with heap:=h1,toks:=t }:=by
  intro t
  obtain ⟨m0,w0⟩:=w0
  refine GF (fun n s'=>∃ i ys its k H',Inv (yy X sc N cl C s H fp) [(D,{ cls:=.type "list",data:=.seq (List.toArray its) k })] (Ma own fr σ) H' s'∧tn i s'.heap∧(∀ b∈fp,H' b=none)∧Vals ys its∧ys.length≤sizeLine∧W i n ys H') ?_ m0
   ⟨0,[],[],_,H,I1 t,st1,fun b hb=>(hfp b hb).1,.nil,Nat.zero_le _,w0⟩
  rintro n s2 ⟨i,ys,its,k,H2,B2,st2,Pe,rv,hz,w2⟩
  have pD:=B2.pin (D,{ cls:=.type "list",data:=.seq (List.toArray its) k }) (List.mem_append_right _ (List.mem_singleton.mpr rfl))
  rcases walk i n ys H2 w2 with ⟨stop,rr⟩ | ⟨go,nx,hnx,tk⟩
  ·refine wpAny_mono (T.done (yy X sc N cl C s H fp) rfl rfl rfl hc i _ s2 _ H2 jK B2 (fpo (od:=default) B2 (by simp) Pe) st2 stop) (fun r s3 ⟨hr,B3⟩=>?_) fun _ _ z=>z
   subst hr
   obtain ⟨m3,n3,_⟩:=B3.loc
   have pD3:=B3.pin (D,{ cls:=.type "list",data:=.seq (List.toArray its) k }) (List.mem_append_right _ (List.mem_singleton.mpr rfl))
   refine fin D C H2 ys s3 m3 n3 pD3.2.1 ?_ (GL I hfp (by omega) (by omega) B3 pD3.2.1 pD3.1 rv hz) rr
   exact I.K6 (by omega) (by rw [aM (Ne.symm hDC)];exact B3.free)
  ·refine wpAny_mono (T.item (yy X sc N cl C s H fp) rfl rfl rfl hc i _ s2 _ H2 jK B2 (fpo (od:=default) B2 (by simp) Pe) st2 go) (fun r s3 ⟨u,hr,g3⟩=>?_) fun _ _ z=>z
   subst hr
   refine wpAny_mono g3 (fun _ s4 ⟨x,H4,B4,rx,y4,ZW,fr4⟩=>?_) fun _ _ z=>z
   have B5:=B4.pinned (fpo (od:=default) B4 (by simp) fr4) (T.obj _ _ ZW)
   refine wpAny_mono (hg C s H _ s4 _ H4 x u _ B5 rx (tk x H4 y4)) (fun _ s5 ⟨σ5,H5,B6,ex,q5⟩=>?_) fun _ _ z=>z
   refine wpAny_mono (ht C s H _ s5 σ5 H5 _ B6 q5) (fun b s6 ⟨H6,B7,q6⟩=>?_) fun _ _ z=>z
   have back:∀ {H':Hp} {s':Shared},Inv (yy X sc N cl C s H fp) ([(D,{ cls:=.type "list",data:=.seq (List.toArray its) k })]++v8 fp s4.heap) σ5 H' s'→tn (i+1) s'.heap∧∀ b∈fp,H' b=none:=fun {H' s'} B=>by
    refine ⟨T.keep _ _ _ ZW fun b hb o e=>(B.pin (b,o) (List.mem_append_right _ (List.mem_append_right _ (kN hb e)))).1,fun b hb=>?_⟩
    obtain ⟨o,e,_⟩:=T.obj _ _ ZW b hb
    exact (B.pin (b,o) (List.mem_append_right _ (List.mem_append_right _ (kN hb e)))).2.1
   cases b with
   | false =>
    obtain ⟨m',hm,w'⟩:=hnx _ _ q6
    obtain ⟨t7,f7⟩:=back B7
    exact ⟨m',hm,i+1,ys,its,k,H6,(B7.qc).weak ex.1.symm ex.2,t7,f7,rv,hz,w'⟩
   | true =>
    refine wpAny_mono (he C s H _ s6 σ5 H6 _ B7 q6) (fun x7 s7 ⟨v7,H7,B8,r7,hz7,q7⟩=>?_) fun _ _ z=>z
    obtain ⟨m',hm,w'⟩:=hnx _ _ q7
    obtain ⟨t8,f8⟩:=back B8
    have QC:=B8.pin (D,{ cls:=.type "list",data:=.seq (List.toArray its) k }) (List.mem_append_right _ (List.mem_append_left _ (List.mem_singleton.mpr rfl)))
    have lz:its.length=ys.length:=rv.length.symm
    refine call_meets F.slot_list_append ⟨_,QC.1,rfl⟩ F.entry_list_append (F.args_list_append_2 _ _) (PySem.list_append D its.toArray k x7 (by rw [List.size_toArray];omega)) ⟨QC.1,?_⟩
    have q:=PySem.IsL.update QC.1 (·.push x7)
    have eo:its.toArray.push x7=(its++[x7]).toArray:=by simp
    have B9:Inv (yy X sc N cl C s H fp) [] (Ma own fr σ) H7 { s7 with heap:=s7.heap.update D (Obj.mapSeq (·.push x7)) } :=
     Inv.turned (t':=s7.toks) (((B8.Jv (lM:=[]) (by intro p hp;simp at hp)).weak ex.1.symm ex.2)) (fun b o hb e=>(Heap.get?_update_other _ _ (Ne.symm hb)).trans e) QC.2.1 hDC (.inr (by show s.heap.objs.size≤D;omega)) (fun y c e z=>by
      have:=B8.cell y c e
      obtain ⟨v,o,Mf,h2'⟩:=this
      have Mf:s7.heap.get? c=some o:=Mf
      rw [z,QC.1] at Mf
      cases Mf
      cases h2') (by intro p hp;simp at hp)
    have B10:∀ o',(s7.heap.update D (Obj.mapSeq (·.push x7))).get? D=some o'→(∀ v,o'.data≠.cell v)→Inv (yy X sc N cl C s H fp) [(D,o')] (Ma own fr σ) H7 { s7 with heap:=s7.heap.update D (Obj.mapSeq (·.push x7)) }:=fun o' e1 e2 =>
     Inv.uV B9 fun p hp=>by
      have hp:p=(D,o'):=by simpa using hp
      subst hp
      exact ⟨e1,QC.2.1,hDC,QC.2.2.2.1,e2⟩
    rw [eo] at q
    refine ⟨m',hm,i+1,ys++[v7],its++[x7],_,H7,B10 _ q (by intro v z;cases z),T.keep _ _ _ t8 fun b hb o e=>(Heap.get?_update_other _ _ (Nat.ne_of_gt (My b hb))).trans e,f8,rv.append (.cons r7 .nil),by rw [List.length_append,List.length_singleton];omega,w'⟩
 exact codeAny_compStart_list (loop _) (T.self _ 0 _ _ _ st1 (loop _))
def OZ (own:Nat) (fr:List Nat) (wi:TI) (g:TG) (tt:TT) (te:TE):TE:=fun σ H Q=>wi σ H fun J H1=>∃ W:Nat→Nat→List V→Hp→Prop,(∃ m,W 0 m [] H1) ∧
 ux J g tt te (Ma own fr σ) W fun ys H2=>∀ p,H2 p=none→Q (.ref p) (upd H2 p (.lst ys))
theorem bZ {elt tg iter:Expr} {cs:List Expr} {pos:Pos} {wi:TI} {g:TG} {tt:TT} {te:TE} (S:xN X sc cl own N fr) (hc:X.calm=true) (hi:PI X tg iter wi) (hg:∀ C s H fp,PG (yy X sc N cl C s H fp) tg g)
  (ht:∀ C s H fp,W4 (yy X sc N cl C s H fp) cs tt) (he:∀ C s H fp,PE (yy X sc N cl C s H fp) elt te) (hs:∀ x,foldedSetIterable iter X.env x=pure x:=by intro _;rfl) :
  PE X (.ListComp elt [⟨tg,iter,cs,0⟩] sc pos) (OZ own fr wi g tt te):=by
 intro pins s σ H Q I h
 rw [eval_ListComp]
 refine wpAny_comprehension_free (use:=none) rfl hs S.clos S.kind S.names (cS (hi pins s σ H _ I h) fun v s1 h1=>cS h1 fun itv s2 h2=>?_)
 obtain ⟨it,fp,tn,J,H2,e,I2,T,st2,f2,W,w0,walk⟩:=h2
 subst e
 refine yD (RR:=fun acc C=>compPost (model X.prog X.w) X.A X.xe none (EP X pins σ Q) acc C) S hc I2 T st2 f2 (fun C s H=>hg C s H fp) (fun C s H=>ht C s H fp) (fun C s H=>he C s H fp) w0 walk ?_
 intro D C H' ys s' m hn hD fC I' rr
 obtain ⟨f0,f1,f2',f3,f4,f5⟩:=fC
 exact ⟨m,hn,fun h' hs'=>⟨.ref D,_,Inv.turned (t':=s'.toks) I' (fun b o hb e=>hs'.extBut b o hb e) f0 f1 f3 f4 f5,rfl,rr D hD⟩⟩
theorem nD {elt tg iter:Expr} {cs:List Expr} {pos spos py:Pos} {wi:TI} {g:TG} {tt:TT} {te:TE} {i:Nat} {y:Str} (hN:X.N.Nodup) (hiy:X.N[i]?=some y) (hy:Loc X.env.scope y) (S:xN X sc cl own N fr) (hc:X.calm=true) (hi:PI X tg iter wi)
  (hg:∀ C s H fp,PG (yy X sc N cl C s H fp) tg g) (ht:∀ C s H fp,W4 (yy X sc N cl C s H fp) cs tt) (he:∀ C s H fp,PE (yy X sc N cl C s H fp) elt te)
  (hsw:swapsWith (.ListComp elt [⟨tg,iter,cs,0⟩] sc pos) (some (.Name y py)) spos.line X.env=pure true:=by rfl) (hs:∀ x,foldedSetIterable iter X.env x=pure x:=by intro _;rfl)
  (hf:X.fn y=true∨X.env.scope.names.lookup y=some .local:=by first | exact .inl rfl | exact .inr rfl | assumption) :
  PS X (.Assign [.Name y py] (.ListComp elt [⟨tg,iter,cs,0⟩] sc pos) spos) (Qh (OZ own fr wi g tt te) (K4 i)):=by
 intro pins s σ H D0 I h
 rw [exec_Assign_Name_used _ _ _ _ hsw]
 refine wpAny_bind (wpAny_standAt (wpAny_bind ?_))
 show wpAny _ X.A (do let _ ← comprehension (.ListComp elt [⟨tg,iter,cs,0⟩] sc pos) sc X.env _ (newList []) false (eval iter X.env) (some (assign (.Name y py) X.env))) _ _ s
 refine wpAny_bind (cS (wpAny_comprehension_free (use:=some (assign (.Name y py) X.env)) (Q:=fun _ s'=>SP X pins D0 .next s') rfl hs S.clos S.kind S.names
  (cS (hi pins s σ H _ I h) fun v s1 h1=>cS h1 fun itv s2 h2=>?_)) fun _ s' hq=>wpAny_pure (wpAny_pure hq))
 obtain ⟨it,fp,tn,J,H2,e,I2,T,st2,f2,W,w0,walk⟩:=h2
 subst e
 refine yD (RR:=fun acc C=>compPost (model X.prog X.w) X.A X.xe (some (assign (.Name y py) X.env)) (fun _ s'=>SP X pins D0 .next s') acc C) S hc I2 T st2 f2 (fun C s H=>hg C s H fp) (fun C s H=>ht C s H fp) (fun C s H=>he C s H fp) w0 walk ?_
 intro D C H' ys s' m hn hD fC I' rr
 obtain ⟨f0,f1,f2',f3,f4,f5⟩:=fC
 show wpAny _ X.A (assign (.Name y py) X.env (.ref D)) _ _ _
 refine wpAny_assign_Name (yd I' hN hiy hy (v:=.ref D) rfl (fun s2 I2 ⟨a,sb,ha⟩=>?_) hf)
 have aC:C≠a:=by
  rcases ha with z | z
  ·rw [z];exact f1
  ·exact fun q=>f4 y a z q.symm
 exact ⟨m,hn.sameBut sb aC,fun h' hs'=>⟨_,_,Inv.turned (t':=s2.toks) I2 (fun b o hb e=>hs'.extBut b o hb e) f0 f1 f3 f4 f5,rr D hD⟩⟩
end
theorem eg {K:PySem.W.Frag} {a:Addr} {xs:List V} {g:TG} {tt:TT} {te:TE} {σ0:St} {H:Hp} {R:List V→Hp→Prop} (Pv:Nat→List V→Hp→Prop) (h0:Pv 0 [] H) (hl:∀ i ys H,i≤xs.length→Pv i ys H→bC K H a xs)
  (hs:∀ i x ys H,xs[i]?=some x→Pv i ys H→g x σ0 H fun σ2 H2=>Ext σ0 σ2∧tt σ2 H2 fun b H3=>if b=true then te σ2 H3 fun v H4=>ys.length < sizeLine∧Pv (i+1) (ys++[v]) H4 else Pv (i+1) ys H3)
  (hd:∀ ys H,Pv xs.length ys H→R ys H):∃ W:Nat→Nat→List V→Hp→Prop,(∃ m,W 0 m [] H)∧ux (Ou K a) g tt te σ0 W R:=by
 refine ⟨fun i m ys H=>m=xs.length - i∧i≤xs.length∧Pv i ys H,⟨xs.length,by simp,Nat.zero_le _,h0⟩,?_⟩
 rintro i m ys H ⟨rfl,hi,p⟩
 have q:=hl i ys H hi p
 by_cases hlt:i < xs.length
 ·refine .inr ⟨⟨xs,xs[i],q,by simp [hlt]⟩,Pv (i+1),fun ys' H' p'=>⟨xs.length - (i+1),by omega,rfl,hlt,p'⟩,fun x H' y=>?_⟩
  obtain ⟨e,y⟩:=y
  subst e
  exact hs i x ys _ (y xs q) p
 ·have e:i=xs.length:=by omega
  subst e
  exact .inl ⟨⟨xs,q,Nat.le_refl _⟩,hd ys H p⟩
theorem cU {K:PySem.W.Frag} {a:Addr} {xs:List V} {g:TG} {tt:TT} {te:TE} {σ0:St} {H:Hp} {R:List V→Hp→Prop} (Pv:Nat→List V→Hp→Prop) (h0:Pv 0 [] H) (hl:∀ i ys H,i≤xs.length→Pv i ys H→aX K H a xs)
  (hs:∀ i x ys H,xs[i]?=some x→Pv i ys H→g x σ0 H fun σ2 H2=>Ext σ0 σ2∧tt σ2 H2 fun b H3=>if b=true then te σ2 H3 fun v H4=>ys.length < sizeLine∧Pv (i+1) (ys++[v]) H4 else Pv (i+1) ys H3)
  (hd:∀ ys H,Pv xs.length ys H→R ys H):∃ W:Nat→Nat→List V→Hp→Prop,(∃ m,W 0 m [] H)∧ux (LV K a) g tt te σ0 W R:=by
 refine ⟨fun i m ys H=>m=xs.length - i∧i≤xs.length∧Pv i ys H,⟨xs.length,by simp,Nat.zero_le _,h0⟩,?_⟩
 rintro i m ys H ⟨rfl,hi,p⟩
 have q:=hl i ys H hi p
 by_cases hlt:i < xs.length
 ·refine .inr ⟨⟨xs,xs[i],q,by simp [hlt]⟩,Pv (i+1),fun ys' H' p'=>⟨xs.length - (i+1),by omega,rfl,hlt,p'⟩,fun x H' y=>?_⟩
  obtain ⟨e,y⟩:=y
  subst e
  exact hs i x ys _ (y xs q) p
 ·have e:i=xs.length:=by omega
  subst e
  exact .inl ⟨⟨xs,q,Nat.le_refl _⟩,hd ys H p⟩
theorem jj {lo:Int} {n:Nat} {g:TG} {tt:TT} {te:TE} {σ0:St} {H:Hp} {R:List V→Hp→Prop} (Pv:Nat→List V→Hp→Prop) (h0:Pv 0 [] H)
  (hs:∀ i ys H,i < n→Pv i ys H→g (.int (lo+i)) σ0 H fun σ2 H2=>Ext σ0 σ2∧tt σ2 H2 fun b H3=>if b=true then te σ2 H3 fun v H4=>ys.length < sizeLine∧Pv (i+1) (ys++[v]) H4 else Pv (i+1) ys H3)
  (hd:∀ ys H,Pv n ys H→R ys H):∃ W:Nat→Nat→List V→Hp→Prop,(∃ m,W 0 m [] H)∧ux (SM lo n) g tt te σ0 W R:=by
 refine ⟨fun i m ys H=>m=n - i∧i≤n∧Pv i ys H,⟨n,by simp,Nat.zero_le _,h0⟩,?_⟩
 rintro i m ys H ⟨rfl,hi,p⟩
 by_cases hlt:i < n
 ·refine .inr ⟨hlt,Pv (i+1),fun ys' H' p'=>⟨n - (i+1),by omega,rfl,hlt,p'⟩,fun x H' y=>?_⟩
  obtain ⟨e,y⟩:=y
  subst e y
  exact hs i ys _ hlt p
 ·have e:i=n:=by omega
  subst e
  exact .inl ⟨Nat.le_refl _,hd ys H p⟩
def a6w (K:PySem.W.Frag) (tl:TE):TI:=fun σ H R=>tl σ H fun x H1=>∃ a,x=.ref a∧(((∃ xs,bC K H1 a xs)∧R (Ou K a) H1)∨((∃ xs,aX K H1 a xs)∧R (LV K a) H1))
theorem CU {X:Cx} {tg l:Expr} {tl:TE} (hl:PE X l tl):PI X tg l (a6w X.K tl):=by
 intro pins s σ H R I h
 refine cS (hl pins s σ H _ I h) fun v s1 ⟨x,H1,I1,r1,q1⟩=>?_
 obtain ⟨a,e,q⟩:=q1
 subst e
 cases r1
 have fo:∀ b∈[s1.heap.objs.size],uP X pins H1 b:=fun b hb=>by
  have e:b=s1.heap.objs.size:=by simpa using hb
  subst e
  exact I1.K6 (Nat.le_refl _) (I1.hok.fresh (Nat.le_refl _))
 rcases q with ⟨⟨xs,hq⟩,q⟩ | ⟨⟨xs,hq⟩,q⟩
 ·obtain ⟨its,rv,p,hz⟩:=I1.list hq
  refine wpAny_pyIter_list p.isList ?_
  exact ⟨s1.heap.objs.size,[s1.heap.objs.size],_,_,H1,rfl,I1.kept (t':=s1.toks) fun b o e=>Heap.get?_push_of_some _ e,yb a _,⟨_,Heap.get?_push_size _ rfl,rfl,rfl⟩,fo,q⟩
 ·obtain ⟨its,rv,p,hz⟩:=I1.tuple hq
  refine wpAny_pyIter_tuple (show s1.heap.IsTuple a its.toArray from p) ?_
  exact ⟨s1.heap.objs.size,[s1.heap.objs.size],_,_,H1,rfl,I1.kept (t':=s1.toks) fun b o e=>Heap.get?_push_of_some _ e,vq a _,⟨_,Heap.get?_push_size _ rfl,rfl,rfl⟩,fo,q⟩
end L2
namespace Hw
open PySem PySem.Spec
def lt (a b:Str):Bool:=ltCps a.cps.toList b.cps.toList
theorem PF:∀ a:List Nat,ltCps a a=false
 | []=>rfl
 | x::r=>by simp [ltCps,PF r]
theorem Fe:∀ a b c:List Nat,ltCps a b=true→ltCps b c=true→ltCps a c=true
 | [],[],_,h,_=>by simp [ltCps] at h
 | [],_::_,[],_,h=>by simp [ltCps] at h
 | [],_::_,_::_,_,_=>rfl
 | _::_,[],_,h,_=>by simp [ltCps] at h
 | _::_,_::_,[],_,h=>by simp [ltCps] at h
 | x::a,y::b,z::c,h,g=>by
  simp only [ltCps,Bool.or_eq_true,Bool.and_eq_true,decide_eq_true_eq,beq_iff_eq] at h g ⊢
  rcases h with h | ⟨h,h'⟩ <;> rcases g with g | ⟨g,g'⟩
  ·left;omega
  ·left;omega
  ·left;omega
  ·right;exact ⟨by omega,Fe a b c h' g'⟩
theorem PD:∀ a b:List Nat,ltCps a b=true∨a=b∨ltCps b a=true
 | [],[]=>.inr (.inl rfl)
 | [],_::_=>.inl rfl
 | _::_,[]=>.inr (.inr rfl)
 | x::a,y::b=>by
  simp only [ltCps,Bool.or_eq_true,Bool.and_eq_true,decide_eq_true_eq,beq_iff_eq,List.cons.injEq]
  rcases Nat.lt_trichotomy x y with h | h | h
  ·exact .inl (.inl h)
  ·rcases PD a b with g | g | g
   ·exact .inl (.inr ⟨h,g⟩)
   ·exact .inr (.inl ⟨h,g⟩)
   ·exact .inr (.inr (.inr ⟨h.symm,g⟩))
  ·exact .inr (.inr (.inl h))
theorem zH (a:Str):lt a a=false:=PF _
theorem lt_trans {a b c:Str}:lt a b=true→lt b c=true→lt a c=true:=Fe _ _ _
theorem wD (a b:Str):lt a b=true∨a=b∨lt b a=true:=by
 rcases PD a.cps.toList b.cps.toList with h | h | h
 ·exact .inl h
 ·refine .inr (.inl ?_)
  obtain ⟨⟨x⟩⟩:=a;obtain ⟨⟨y⟩⟩:=b
  have h:x=y:=h
  rw [h]
 ·exact .inr (.inr h)
theorem EO {a b:Str} (h:lt a b=true):a≠b:=fun e=>by rw [e,zH] at h;cases h
theorem not_lt_trans {a b c:Str} (h:lt b a=false) (g:lt c b=false):lt c a=false:=by
 rcases wD c a with e | e | e
 ·rcases wD b a with k | k | k
  ·rw [h] at k;cases k
  ·rw [k] at g;rw [g] at e;cases e
  ·rw [lt_trans e k] at g;cases g
 ·rw [e];exact zH a
 ·cases q:lt c a with
  | false=>rfl
  | true=>have:=lt_trans e q;rw [zH] at this;cases this
abbrev Ps:=List (Str×Int)
def bT:Ps→(Str→Int)→Int
 | [],_=>0
 | p::r,f=>p.2*f p.1+bT r f
theorem cI:∀ (a b:Ps) (f:Str→Int),bT (a++b) f=bT a f+bT b f
 | [],b,f=>by simp [bT]
 | p::a,b,f=>by simp only [List.cons_append,bT,cI a b f];omega
theorem Kn {a b:Ps} (h:a.Perm b) (f:Str→Int):bT a f=bT b f:=by
 induction h with
 | nil=>rfl
 | cons x _ ih=>simp only [bT,ih]
 | swap x y l=>simp only [bT];omega
 | trans _ _ i j=>exact i.trans j
theorem wF (k:Int):∀ (a:Ps) (f:Str→Int),bT (a.map fun p=>(p.1,p.2*k)) f=bT a f*k
 | [],f=>by simp [bT]
 | p::a,f=>by
  simp only [List.map_cons,bT,wF k a f,Int.add_mul]
  rw [Int.mul_assoc,Int.mul_comm k,← Int.mul_assoc]
theorem zJ:∀ (a:Ps) (f:Str→Int),bT (a.map fun p=>(p.1,-p.2)) f=-bT a f
 | [],f=>by simp [bT]
 | p::a,f=>by
  simp only [List.map_cons,bT,zJ a f,Int.neg_mul];omega
theorem pM:∀ (a:Ps) (f:Str→Int),bT (a.filter fun p=>decide (p.2≠0)) f=bT a f
 | [],f=>rfl
 | p::a,f=>by
  by_cases h:p.2=0
  ·rw [List.filter_cons_of_neg (by simp [h]),pM a f,bT,h];simp
  ·rw [List.filter_cons_of_pos (by simp [h]),bT,bT,pM a f]
structure Canon (a:Ps):Prop where
 up:a.Pairwise fun p q=>lt p.1 q.1=true
 nz:∀ p∈a,p.2≠0
def ind (t:Str):Str→Int:=fun s=>if s=t then 1 else 0
theorem qJ {t:Str}:∀ {a:Ps},(∀ p∈a,p.1≠t)→bT a (ind t)=0
 | [],_=>rfl
 | p::a,h=>by
  have h1:p.1≠t:=h p (List.mem_cons_self ..)
  rw [bT,qJ (a:=a) fun q hq=>h q (List.mem_cons_of_mem _ hq)]
  simp [ind,h1]
theorem Canon.tail {p:Str×Int} {a:Ps} (c:Canon (p::a)):Canon a:=⟨(List.pairwise_cons.mp c.up).2,fun q hq=>c.nz q (List.mem_cons_of_mem _ hq)⟩
theorem Canon.head {p:Str×Int} {a:Ps} (c:Canon (p::a)):bT (p::a) (ind p.1)=p.2:=by
 rw [bT,qJ fun q hq=>(EO ((List.pairwise_cons.mp c.up).1 q hq)).symm]
 simp [ind]
theorem Canon.low {t:Str} {p:Str×Int} {a:Ps} (c:Canon (p::a)) (h:lt t p.1=true):bT (p::a) (ind t)=0:=by
 refine qJ fun q hq=>?_
 rcases List.mem_cons.mp hq with rfl | hq
 ·exact (EO h).symm
 ·exact (EO (lt_trans h ((List.pairwise_cons.mp c.up).1 q hq))).symm
theorem Canon.same:∀ {a b:Ps},Canon a→Canon b→(∀ f,bT a f=bT b f)→a=b
 | [],[],_,_,_=>rfl
 | [],p::b,_,cb,h=>by
  have e:=h (ind p.1)
  rw [cb.head] at e
  exact absurd e.symm (cb.nz p (List.mem_cons_self ..))
 | p::a,[],ca,_,h=>by
  have e:=h (ind p.1)
  rw [ca.head] at e
  exact absurd e (ca.nz p (List.mem_cons_self ..))
 | p::a,q::b,ca,cb,h=>by
  rcases wD p.1 q.1 with g | g | g
  ·have e:=h (ind p.1)
   rw [ca.head,cb.low g] at e
   exact absurd e (ca.nz p (List.mem_cons_self ..))
  ·have e:=h (ind p.1)
   rw [ca.head,g,cb.head] at e
   have pq:p=q:=Prod.ext g e
   subst pq
   rw [Canon.same ca.tail cb.tail fun f=>by have:=h f;simp only [bT] at this;omega]
  ·have e:=h (ind q.1)
   rw [cb.head,ca.low g] at e
   exact absurd e.symm (cb.nz q (List.mem_cons_self ..))
def p9 (a b:Ps):Prop:=Canon b∧∀ f,bT b f=bT a f
theorem p9.same {a b a' b':Ps} (h:p9 a b) (h':p9 a' b') (e:∀ f,bT a f=bT a' f):b=b':=h.1.same h'.1 fun f=>by rw [h.2,h'.2,e]
theorem Canon.nil:Canon []:=⟨.nil,fun _ h=>nomatch h⟩
def get (d:Ps) (t:Str):Int:=((d.find? fun p=>decide (p.1=t)).map (·.2)).getD 0
def put (d:Ps) (t:Str) (n:Int):Ps:=if (d.any fun p=>decide (p.1=t))=true then d.map (fun p=>if p.1=t then (p.1,n) else p) else d++[(t,n)]
def keys (d:Ps):List Str:=d.map (·.1)
theorem dS (p:Str×Int) (r:Ps) (t:Str):get (p::r) t=if p.1=t then p.2 else get r t:=by
 unfold get
 by_cases e:p.1=t
 ·simp [List.find?_cons,e]
 ·simp [List.find?_cons,e]
theorem nR (d:Ps) (t:Str):(d.any fun p=>decide (p.1=t))=true↔t∈keys d:=by
 unfold keys
 rw [List.any_eq_true,List.mem_map]
 constructor
 ·rintro ⟨p,h,e⟩;exact ⟨p,h,of_decide_eq_true e⟩
 ·rintro ⟨p,h,e⟩;exact ⟨p,h,decide_eq_true e⟩
theorem zU:∀ {d:Ps} {t:Str},t ∉ keys d→get d t=0
 | [],_,_=>rfl
 | p::r,t,h=>by
  have h':p.1≠t∧t ∉ keys r:=by
   constructor
   ·intro e;exact h (by unfold keys;rw [List.map_cons,e];exact List.mem_cons_self ..)
   ·intro e;exact h (List.mem_cons_of_mem _ e)
  rw [dS,if_neg h'.1,zU h'.2]
theorem wK (d:Ps) (t:Str) (n:Int):keys (put d t n)=if t∈keys d then keys d else keys d++[t]:=by
 unfold put
 by_cases h:t∈keys d
 ·rw [if_pos ((nR d t).mpr h),if_pos h]
  unfold keys
  rw [List.map_map]
  refine List.map_congr_left fun p _=>?_
  show (if p.1=t then (p.1,n) else p).1=p.1
  split <;> rfl
 ·rw [if_neg (fun e=>h ((nR d t).mp e)),if_neg h]
  unfold keys
  rw [List.map_append];rfl
theorem yj {d:Ps} {t:Str} {n:Int} (h:(keys d).Nodup):(keys (put d t n)).Nodup:=by
 rw [wK]
 by_cases e:t∈keys d
 ·rw [if_pos e];exact h
 ·rw [if_neg e,List.nodup_append]
  refine ⟨h,by simp,fun x hx y hy=>?_⟩
  rw [List.mem_singleton] at hy
  rw [hy];rintro rfl;exact e hx
theorem EU (d:Ps) (t:Str) (n:Int):(put d t n).length≤d.length+1:=by
 have h:(keys (put d t n)).length≤(keys d).length+1:=by
  rw [wK];split
  ·omega
  ·simp
 simpa [keys] using h
theorem Bl (t:Str) (n:Int) (f:Str→Int):∀ {d:Ps},(keys d).Nodup→t∈keys d→bT (d.map fun p=>if p.1=t then (p.1,n) else p) f=bT d f+(n - get d t)*f t
 | [],_,h=>by simp [keys] at h
 | p::r,nd,h=>by
  have UU:p.1 ∉ keys r∧(keys r).Nodup:=List.nodup_cons.mp nd
  rw [List.map_cons,bT,bT,dS]
  by_cases e:p.1=t
  ·have hr:r.map (fun p=>if p.1=t then (p.1,n) else p)=r:=by
    refine (List.map_congr_left fun q hq=>?_).trans (List.map_id r)
    rw [if_neg];rfl
    intro z
    exact UU.1 (by rw [e,← z];exact List.mem_map.mpr ⟨q,hq,rfl⟩)
   rw [hr,if_pos e,if_pos e,Int.sub_mul]
   show n*f p.1+_=_
   rw [e];omega
  ·have ht:t∈keys r:=(List.mem_cons.mp h).resolve_left fun z=>e z.symm
   rw [if_neg e,if_neg e,Bl t n f UU.2 ht];omega
theorem Nx {d:Ps} (t:Str) (n:Int) (f:Str→Int) (nd:(keys d).Nodup):bT (put d t n) f=bT d f+(n - get d t)*f t:=by
 unfold put
 by_cases h:t∈keys d
 ·rw [if_pos ((nR d t).mpr h),Bl t n f nd h]
 ·rw [if_neg (fun e=>h ((nR d t).mp e)),cI,zU h];simp [bT]
def step (d:Ps) (p:Str×Int):Ps:=put d p.1 (get d p.1+p.2)
structure Tab (pre d:Ps):Prop where
 nd:(keys d).Nodup
 len:d.length≤pre.length
 bT:∀ f,bT d f=bT pre f
theorem Tab.nil:Tab [] []:=⟨.nil,Nat.le_refl _,fun _=>rfl⟩
theorem Tab.step {pre d:Ps} (h:Tab pre d) (p:Str×Int):Tab (pre++[p]) (step d p):=by
 refine ⟨yj h.nd,?_,fun f=>?_⟩
 ·have:=EU d p.1 (get d p.1+p.2);have:=h.len;simp;unfold Hw.step;omega
 ·unfold Hw.step
  rw [Nx _ _ _ h.nd,cI,h.bT]
  simp only [Hw.bT]
  have:get d p.1+p.2 - get d p.1=p.2:=by omega
  rw [this];omega
theorem Bm:∀ {d:Ps} (f:Str→Int),(keys d).Nodup→bT ((keys d).map fun t=>(t,get d t)) f=bT d f
 | [],_,_=>rfl
 | p::r,f,nd=>by
  have UU:p.1 ∉ keys r∧(keys r).Nodup:=List.nodup_cons.mp nd
  show bT ((p.1,get (p::r) p.1)::(keys r).map fun t=>(t,get (p::r) t)) f=_
  have e:((keys r).map fun t=>(t,get (p::r) t))=(keys r).map fun t=>(t,get r t):=by
   refine List.map_congr_left fun t ht=>?_
   rw [dS,if_neg (fun z=>UU.1 (by rw [z];exact ht))]
  rw [e,bT,Bm f UU.2,dS,if_pos rfl,bT]
def outs (d:Ps) (ys:List Str):Ps:=(ys.map fun t=>(t,get d t)).filter fun p=>decide (p.2≠0)
theorem Tab.gat {pre d:Ps} {ys:List Str} (h:Tab pre d) (hp:ys.Perm (keys d)) (hs:ys.Pairwise fun a b=>lt b a=false):p9 pre (outs d ys):=by
 have nd:ys.Nodup:=hp.nodup_iff.mpr h.nd
 have up:ys.Pairwise fun a b=>lt a b=true:=by
  have:=hs.and nd
  refine this.imp fun {a b} q=>?_
  rcases wD a b with e | e | e
  ·exact e
  ·exact absurd e q.2
  ·rw [q.1] at e;cases e
 refine ⟨⟨?_,fun p hp=>?_⟩,fun f=>?_⟩
 ·unfold outs
  refine List.Pairwise.filter _ ?_
  rw [List.pairwise_map];exact up
 ·exact of_decide_eq_true (List.mem_filter.mp hp).2
 ·unfold outs
  rw [pM,Kn (hp.map _),Bm f h.nd,h.bT]
end Hw
namespace L2
open PySem PySem.Spec PyProof.Rows
section
variable {X:Cx}
theorem ue:∀ (p:Str) (l:List Str),risingS p l=true→(p::l).Pairwise fun a b=>Hw.lt b a=false
 | p,[],_=>by simp
 | p,x::r,h=>by
  have h:(!ltCps x.cps.toList p.cps.toList && risingS x r)=true:=h
  rw [Bool.and_eq_true,Bool.not_eq_true'] at h
  have ih:=ue x r h.2
  refine List.pairwise_cons.mpr ⟨fun y hy=>?_,ih⟩
  rcases List.mem_cons.mp hy with rfl | hy
  ·exact h.1
  ·exact Hw.not_lt_trans h.1 ((List.pairwise_cons.mp ih).1 y hy)
theorem zd:∀ (l:List Str),sortedS l=true→l.Pairwise fun a b=>Hw.lt b a=false
 | [],_=>.nil
 | x::r,h=>ue x r h
theorem vz:∀ {ss:List Str} {us:List Value},StrsAre us ss→Vals (ss.map V.str) us
 | _,_,.nil=>.nil
 | _,_,.cons x t h=>.cons ⟨t,rfl⟩ (vz h)
theorem uf:∀ {ss:List Str} {us:List Value},Vals (ss.map V.str) us→StrsAre us ss:=by
 intro ss
 induction ss with
 | nil=>intro us r;rw [List.map_nil] at r;cases r;exact .nil
 | cons x ss ih =>
  intro us r
  rw [List.map_cons] at r
  cases r with
  | cons r1 r2 =>
   obtain ⟨t,e⟩:=r1
   subst e
   exact .cons x t (ih r2)
theorem tO:∀ {xs:List V} {us:List Value},xs.length=us.length→(∀ (i:Nat) x,xs[i]?=some x→∃ u,us[i]?=some u∧RelV x u)→Vals xs us
 | [],[],_,_=>.nil
 | [],_::_,h,_=>by simp at h
 | _::_,[],h,_=>by simp at h
 | x::xs,u::us,h,g=>by
  obtain ⟨v,e,r⟩:=g 0 x rfl
  cases e
  exact .cons r (tO (by simpa using h) fun i y hy=>g (i+1) y hy)
theorem cX.here {P:Program} {w:World} {H:Hp} {h:Heap} {a:Addr} {o:HO} (x:cX P w H h a o):∃ u,h.get? a=some u:=by
 cases o with
 | lst xs=>obtain ⟨_,_,_,_,e⟩:=x;exact ⟨_,e⟩
 | tup xs=>obtain ⟨_,_,_,o,e,_⟩:=x;exact ⟨_,e⟩
 | dK kvs=>obtain ⟨_,_,_,_,o,_,_,e,_⟩:=x;exact ⟨_,e⟩
 | dT kvs=>obtain ⟨_,_,_,_,o,_,_,e,_⟩:=x;exact ⟨_,e⟩
 | set S n=>obtain ⟨o,_,_,_,e,_⟩:=x;exact ⟨_,e⟩
 | ins C dx fs=>obtain ⟨_,_,_,e,_⟩:=x;exact ⟨_,e⟩
 | own y=>obtain ⟨_,e⟩:=x;exact ⟨_,e⟩
 | xd fs=>obtain ⟨_,⟨_,_,_,e,_⟩,_⟩:=x;exact ⟨_,e⟩
 | Xk lo hi=>obtain ⟨_,_,_,e⟩:=x;exact ⟨_,e⟩
 | K5 ob u=>obtain ⟨e,_⟩:=x;exact ⟨_,e⟩
 | OW ps=>exact ⟨_,(show h.get? a=some _ from x)⟩
 | met f y=>exact ⟨_,(show h.get? a=some _ from x)⟩
 | ext φ=>obtain ⟨_,⟨_,e⟩,_⟩:=x;exact ⟨_,e⟩
theorem Inv.U1 {pins:List (Addr×Obj)} {σ:St} {H:Hp} {s:Shared} {h':Heap} {a:Addr} {o:HO} {t':Nat} (I:Inv X pins σ H s) (k:∀ b u,s.heap.get? b=some u→h'.get? b=some u) (hp:∀ b u,s.heap.get? b=some u→b≠a) (new:cX X.prog X.w (upd H a o) h' a o) :
  H a=none∧Inv X pins σ (upd H a o) { s with heap:=h',toks:=t' }:=by
 have hn:H a=none:=by
  cases q:H a with
  | none=>rfl
  | some u=>obtain ⟨v,e⟩:=(I.hok a u q).here;exact absurd rfl (hp a v e)
 refine ⟨hn,I.un ⟨fun b u e _ _ _=>k b u e,fun b u e _ _ _=>⟨u.slots,k b u e⟩,fun b u e n _=>by rw [aM (hp b u e)];exact n,fun b u e _=>⟨u,k b u e⟩,fun b xs e=>by rw [aM (av e hn)];exact e,fun b u xs e=>by rw [aM (av e hn)];exact e,fun b ps e=>⟨#[],by rw [aM (av e hn),e];simp⟩⟩ fun b u e=>?_⟩
 by_cases hb:b=a
 ·subst hb;rw [ah] at e;cases e;exact new
 ·rw [aM hb] at e
  exact (I.hok b u e).stay (fun c v _ q=>k c v q) (fun c q=>by rw [aM (av q hn)];exact q) fun c xs q=>by rw [aM (av q hn)];exact q
theorem kX (hc:X.calm=true):j9 X (.builtin "sorted") (fun xs H Q=>∃ p kvs ss,xs=[.ref p]∧H p=some (.dK kvs)∧kvs.map (·.1)=List.map (Sum.inr:Str→Key) ss∧kvs.length < 64 ∧
  ∀ l ys,H l=none→List.Perm ys ss→ys.Pairwise (fun a b=>Hw.lt b a=false)→Q (.ref l) (upd H l (.lst (ys.map V.str)))):=by
 intro pins s σ H xs us Q I r h
 obtain ⟨p,kvs,ss,rfl,hp,hk,h64,q⟩:=h
 obtain ⟨u,rfl,ru⟩:=vals1 r
 cases ru
 obtain ⟨hz,lo,vs,rel,dd⟩:=wX I.hok (.inl hp)
 obtain ⟨ep,hat⟩:=dd.dictAt
 have lQ:=rel.length
 refine Calls.call_function_entry kind_sorted plain_sorted entry_sorted (args_sorted1 _) ?_
 unfold Builtin.«sorted»
 refine wpAny_bind (m:=checkCount "sorted" 1 1 _) (wpAny_pure (wpAny_bind (PySem.W.kdu_collect (A:=X.A.in1) (PySem.W.kdl_dict (knd:=cM X.prog X.w) (kvs:=vs) (ep:=ep) lo) (I.ok.hd hc) hat (by rw [← lQ];exact hz) fun h' tk acc kp hacc=>?_)))
 have hS:StrsAre acc.toList ss:=by
  refine uf (tO ?_ fun i x hx=>?_)
  ·have:(kvs.map (·.1)).length=(List.map (Sum.inr:Str→Key) ss).length:=by rw [hk]
   rw [List.length_map,List.length_map] at this
   have el:acc.toList.length=kvs.length:=by rw [Array.length_toList,hacc.1,← lQ]
   rw [List.length_map,el,this]
  ·rw [List.getElem?_map] at hx
   cases e:ss[i]? with
   | none=>rw [e] at hx;cases hx
   | some y =>
    rw [e] at hx
    cases hx
    have hi:i < acc.size:=by
     have h1:i < ss.length:=(List.getElem?_eq_some_iff.mp e).1
     have:(kvs.map (·.1)).length=(List.map (Sum.inr:Str→Key) ss).length:=by rw [hk]
     rw [List.length_map,List.length_map] at this
     rw [hacc.1];omega
    obtain ⟨k,x,hv,hkk⟩:=hacc.2 i acc[i] (by simp)
    have ek:(vs.map (·.1))[i]?=some (Sum.inr y):=by rw [← rel.keys,hk,List.getElem?_map,e];rfl
    rw [List.getElem?_map,hv] at ek
    have ek:k=Sum.inr y:=Option.some.inj ek
    subst ek
    rcases cR (show wM (Sum.inr y) acc[i]=true from hkk) with ⟨_,_,z,_⟩ | ⟨z,t,z1,z2⟩
    ·cases z
    ·cases z1
     exact ⟨acc[i],by simp,t,z2⟩
 have hla:acc.toList.length < 64:=by rw [Array.length_toList,hacc.1,← lQ];exact h64
 refine wpAny_bind (wpAny_newList ?_ (by
   have:64≤sizeLine:=by rw [sizeLine_eq];decide
   omega))
 have ho:(h'.push (seqObj "list" acc.toList.toArray 0)).get? h'.objs.size=some (seqObj "list" acc.toList.toArray 0):=Heap.get?_push_size _ rfl
 refine wpAny_bind (wpAny_holding (wpAny_call_entry slot_list_sort ⟨_,ho,rfl⟩ entry_list_sort (list_sort_treeK (s:={ s with heap:=h'.push (seqObj "list" acc.toList.toArray 0),toks:=tk }) strKind_oneLt ho hS.keysOf (fun v1 v2 rest e=>keyKind_strs (by rw [← e];exact hS)) hla fun st' a1 a2=>⟨_,rfl,?_⟩) (args_list_sort _)))
 obtain ⟨ss',b1,b2,b3⟩:=sorted_out_str hS a1 a2
 obtain ⟨e,he⟩:=sortedHeap_at (out:=(arrOf st').map (·.2)) ho
 have hss:(ss'.map V.str).length≤sizeLine:=by
  have h1:64≤sizeLine:=by rw [sizeLine_eq];decide
  have h2:(ss'.map V.str).length=acc.toList.length:=by rw [List.length_map,b2.length_eq,← StrsAre.length hS]
  rw [h2]
  exact Nat.le_trans (Nat.le_of_lt hla) h1
 have L:=I.U1 (h':=sortedHeap (h'.push (seqObj "list" acc.toList.toArray 0)) h'.objs.size acc.toList ((arrOf st').map (·.2))) (a:=h'.objs.size) (o:=.lst (ss'.map V.str)) (t':=tk)
  (fun b u q=>by
   have l:=Heap.lt_size (kp b u q)
   rw [sortedHeap_old (Nat.ne_of_lt l) (by rw [Heap.size_push];exact Nat.lt_succ_of_lt l)]
   exact Heap.get?_push_of_some _ (kp b u q))
  (fun b u q=>Nat.ne_of_lt (Heap.lt_size (kp b u q)))
  ⟨hss,((arrOf st').map (·.2)).toList,e,vz b1,by rw [Array.toArray_toList];exact he⟩
 exact wpAny_pure ⟨_,rfl,.ref h'.objs.size,_,L.2,rfl,q _ ss' L.1 b2 (zd _ b3)⟩
def q8 (K:PySem.W.Frag) (H:Hp):Nat→V→V→Prop
 | 0,x,y=>j4 x=true∧x=y
 | n+1,x,y=>(j4 x=true∧x=y)∨∃ a b xs ys,x=.ref a∧y=.ref b∧((bC K H a xs∧bC K H b ys)∨(aX K H a xs∧aX K H b ys))∧Paired (q8 K H n) xs ys
theorem Lv {x:V} (h:j4 x=true):E8 x x=true:=by
 cases x with
 | fL=>rfl
 | bl b=>simp [E8]
 | int i=>simp [E8]
 | str z=>simp [E8]
 | _=>cases h
theorem AX {F:V→V→Prop}:∀ {xs ys:List V},Paired F xs ys→∀ {i:Nat} {x y:V},xs[i]?=some x→ys[i]?=some y→F x y
 | _,_,.nil,_,_,_,e,_=>by simp at e
 | _,_,.cons r t,0,_,_,e,e'=>by simp at e e';rw [← e,← e'];exact r
 | _,_,.cons r t,i+1,_,_,e,e'=>AX t (by simpa using e) (by simpa using e')
theorem kO {K:PySem.W.Frag} {n:Nat} {H:Hp} {A:Around} {s:Shared} {xs ys:List V} {us vs:List Value} (p:Paired (q8 K H n) xs ys) (r:Vals xs us) (r':Vals ys vs)
  (ih:∀ x y u v,RelV x u→RelV y v→q8 K H n x y→SeqAt.EqAt A s u v true):∀ (j:Nat) (h1:j < us.toArray.size) (h2:j < vs.toArray.size),SeqAt.EqAt A s us.toArray[j] vs.toArray[j] true:=by
 intro j h1 h2
 have l1:=r.length
 have l2:=r'.length
 simp only [List.size_toArray] at h1 h2
 have e1:xs[j]?=some xs[j]:=List.getElem?_eq_getElem (by omega)
 have e2:ys[j]?=some ys[j]:=List.getElem?_eq_getElem (by omega)
 obtain ⟨u,hu,ru⟩:=r.get e1
 obtain ⟨v,hv,rv⟩:=r'.get e2
 have Mc:us.toArray[j]=u:=by
  rw [List.getElem?_eq_getElem h1] at hu;simpa using hu
 have hv':vs.toArray[j]=v:=by
  rw [List.getElem?_eq_getElem h2] at hv;simpa using hv
 rw [Mc,hv']
 exact ih _ _ u v ru rv (AX p e1 e2)
theorem tG (n:Nat):((List.range n).all fun _=>true)=true:=by rw [List.all_eq_true];intro _ _;rfl
theorem like_eq {pins:List (Addr×Obj)} {σ:St} {H:Hp} {s:Shared} (I:Inv X pins σ H s):∀ (n:Nat) (A:Around),A.units+n < cLine→∀ x y u v,RelV x u→RelV y v→q8 X.K H n x y→SeqAt.EqAt A s u v true:=by
 intro n
 have flat:∀ (A:Around) (x y:V) (u v:Value),RelV x u→RelV y v→j4 x=true∧x=y→SeqAt.EqAt A s u v true:=by
  rintro A x y u v ru rv ⟨f,rfl⟩
  have:=Lx (A:=A) (s:=s) ru rv f f
  rw [Lv f] at this
  exact this
 induction n with
 | zero=>intro A hu x y u v ru rv h;exact flat A x y u v ru rv h
 | succ n ih =>
  intro A hu x y u v ru rv h
  rcases h with h | ⟨a,b,xs,ys,rfl,rfl,h,p⟩
  ·exact flat A x y u v ru rv h
  ·cases ru
   cases rv
   have ih':=ih A.in1 (by show A.units+1+n < cLine;omega)
   by_cases hab:a=b
   ·subst hab;exact SeqAt.EqAt.same _
   ·refine .of_refs hab ?_
    have lp:xs.length=ys.length:=Paired.length p
    rcases h with ⟨ha,hb⟩ | ⟨ha,hb⟩
    ·obtain ⟨us,r1,p1,_⟩:=I.list ha
     obtain ⟨vs,r2,p2,_⟩:=I.list hb
     have l1:=r1.length
     have l2:=r2.length
     have:=SeqAt.RcAt.lists (A:=A) (e:=fun _=>true) p1.isList p2.isList (by simp only [List.size_toArray];omega) (by omega) (kO p r1 r2 ih')
     rw [tG] at this
     exact this
    ·obtain ⟨us,r1,p1,_⟩:=I.tuple ha
     obtain ⟨vs,r2,p2,_⟩:=I.tuple hb
     have l1:=r1.length
     have l2:=r2.length
     have:=SeqAt.RcAt.tuples (A:=A) (e:=fun _=>true) (show s.heap.IsTuple a us.toArray from p1) (show s.heap.IsTuple b vs.toArray from p2) (by omega) (kO p r1 r2 ih')
     have e:(us.toArray.size == vs.toArray.size)=true:=by simp only [List.size_toArray,beq_iff_eq];omega
     rw [tG,e] at this
     exact this
def O1 (K:PySem.W.Frag) (n:Nat) (k:Bool):R2:=fun x y H Q=>∃ a b xs ys,x=.ref a∧y=.ref b∧((bC K H a xs∧bC K H b ys)∨(aX K H a xs∧aX K H b ys))∧Paired (q8 K H n) xs ys∧Q (.bl k) H
theorem QG (n:Nat) (hu:X.A.units+1+n < cLine):ow X (compareOp .NotEq) (O1 X.K n false):=by
 intro pins s σ H x y v u Q I rx ry h
 obtain ⟨a,b,xs,ys,rfl,rfl,h,p,q⟩:=h
 cases rx
 cases ry
 have ih':=like_eq I n X.A.in1 (by show X.A.units+1+n < cLine;omega)
 have lp:xs.length=ys.length:=Paired.length p
 have fin:EP X pins σ Q (.bool false) s:=⟨.bl false,H,I,rfl,q⟩
 rcases h with ⟨ha,hb⟩ | ⟨ha,hb⟩
 ·obtain ⟨us,r1,p1,_⟩:=I.list ha
  obtain ⟨vs,r2,p2,_⟩:=I.list hb
  have l1:=r1.length
  have l2:=r2.length
  exact SeqAt.RcNeAt.lists (A:=X.A) (e:=fun _=>true) p1.isList p2.isList (by simp only [List.size_toArray];omega) (by omega) (kO p r1 r2 ih') _ _ _ _ (by rw [tG];exact fin)
 ·obtain ⟨us,r1,p1,_⟩:=I.tuple ha
  obtain ⟨vs,r2,p2,_⟩:=I.tuple hb
  have l1:=r1.length
  have l2:=r2.length
  have e:(us.toArray.size == vs.toArray.size)=true:=by simp only [List.size_toArray,beq_iff_eq];omega
  exact SeqAt.RcNeAt.tuples (A:=X.A) (e:=fun _=>true) (show s.heap.IsTuple a us.toArray from p1) (show s.heap.IsTuple b vs.toArray from p2) (by omega) (kO p r1 r2 ih') _ _ _ _ (by rw [tG,e];exact fin)
def rJoin:V→List V→Hp→VK→Prop:=fun x vs H Q=>∃ sep p ss,x=.str sep∧vs=[.ref p]∧H p=some (.lst (List.map V.str ss))∧(ss.map (·.length)).sum+ss.length*sep.length≤16777216∧Q (.str (Txt.join sep ss)) H
theorem Nn:MtR X "str.join" rJoin:=by
 intro pins s σ H x vs v us Q I rx rv h
 obtain ⟨sep,p,ss,rfl,rfl,hp,hz,q⟩:=h
 obtain ⟨t,rfl⟩:=rx
 obtain ⟨u,rfl,ru⟩:=rv.one
 cases ru
 obtain ⟨its,r,pl,_⟩:=I.list (bC.of hp)
 exact join_list pl.isList (by simpa using uf r) hz fun t' k=>⟨.str _,H,I.tok _,⟨_,rfl⟩,q⟩
def Jc (K:PySem.W.Frag):R2:=fun x y H Q=>∃ a b xs ys,x=.ref a∧y=.ref b∧aX K H a xs∧aX K H b ys∧xs.length+ys.length≤sizeLine ∧
 (xs=[]→Q (.ref b) H)∧(xs≠[]→ys=[]→Q (.ref a) H)∧(xs≠[]→ys≠[]→∀ p,H p=none→Q (.ref p) (upd H p (.tup (xs++ys))))
theorem nF:ow X (binaryOp .Add) (Jc X.K):=by
 intro pins s σ H x y v u Q I rx ry h
 obtain ⟨a,b,xs,ys,rfl,rfl,ha,hb,hz,q0,q1,q2⟩:=h
 by_cases hx:xs=[]
 ·cases rx
  cases ry
  obtain ⟨its,r1,p1,_⟩:=I.tuple ha
  obtain ⟨its2,r2,p2,_⟩:=I.tuple hb
  obtain ⟨⟨cls,dd,data,sl⟩,ho,hc,n,hd⟩:=id p1
  obtain ⟨⟨a9g,dd2,data2,sl2⟩,ho2,hc2,n2,hd2⟩:=id p2
  simp only at hc hd hc2 hd2
  subst hc hd hc2 hd2
  have hi:its=[]:=r1.uX.mpr hx
  refine concat_meets ⟨_,ho,rfl⟩ ⟨_,ho2,rfl⟩ noFill_tuple_add seq_tuple_add PySem.F.slot_tuple_add PySem.F.entry_tuple_add (PySem.F.args_tuple_add_2 _ _)
   (tuple_addW0 a b its.toArray its2.toArray n n2 dd dd2 sl sl2 (by simp [hi])) ⟨ho,ho2,?_⟩
  exact ⟨.ref b,H,I,rfl,q0 hx⟩
 ·exact MU pins s σ H _ _ v u Q I rx ry ⟨a,b,xs,ys,rfl,rfl,ha,hb,hx,hz,q1 hx,fun hy=>q2 hx hy⟩
def a0Z (K:PySem.W.Frag):R2:=fun x y H Q=>∃ p xs k v,x=.ref p∧y=.int (k:Nat)∧bC K H p xs∧xs[k]?=some v∧Q v H
theorem K3:W7 X (a0Z X.K):=by
 intro pins s σ H o i ov iv Q I ro ri h
 obtain ⟨p,xs,k,v,rfl,rfl,hq,he,q⟩:=h
 cases ro
 obtain ⟨t,rfl⟩:=ri
 obtain ⟨its,r,pl,hz⟩:=I.list hq
 obtain ⟨w,ew,rw'⟩:=r.get he
 have hk:k < xs.length:=(List.getElem?_eq_some_iff.mp he).1
 have hn:=sG
 exact wpAny_getItem_list pl.isList (by omega) (by omega) (by simpa using ew) ⟨v,H,I,rw',q⟩
end
end L2
namespace Hw
open PySem L2
theorem new {H:Hp} {p:Addr} {o:HO} (h:H p=none):az H (upd H p o):=fun b u e=>by rw [aM (av e h)];exact e
def bQ (d:Addr) (H H':Hp):Prop:=∀ b o,H b=some o→b≠d→H' b=some o
theorem bQ.of {d:Addr} {H H':Hp} (h:az H H'):bQ d H H':=fun b o e _=>h b o e
theorem bQ.trans {d:Addr} {H H1 H2:Hp} (a:bQ d H H1) (b:bQ d H1 H2):bQ d H H2:=fun c o e n=>b c o (a c o e n) n
theorem bQ.upd {d:Addr} {H:Hp} {o:HO}:bQ d H (L2.upd H d o):=fun b u e n=>by rw [aM n];exact e
theorem bQ.new {d:Addr} {H H1:Hp} {p:Addr} {o:HO} (a:bQ d H H1) (h:H1 p=none):bQ d H (L2.upd H1 p o):=fun b u e n=>Hw.new h b u (a b u e n)
theorem az.new {H H1:Hp} {p:Addr} {o:HO} (a:az H H1) (h:H1 p=none):az H (L2.upd H1 p o):=a.trans (Hw.new h)
def Pr (H:Hp) (v:V) (p:Str×Int):Prop:=∃ a,v=.ref a∧H a=some (.tup [.str p.1,.int p.2])
abbrev xX (H:Hp):List V→Ps→Prop:=Paired (Pr H)
theorem Pr.keep {H H':Hp} {v:V} {p:Str×Int} (h:∀ a xs,H a=some (.tup xs)→H' a=some (.tup xs)) (x:Pr H v p):Pr H' v p:=let ⟨a,e,q⟩:=x;⟨a,e,h _ _ q⟩
theorem xX.keep {H H':Hp} {vs:List V} {ps:Ps} (h:∀ a xs,H a=some (.tup xs)→H' a=some (.tup xs)) (x:xX H vs ps):xX H' vs ps:=L2.Paired.cF x fun _ _ q=>q.keep h
def Lp (H:Hp) (a:Addr) (ps:Ps):Prop:=∃ vs,H a=some (.lst vs)∧xX H vs ps
def Tp (H:Hp) (a:Addr) (ps:Ps):Prop:=∃ vs,H a=some (.tup vs)∧xX H vs ps
theorem Lp.same {H H':Hp} {a:Addr} {ps:Ps} (h:Lp H a ps) (s:az H H'):Lp H' a ps:=let ⟨vs,e,q⟩:=h;⟨vs,s _ _ e,q.keep fun _ _ z=>s _ _ z⟩
theorem Tp.same {H H':Hp} {a:Addr} {ps:Ps} (h:Tp H a ps) (s:az H H'):Tp H' a ps:=let ⟨vs,e,q⟩:=h;⟨vs,s _ _ e,q.keep fun _ _ z=>s _ _ z⟩
theorem bQ.tups {d:Addr} {H H':Hp} (b:bQ d H H') {xs:List V} (hd:H d=some (.lst xs)):∀ a ys,H a=some (.tup ys)→H' a=some (.tup ys):=fun a ys e=>b a _ e fun z=>by rw [z,hd] at e;cases e
theorem Jk {H:Hp}:∀ {vs:List V} {ps:Ps},xX H vs ps→∀ {i:Nat} {v:V},vs[i]?=some v→∃ p,ps[i]?=some p∧Pr H v p
 | _,_,.nil,_,_,e=>by simp at e
 | _,_,.cons r t,0,_,e=>by simp at e;subst e;exact ⟨_,rfl,r⟩
 | _,_,.cons r t,i+1,_,e=>Jk t (i:=i) (by simpa using e)
theorem bY {H:Hp} {vs:List V} {ps:Ps} (h:xX H vs ps):vs.length=ps.length:=Paired.length h
theorem fm {H:Hp}:∀ {vs ws:List V} {ps qs:Ps},xX H vs ps→xX H ws qs→xX H (vs++ws) (ps++qs)
 | _,_,_,_,.nil,s=>s
 | _,_,_,_,.cons r t,s=>.cons r (fm t s)
theorem fP {H:Hp} {v:V} {p:Str×Int} (h:Pr H v p):xX H [v] [p]:=.cons h .nil
theorem AS {K:PySem.W.Frag} {H:Hp}:∀ {vs ws:List V} {ps:Ps},xX H vs ps→xX H ws ps→Paired (q8 K H 1) vs ws
 | _,_,_,.nil,.nil=>.nil
 | _,_,_,.cons ⟨a,ea,ha⟩ t,.cons ⟨b,eb,hb⟩ t'=>.cons (.inr ⟨a,b,_,_,ea,eb,.inr ⟨aX.of ha,aX.of hb⟩,.cons ⟨rfl,rfl⟩ (.cons ⟨rfl,rfl⟩ .nil)⟩) (AS t t')
def enc (d:Ps):List (Key×V):=d.map fun p=>(Sum.inr p.1,V.int p.2)
theorem wW (d:Ps):(enc d).map (·.1)=List.map (Sum.inr:Str→Key) (keys d):=by
 unfold enc keys
 rw [List.map_map,List.map_map];rfl
theorem nO (d:Ps):(enc d).length=d.length:=List.length_map ..
theorem zZ (t:Str):∀ d:Ps,jQ (enc d) (Sum.inr t)=if t∈keys d then some (V.int (get d t)) else none
 | []=>by simp [enc,jQ,keys]
 | p::r=>by
  have ih:=zZ t r
  show jQ ((Sum.inr p.1,V.int p.2)::enc r) (Sum.inr t)=_
  by_cases e:p.1=t
  ·rw [lX (by simp [e]),dS,if_pos e,if_pos (by simp [keys,e])]
  ·have e':¬ t=p.1:=fun z=>e z.symm
   have hk:t∈keys (p::r)↔t∈keys r:=by
    unfold keys
    rw [List.map_cons,List.mem_cons]
    exact ⟨fun h=>h.resolve_left e',.inr⟩
   rw [jP (by simpa using e),ih,dS,if_neg e]
   simp only [hk]
theorem BG (d:Ps) (t:Str):(jQ (enc d) (Sum.inr t)).getD (V.int 0)=V.int (get d t):=by
 rw [zZ]
 by_cases h:t∈keys d
 ·rw [if_pos h];rfl
 ·rw [if_neg h,zU h];rfl
theorem N1 (d:Ps) (t:Str):((enc d).any fun kv=>decide (kv.1=(Sum.inr t:Key)))=d.any fun p=>decide (p.1=t):=by
 unfold enc
 rw [List.any_map]
 congr 1
 funext p
 simp
theorem z5 (d:Ps) (t:Str) (n:Int):putK (enc d) (Sum.inr t) (V.int n)=enc (put d t n):=by
 unfold putK put
 rw [N1]
 split
 ·unfold enc
  rw [List.map_map,List.map_map]
  refine List.map_congr_left fun p _=>?_
  by_cases e:p.1=t
  ·simp [e]
  ·simp [e]
 ·unfold enc
  rw [List.map_append];rfl
def tR (t:Addr) (n:Int):List (Str×V):=gG "number" (.int n) (gG "terms" (.ref t) [])
theorem tn:¬ (("terms":Str)="number"):=by decide +kernel
theorem cZ (t:Addr) (n:Int):(tR t n).lookup ("terms":Str)=some (.ref t):=by
 unfold tR
 rw [bu,if_neg tn,bu,if_pos rfl]
theorem cz (t:Addr) (n:Int):(tR t n).lookup ("number":Str)=some (.int n):=by
 unfold tR
 rw [bu,if_pos rfl]
theorem gj (t:Addr) (n:Int) {m:Str} (h1:¬ m="terms") (h2:¬ m="number"):(tR t n).lookup m=none:=by
 unfold tR
 rw [bu,if_neg h2,bu,if_neg h1]
 all_goals rfl
def cB (C:Addr) (H:Hp) (p:Addr) (ts:Ps) (n:Int):Prop:=∃ dx t,H p=some (.ins C dx (tR t n))∧Tp H t ts∧ts.length≤1000
theorem cB.same {C:Addr} {H H':Hp} {p:Addr} {ts:Ps} {n:Int} (h:cB C H p ts n) (s:az H H'):cB C H' p ts n:=let ⟨dx,t,e,q,z⟩:=h;⟨dx,t,s _ _ e,q.same s,z⟩
end Hw
namespace Hw
open PySem L2
def Dn (P:Program) (w:World) (K:PySem.W.Frag) (mg:Str→Option Value) (base:Heap) (k:Nat) (x:Str) (ps:List Str) (sp:Sp):Prop :=
 ∃ (f:Addr) (fd:FuncData),bF P w K mg base fh k f fd ps sp∧mg x=some (.ref f)∧PySem.W.keepIn K (.ref f)=true∧Binds K fd ps []
def Mt (P:Program) (w:World) (K:PySem.W.Frag) (mg:Str→Option Value) (base:Heap) (k:Nat) (C:Addr) (m:Str) (ps:List Str) (sp:Sp):Prop :=
 ∃ (f:Addr) (fd:FuncData),bF P w K mg base fh k f fd ps sp∧Meth K C m f∧Binds K fd ps []
def Mr (P:Program) (w:World) (K:PySem.W.Frag) (mg:Str→Option Value) (base:Heap) (k:Nat) (C:Addr) (ps:List Str) (sp:Sp):Prop :=
 ∃ (f:Addr) (fd:FuncData),bF P w K mg base fh k f fd ps sp∧Mk K C f∧Binds K fd ps []
structure Txt (K:PySem.W.Frag) (mg:Str→Option Value) (C:Addr):Prop where
 cl:Ef K C
 nT:fN K C "terms"
 nN:fN K C "number"
 sD:mg "Sum"=some (.ref C)
 len:mg "len"=none
 sum:mg "sum"=none
 sorted:mg "sorted"=none
 list:mg "list"=none
 tuple:mg "tuple"=none
 isinstance:mg "isinstance"=none
 range:mg "range"=none
 abs:mg "abs"=none
 str:mg "str"=none
 int:mg "int"=none
 dict:mg "dict"=none
 ca:PySem.W.findIn K (.ref C) "__class__"=some (some (.builtin "object.__class__"))
 cg:PySem.W.specialIn K (.builtin "object.__class__") "__get__"=some (some (.builtin "getset_descriptor.__get__"))
 ct:PySem.W.takesIn K (.builtin "object.__class__")=some true
 cm:PySem.W.mroIn K C (.type "object")=some true
 kS:PySem.W.kitOne K (.ref C) (.ref C)=some true
 kT:PySem.W.kitOne K (.type "tuple") (.type "tuple")=some true
def Sq (H:Hp) (a:Addr) (ps:Ps):Prop:=Lp H a ps∨Tp H a ps
theorem Sq.same {H H':Hp} {a:Addr} {ps:Ps} (h:Sq H a ps) (s:az H H'):Sq H' a ps:=h.elim (fun z=>.inl (z.same s)) fun z=>.inr (z.same s)
def lZ (C:Addr):Sp:=fun vs H Q _=>∃ (p dx l:Addr) (n:Int) (ps:Ps),vs=[.ref p,.ref l,.int n]∧H p=some (.ins C dx [])∧Sq H l ps∧ps.length≤1000 ∧
 ∀ H',bQ p H H'→cB C H' p ps n→Q .fL H'
def qj (C:Addr):Sp:=fun vs H Q _=>∃ (a:Addr) (n:Int) (ps:Ps),vs=[.ref a,.int n]∧Sq H a ps∧ps.length < 64 ∧
 ∀ (r:Addr) (ts:Ps) (H':Hp),az H H'→p9 ps ts→ts.length≤ps.length→cB C H' r ts n→Q (.ref r) H'
def CI (C:Addr):Sp:=fun vs H Q _=>∃ (p q:Addr) (a b:Ps) (n m:Int),vs=[.ref p,.ref q]∧cB C H p a n∧cB C H q b m∧a.length+b.length < 64 ∧
 ∀ (r:Addr) (ts:Ps) (H':Hp),az H H'→p9 (a++b) ts→ts.length≤a.length+b.length→cB C H' r ts (n+m)→Q (.ref r) H'
def uS (C:Addr):Sp:=fun vs H Q _=>∃ (p:Addr) (a:Ps) (n k:Int),vs=[.ref p,.int k]∧cB C H p a n∧a.length < 64∧(-(2 ^ 64) < k∧k < 2 ^ 64) ∧
 ∀ (r:Addr) (ts:Ps) (H':Hp),az H H'→p9 (a.map fun p=>(p.1,p.2*k)) ts→ts.length≤a.length→cB C H' r ts (n*k)→Q (.ref r) H'
def vD (C:Addr):Sp:=fun vs H Q _=>∃ (p q:Addr) (a b:Ps) (n m:Int),vs=[.ref p,.ref q]∧cB C H p a n∧cB C H q b m∧a.length+b.length < 64 ∧
 ∀ (r:Addr) (ts:Ps) (H':Hp),az H H'→p9 (a++b.map fun p=>(p.1,-p.2)) ts→ts.length≤a.length+b.length→cB C H' r ts (n - m)→Q (.ref r) H'
end Hw
namespace Hw
open PySem L2
structure Kp (H H':Hp):Prop where
 l:∀ b xs,H b=some (.lst xs)→H' b=some (.lst xs)
 t:∀ b xs,H b=some (.tup xs)→H' b=some (.tup xs)
theorem Kp.refl {H:Hp}:Kp H H:=⟨fun _ _ h=>h,fun _ _ h=>h⟩
theorem Kp.of {H H':Hp} (s:az H H'):Kp H H':=⟨fun _ _ h=>s _ _ h,fun _ _ h=>s _ _ h⟩
theorem Kp.but {d:Addr} {H H':Hp} (s:bQ d H H') (hl:∀ xs,H d≠some (.lst xs)) (ht:∀ xs,H d≠some (.tup xs)):Kp H H' :=
 ⟨fun b xs h=>s b _ h fun z=>hl xs (z ▸ h),fun b xs h=>s b _ h fun z=>ht xs (z ▸ h)⟩
theorem take_snoc {α:Type} {l:List α} {i:Nat} {x:α} (h:l[i]?=some x):l.take (i+1)=l.take i++[x]:=by
 rw [List.take_add_one,h];rfl
theorem get_some {H:Hp} {vs:List V} {ps:Ps} (r:xX H vs ps) {i:Nat} {v:V} (h:vs[i]?=some v):∃ p,ps[i]?=some p∧Pr H v p:=Jk r h
theorem vg {K:PySem.W.Frag} {a:Addr} {ps:Ps} {g:TG} {tt:TT} {te:TE} {σ0:St} {H:Hp} {R:List V→Hp→Prop} (h:Tp H a ps) (Pv:Nat→List V→Hp→Prop) (h0:Pv 0 [] H) (hS:∀ i ys H',Pv i ys H'→Kp H H')
  (hs:∀ i v p ys H',ps[i]?=some p→Pr H' v p→Pv i ys H'→g v σ0 H' fun σ2 H2=>Ext σ0 σ2∧tt σ2 H2 fun b H3=>if b=true then te σ2 H3 fun v H4=>ys.length < sizeLine∧Pv (i+1) (ys++[v]) H4 else Pv (i+1) ys H3)
  (hd:∀ ys H',Pv ps.length ys H'→R ys H'):(∃ xs,aX K H a xs)∧∃ W:Nat→Nat→List V→Hp→Prop,(∃ m,W 0 m [] H)∧ux (LV K a) g tt te σ0 W R:=by
 obtain ⟨vs,e,r⟩:=h
 refine ⟨⟨vs,aX.of e⟩,cU (xs:=vs) Pv h0 (fun i ys H' _ p=>aX.of ((hS i ys H' p).t _ _ e)) (fun i v ys H' hi p=>?_) ?_⟩
 ·obtain ⟨q,hq,pr⟩:=get_some r hi
  exact hs i v q ys H' hq (pr.keep (hS i ys H' p).t) p
 ·rw [bY r];exact hd
theorem Oe {K:PySem.W.Frag} {a:Addr} {ps:Ps} {g:TG} {tt:TT} {te:TE} {σ0:St} {H:Hp} {R:List V→Hp→Prop} (h:Sq H a ps) (Pv:Nat→List V→Hp→Prop) (h0:Pv 0 [] H) (hS:∀ i ys H',Pv i ys H'→Kp H H')
  (hs:∀ i v p ys H',ps[i]?=some p→Pr H' v p→Pv i ys H'→g v σ0 H' fun σ2 H2=>Ext σ0 σ2∧tt σ2 H2 fun b H3=>if b=true then te σ2 H3 fun v H4=>ys.length < sizeLine∧Pv (i+1) (ys++[v]) H4 else Pv (i+1) ys H3)
  (hd:∀ ys H',Pv ps.length ys H'→R ys H'):((∃ xs,bC K H a xs)∧∃ W:Nat→Nat→List V→Hp→Prop,(∃ m,W 0 m [] H)∧ux (Ou K a) g tt te σ0 W R)∨((∃ xs,aX K H a xs)∧∃ W:Nat→Nat→List V→Hp→Prop,(∃ m,W 0 m [] H)∧ux (LV K a) g tt te σ0 W R):=by
 rcases h with h | h
 ·obtain ⟨vs,e,r⟩:=h
  refine .inl ⟨⟨vs,bC.of e⟩,eg (xs:=vs) Pv h0 (fun i ys H' _ p=>bC.of ((hS i ys H' p).l _ _ e)) (fun i v ys H' hi p=>?_) ?_⟩
  ·obtain ⟨q,hq,pr⟩:=get_some r hi
   exact hs i v q ys H' hq (pr.keep (hS i ys H' p).t) p
  ·rw [bY r];exact hd
 ·exact .inr (vg h Pv h0 hS hs hd)
abbrev SV (J:It) (g:TG) (tb:TS) (D:Ends) (σ:St) (H:Hp):Prop:=∃ W:Nat→Nat→St→Hp→Prop,(∃ m,W 0 m σ H)∧∀ i m σ H,W i m σ H →
 (J.stop i H∧D.nx σ H)∨(J.go i H∧∃ N:St→Hp→Prop,(∀ σ' H',N σ' H'→∃ m',m' < m∧W (i+1) m' σ' H')∧∀ x H',J.PV i H x H'→g x σ H' fun σ2 H2=>tb { D with nx:=N,ct:=N,bk:=D.nx } σ2 H2)
theorem K7 {K:PySem.W.Frag} {a:Addr} {ps:Ps} {g:TG} {tb:TS} {D:Ends} {σ:St} {H:Hp} (h:Sq H a ps) (Pv:Nat→St→Hp→Prop) (h0:Pv 0 σ H) (hS:∀ i σ H',Pv i σ H'→Kp H H')
  (hs:∀ i v p σ H',ps[i]?=some p→Pr H' v p→Pv i σ H'→g v σ H' fun σ2 H2=>tb { D with nx:=Pv (i+1),ct:=Pv (i+1),bk:=D.nx } σ2 H2) (hd:∀ σ H',Pv ps.length σ H'→D.nx σ H') :
  ((∃ xs,bC K H a xs)∧SV (Ou K a) g tb D σ H)∨((∃ xs,aX K H a xs)∧SV (LV K a) g tb D σ H):=by
 rcases h with ⟨vs,e,r⟩ | ⟨vs,e,r⟩
 ·refine .inl ⟨⟨vs,bC.of e⟩,jZ (xs:=vs) Pv h0 (fun i σ H' _ p=>bC.of ((hS i σ H' p).l _ _ e)) (fun i v σ H' hi p=>?_) ?_⟩
  ·obtain ⟨q,hq,pr⟩:=get_some r hi
   exact hs i v q σ H' hq (pr.keep (hS i σ H' p).t) p
  ·rw [bY r];exact hd
 ·refine .inr ⟨⟨vs,aX.of e⟩,kU (xs:=vs) Pv h0 (fun i σ H' _ p=>aX.of ((hS i σ H' p).t _ _ e)) (fun i v σ H' hi p=>?_) ?_⟩
  ·obtain ⟨q,hq,pr⟩:=get_some r hi
   exact hs i v q σ H' hq (pr.keep (hS i σ H' p).t) p
  ·rw [bY r];exact hd
theorem line (n:Nat) (h:n≤100000):n < sizeLine:=by rw [sizeLine_eq];omega
theorem szl (n:Nat) (h:n≤100000:=by decide):n≤sizeLine:=Nat.le_of_lt (line n h)
theorem uR {H:Hp} {d:Addr} {x y:HO}:upd (upd H d x) d y=upd H d y:=by
 funext b
 by_cases e:b=d
 ·subst e;rw [ah,ah]
 ·rw [aM e,aM e,aM e]
theorem Kp.dict {H:Hp} {d:Addr} {x y:List (Key×V)}:Kp (upd H d (.dK x)) (upd H d (.dK y)):=by
 constructor
 ·intro b xs h
  by_cases e:b=d
  ·subst e;rw [ah] at h;cases h
  ·rw [aM e] at h ⊢;exact h
 ·intro b xs h
  by_cases e:b=d
  ·subst e;rw [ah] at h;cases h
  ·rw [aM e] at h ⊢;exact h
theorem mJ {H:Hp} {d:Addr} {e:Ps} {t:Str} (h:H d=some (.dK (enc e))) (m:t∈keys e):nZ H d (.str t) (some (.int (get e t))):=by
 have q:=nZ.k (k:=(Sum.inr t:Key)) h
 rw [zZ,if_pos m] at q
 exact q
theorem nE (e:Ps) (ys:List Str) (y:Str):outs e (ys++[y])=outs e ys++if get e y=0 then [] else [(y,get e y)]:=by
 unfold outs
 rw [List.map_append,List.filter_append]
 congr 1
 by_cases h:get e y=0
 ·rw [if_pos h];simp [h]
 ·rw [if_neg h];simp [h]
theorem mH (e:Ps) (ys:List Str):(outs e ys).length≤ys.length:=by
 unfold outs
 exact Nat.le_trans (List.length_filter_le _ _) (by rw [List.length_map];exact Nat.le_refl _)
end Hw
namespace L2
open PySem PySem.Spec PyProof.Rows
section
variable {X:Cx} {K:PySem.W.Frag}
theorem Br (h:X.K=K):T4 X (UA K):=h ▸ bM
theorem NH (h:X.K=K):T4 X (Uz K):=h ▸ aK
theorem mZ (h:X.K=K):j9 X (.type "tuple") (fun xs H Q=>∃ p ys,xs=[.ref p]∧((bC K H p ys∧∀ l,H l=none→Q (.ref l) (upd H l (.tup ys)))∨(aX K H p ys∧Q (.ref p) H))):=h ▸ bN
theorem xW (h:X.K=K):j9 X (.builtin "len") (fun xs H Q=>∃ p ys,xs=[.ref p]∧(bC K H p ys∨aX K H p ys)∧Q (.int ys.length) H):=h ▸ bP
theorem A3 (h:X.K=K):ow X (binaryOp .Add) (Jc K):=h ▸ nF
theorem zl {e:Expr} {f:Str} {pos:Pos} {ta:TE} (h:X.K=K) (he:PE X e ta) (hb:attributeBase e f X.env (eval e X.env)=eval e X.env):PE X (.Attribute e f pos) (Ul K ta f):=h ▸ bJ he hb
theorem uW {es:List Expr} {k:Nat} {t:PK} {n:Nat} {pos:Pos} (hK:X.K=K) (hc:X.calm=true) (h:W6 X es t) (hn:(assignEach es X.env).length=n:=by rfl) (hst:(assignEach es X.env).findIdx? (·.1)=none:=by rfl) :
  PG X (.Tuple es k pos) (Vn K n t):=hK ▸ rV hc h hn hst
theorem iH {σ:St} {H:Hp} {F G:Hp→Prop} (h:F H):Es σ H (fun b H3=>if b=true then F H3 else G H3):=by
 show if true=true then F H else G H
 exact pQ h
def strsOf:List Expr→Option (List Str)
 | []=>some []
 | .Constant (.str x) _ _::r=>(strsOf r).map (x::·)
 | _=>none
def OY (xs:List Str):TA:=fun _ H Q=>Q (xs.map V.str) H
theorem zq:∀ {es:List Expr} {xs:List Str},strsOf es=some xs→PA X es (OY xs)
 | [],xs,h=>by
  cases h
  exact ai
 | e::r,xs,h=>by
  unfold strsOf at h
  split at h
  ·rename_i he;cases he
  ·rename_i x j pos r' he
   cases he
   cases q:strsOf r with
   | none=>rw [q] at h;cases h
   | some ys =>
    rw [q] at h
    cases h
    have ih:=zq q
    exact aa aP ih rfl
  ·cases h
def Bk:Expr→Option (List Str)
 | .List es _=>strsOf es
 | _=>none
theorem zk {xs:List Str}:∀ {e:Expr},Bk e=some xs→PE X e (Uj (OY xs))
 | .List es pos,h=>bh (zq h)
theorem Et {xs:List Str} {t:Option Expr} {n:Nat} {env:Env}:∀ {e:Expr},Bk e=some xs→swapsWith e t n env=pure false
 | .List es pos,h=>rfl
def SG (s:Stmt):Expr:=match s with | .Assign _ e _=>e | _=>.Constant .none 0 ⟨0,0,0,0⟩
def a0U (s:Stmt):Expr:=match s with | .Return (some e) _=>e | _=>.Constant .none 0 ⟨0,0,0,0⟩
def Qn (s:Expr):Expr:=match s with | .BinOp _ _ e _=>e | _=>.Constant .none 0 ⟨0,0,0,0⟩
end
end L2
namespace Hw
open PySem L2
theorem uL {A:Around} {k n:Nat} (hr:fM k A) (h:n≤60:=by decide):A.units+1+n < cLine:=by have:=hr.units;omega
theorem uN {A:Around} {k:Nat} (hr:fM k A):A.units < cLine:=by have:=hr.units;omega
def Dr (H:Hp) (d:Addr):Prop:=∃ a b:Int,H d=some (.lst [.int a,.int b])
theorem Dr.same {H H':Hp} {d:Addr} (h:Dr H d) (s:az H H'):Dr H' d:=let ⟨a,b,e⟩:=h;⟨a,b,s _ _ e⟩
def uU:Sp:=fun vs H Q _=>∃ c k:Int,vs=[.int c,.int k]∧∀ r:Int,0≤r→r < 2147483399→Q (.int r) H
def CK (K:PySem.W.Frag):Sp:=fun vs H Q _=>∃ (a:Addr) (ns:List Int) (k:Nat),vs=[.ref a,.int k]∧bC K H a (ns.map V.int)∧∀ r:Int,Q (.int r) H
def jH:Sp:=fun vs H Q _=>∃ (d:Addr) (n:Int),vs=[.ref d,.int n]∧Dr H d∧0 < n∧∀ (r:Nat) (H':Hp),(r:Int) < n→bQ d H H'→Dr H' d→Q (.int r) H'
def Kz:List Str:=["helper","answers","needs","gives","end","let","div","mod","put","row","at","if","else"]
def Ky:List Str:=["while","holds","falls","call","claim","and","or","not"]
def eZ:List Str:=Kz++Ky
def y9:Sp:=fun vs H Q _=>vs=[]∧∀ (l:Addr) (H':Hp),az H H'→H l=none→H' l=some (.lst (eZ.map V.str))→Q (.ref l) H'
def yX:Sp:=fun vs H Q _=>∃ (d:Addr) (m:Nat),vs=[.ref d,.int m]∧Dr H d∧m≤12 ∧
 ∀ (l:Addr) (xs:List Str) (H':Hp),bQ d H H'→Dr H' d→H l=none→H' l=some (.lst (xs.map V.str))→xs.length=m→(∀ x∈xs,x.length≤8)→Q (.ref l) H'
def cD (H:Hp) (r:Addr) (ts:Ps) (n:Int):Prop:=∃ t,H r=some (.tup [.ref t,.int n])∧Tp H t ts
theorem cD.same {H H':Hp} {r:Addr} {ts:Ps} {n:Int} (h:cD H r ts n) (s:az H H'):cD H' r ts n:=let ⟨t,e,q⟩:=h;⟨t,s _ _ e,q.same s⟩
def za:Sp:=fun vs H Q _=>∃ (a:Addr) (n:Int) (ps:Ps),vs=[.ref a,.int n]∧Sq H a ps∧ps.length < 64 ∧
 ∀ (r:Addr) (ts:Ps) (H':Hp),az H H'→p9 ps ts→ts.length≤ps.length→cD H' r ts n→Q (.ref r) H'
def Ew (K:PySem.W.Frag):Sp:=fun vs H Q _=>∃ (a:Addr) (ns:List Int),vs=[.ref a]∧bC K H a (ns.map V.int)∧ns.length≤63∧∀ H',Q (.bl true) H'
end Hw
namespace Hw
open PySem L2
theorem NG (K:PySem.W.Frag) (C:Addr):PySem.W.kitOne K (.ref C) (.ref C)=some true:=by
 unfold PySem.W.kitOne
 rw [if_pos (by simp)]
theorem NF (K:PySem.W.Frag):PySem.W.kitOne K (.type "tuple") (.type "tuple")=some true:=by
 unfold PySem.W.kitOne
 rw [if_pos (by simp)]
end Hw
namespace L2
open PySem PySem.Spec PyProof.Rows
section
variable {X:Cx} {K:PySem.W.Frag}
def Jb (K:PySem.W.Frag):R2:=fun x y H Q=>∃ a b xs,x=.ref a∧y=.ref b∧aX K H a xs∧aX K H b []∧Q (.bl (decide (xs=[]))) H
theorem JJ (hu:X.A.units < cLine):ow X (compareOp .Eq) (Jb X.K):=by
 intro pins s σ H x y v u Q I rx ry h
 obtain ⟨a,b,xs,rfl,rfl,ha,hb,q⟩:=h
 cases rx
 cases ry
 obtain ⟨us,r1,p1,_⟩:=I.tuple ha
 obtain ⟨vs,r2,p2,_⟩:=I.tuple hb
 cases r2
 refine SeqAt.eq_tupleAt (e:=fun _=>true) (show s.heap.IsTuple a us.toArray from p1) (show s.heap.IsTuple b ([]:List Value).toArray from p2) hu (fun j h1 h2=>absurd h2 (by simp)) ?_
 have e:((List.range (min us.toArray.size ([]:List Value).toArray.size)).all (fun _=>true) && us.toArray.size == ([]:List Value).toArray.size)=decide (xs=[]):=by
  have l:=r1.length
  rw [tG,Bool.true_and]
  by_cases hx:xs=[]
  ·subst hx
   cases r1
   simp
  ·rw [decide_eq_false hx]
   have:us≠[]:=fun z=>hx (by rw [z] at l;exact List.length_eq_zero_iff.mp l)
   cases us with
   | nil=>exact absurd rfl this
   | cons _ _=>simp
 rw [e]
 exact ⟨.bl _,H,I,rfl,q⟩
abbrev TJ:=St→Hp→Str→(Str→Hp→Prop)→Prop
def PJ (X:Cx) (es:List Expr) (t:TJ):Prop :=
 ∀ (pins:List (Addr×Obj)) (s:Shared) (σ:St) (H:Hp) (acc:Str) (Q:Str→Hp→Prop),Inv X pins σ H s→t σ H acc Q →
  wpAny (model X.prog X.w) X.A (joinParts acc (evalEach es X.env)) (EP X pins σ fun v H'=>∃ x,v=.str x∧Q x H') X.xe s
def a6v:TJ:=fun _ H acc Q=>acc.length≤sizeLine∧Q acc H
def a6u (c:Str) (t:TJ):TJ:=fun σ H acc Q=>(acc++c).length≤sizeLine∧t σ H (acc++c) Q
def a6t (te:TE) (t:TJ):TJ:=fun σ H acc Q=>te σ H fun x H1=>(∃ i,x=.int i∧i.natAbs.log2 < 1920∧(acc++(toString i:Str)).length≤sizeLine∧t σ H1 (acc++(toString i:Str)) Q)∨(∃ y,x=.str y∧y.length≤sizeLine∧(acc++y).length≤sizeLine∧t σ H1 (acc++y) Q)
theorem Qx:PJ X [] a6v:=by
 intro pins s σ H acc Q I h
 exact joinParts_nil ⟨.str acc,H,I.tok _,⟨_,rfl⟩,acc,rfl,h.2⟩ h.1
theorem Ju {c:Str} {j:Nat} {pos:Pos} {es:List Expr} {t:TJ} (h:PJ X es t):PJ X (.Constant (.str c) j pos::es) (a6u c t):=by
 intro pins s σ H acc Q I hw
 show wpAny _ _ (joinParts acc (eval (.Constant (.str c) j pos) X.env::evalEach es X.env)) _ _ s
 refine joinParts_cons (Calls.Constant_str ⟨hw.1,?_⟩)
 exact h pins _ σ H (acc++c) Q (I.tok _) hw.2
theorem Qw {e:Expr} {pos:Pos} {es:List Expr} {te:TE} {t:TJ} (he:PE X e te) (h:PJ X es t):PJ X (.FormattedValue e (-1) none pos::es) (a6t te t):=by
 intro pins s σ H acc Q I hw
 show wpAny _ _ (joinParts acc (eval (.FormattedValue e (-1) none pos) X.env::evalEach es X.env)) _ _ s
 refine joinParts_cons (FormattedValue_plain (cS (he pins s σ H _ I hw) fun v s1 ⟨x,H1,I1,r1,q1⟩=>?_))
 rcases q1 with ⟨i,rfl,hl,hz,q⟩ | ⟨y,rfl,hy,hz,q⟩
 ·obtain ⟨t',rfl⟩:=r1
  exact formatField_int_small hl ⟨hz,h pins _ σ H1 _ Q (I1.tok _) q⟩
 ·obtain ⟨t',rfl⟩:=r1
  exact formatField_str (fun t'' tk=>⟨hz,h pins _ σ H1 _ Q (I1.tok _) q⟩) hy
def tFs (t:TJ):TE:=fun σ H Q=>t σ H Str.empty fun x H'=>Q (.str x) H'
theorem MM {v1 v2:Expr} {rest:List Expr} {pos:Pos} {t:TJ} (h:PJ X (v1::v2::rest) t):PE X (.JoinedStr (v1::v2::rest) pos) (tFs t):=by
 intro pins s σ H Q I hw
 refine JoinedStr_many (cS (h pins s σ H Str.empty _ I hw) fun u s1 ⟨v,H',I',r,x,ev,q⟩=>?_)
 subst ev
 exact ⟨.str x,H',I',r,q⟩
end
end L2
namespace HT
open PySem PySem.Spec PyProof.Rows
section
variable {prog:Program} {w:World} {A:Around} {E:Value→Shared→Prop} {s:Shared}
end
end HT
namespace L2
open PySem PySem.Spec PyProof.Rows
section
variable {X:Cx} {K:PySem.W.Frag}
end
end L2
namespace L2
open PySem PySem.Spec PyProof.Rows
section
variable {X:Cx} {K:PySem.W.Frag}
variable {o e:Expr} {to:TE} {apos cpos:Pos}
theorem Dz (l b:Addr) (xs ys:Array Value) (n m:Nat) (dd:Option Addr) (sl:Array (Option Value)) (h0:¬ (!xs.isEmpty && Builtin.List.listTooLong (xs.size+ys.size))=true) (h1:xs.size≤sizeLine) (h2:xs.size+ys.size≤sizeLine+1) :
  Meets (Builtin.«list.extend» ⟨[.ref l,.ref b],[]⟩) (fun _ R s=>s.heap.get? l=some ⟨.type "list",none,.seq xs n,#[]⟩∧s.heap.get? b=some ⟨.type "tuple",dd,.seq ys m,sl⟩ ∧
   R (.ok (.ret Value.none)) { s with heap:=s.heap.update l (Obj.mapSeq fun x=>x++ys),toks:=s.toks }) :=
 .of_wp fun prog w A R s h=>by
  obtain ⟨hp,g,d,tk,os⟩:=s
  obtain ⟨hl,hb,h⟩:=h
  have q1:=PySem.AutoSeq1.idx_int
  have q2:=PySem.AutoSeq1.sub_tuple_tuple
  have q3:=PySem.AutoSeq1.sub_list_list
  have q4:=PySem.AutoSeq1.sub_tuple_list
  have q5:=PySem.AutoSeq1.sub_list_tuple
  have z:(xs++ys).size≤sizeLine+1:=by
   rw [Array.size_append]
   exact h2
  wp_walk using (wpAny_updateSeq hl rfl (hz:=h1) (_hz':=z)),PySem.AutoSeq1.wpAny_loadPart' hl,PySem.AutoSeq1.wpAny_loadPart' hb
  exact ⟨_,rfl,h⟩
def Ja (K:PySem.W.Frag):V→List V→Hp→VK→Prop:=fun x vs H Q=>∃ l b xs zs,x=.ref l∧vs=[.ref b]∧H l=some (.lst xs)∧aX K H b zs∧xs.length+zs.length≤sizeLine∧Q .fL (upd H l (.lst (xs++zs)))
theorem C5:MtM X "list.extend" (Ja X.K):=by
 intro pins s σ H x vs v us Q I rx rv h
 obtain ⟨l,b,xs,zs,rfl,rfl,hH,hB,hz,q⟩:=h
 cases rx
 obtain ⟨u,rfl,ru⟩:=rv.one
 cases ru
 obtain ⟨z,its,n,r,hl,e⟩:=I.Dg hH
 obtain ⟨its2,r2,p2,z2⟩:=I.tuple hB
 have hl2:=r2.length
 have hsz:its.toArray.size+its2.toArray.size≤sizeLine:=by rw [List.size_toArray,List.size_toArray];omega
 have By:¬ (!its.toArray.isEmpty && Builtin.List.listTooLong (its.toArray.size+its2.toArray.size))=true:=by
  rw [wj hsz,Bool.and_false]
  exact Bool.false_ne_true
 have go:∀ n2 dd sl,s.heap.get? b=some { cls:=.type "tuple",dict:=dd,data:=.seq its2.toArray n2,slots:=sl }→wpAny (model X.prog X.w) X.A (call (.builtin "list.extend") [.ref l,.ref b]) (EP X pins σ Q) X.xe s:=fun n2 dd sl e2=>by
  refine call_meets F.slot_list_extend ⟨_,e,rfl⟩ F.entry_list_extend (F.args_list_extend_2 _ _)
   (Dz l b its.toArray its2.toArray n n2 dd sl By (by rw [List.size_toArray];omega) (by omega)) ⟨e,e2,?_⟩
  refine ⟨.fL,_,I.Q4 (its':=its++its2) hH e (by simp) (r.append r2) ?_,rfl,q⟩
  rw [List.length_append]
  omega
 obtain ⟨⟨cls,dd,data,sl⟩,ho,hc,n2,hd⟩:=id p2
 simp only at hc hd
 subst hc hd
 exact go n2 dd sl ho
def Qq (K:PySem.W.Frag):R2:=fun x y H Q=>∃ a b xs,x=.ref a∧y=.ref b∧bC K H a xs∧bC K H b []∧Q (.bl (!decide (xs=[]))) H
theorem v9 (hu:X.A.units < cLine):ow X (compareOp .NotEq) (Qq X.K):=by
 intro pins s σ H x y v u Q I rx ry h
 obtain ⟨a,b,xs,rfl,rfl,ha,hb,q⟩:=h
 cases rx
 cases ry
 obtain ⟨us,r1,p1,_⟩:=I.list ha
 obtain ⟨vs,r2,p2,_⟩:=I.list hb
 cases r2
 have l1:=r1.length
 by_cases hx:xs=[]
 ·rw [decide_eq_true hx] at q
  subst hx
  cases r1
  exact SeqAt.RcNeAt.lists (A:=X.A) (e:=fun _=>true) p1.isList p2.isList rfl hu (fun j h1 h2=>absurd h2 (by simp)) _ _ _ _ ⟨.bl false,H,I,rfl,q⟩
 ·rw [decide_eq_false hx] at q
  have:us≠[]:=fun z=>hx (by rw [z] at l1;exact List.length_eq_zero_iff.mp l1)
  refine SeqAt.RcNeAt.lists_lengths (A:=X.A) p1.isList p2.isList ?_ hu _ _ _ _ ⟨.bl true,H,I,rfl,q⟩
  cases us with
  | nil=>exact absurd rfl this
  | cons _ _=>simp
end
end L2
namespace L2
open PySem PySem.Spec PyProof.Rows
section
variable {X:Cx} {e:Expr} {te:TE}
end
end L2
namespace Hw
open PySem L2
def xP:Str:="abcdefghijklmnopqrstuvwxyz"
theorem Oo:xP.cps.toList=(List.range 26).map (97+·):=by decide +kernel
theorem eU:xP.length≤sizeLine:=Nat.le_of_lt (line _ (by decide +kernel))
theorem LR {r:Nat} (h:r < 26):xO xP.cps.toList (r:Int)=some (97+r):=fE (by rw [Oo,List.getElem?_map,List.getElem?_range h];rfl)
theorem fG (i:Int):xO xP.cps.toList (i % 26)=some (97+(i % 26).toNat):=by
 have h0:=Int.emod_nonneg i (show (26:Int)≠0 by decide)
 have h1:=Int.emod_lt_of_pos i (show (0:Int) < 26 by decide)
 have e:i % 26=((i % 26).toNat:Int):=(Int.toNat_of_nonneg h0).symm
 have:=LR (r:=(i % 26).toNat) (by omega)
 rw [← e] at this
 exact this
def lP:List Str:=["lets","ifs","order","rows","att","notes","calls","ends","outlet","bend","motor","modes"]
theorem Gk:lP.length=12:=rfl
theorem mU:∀ x∈lP,x.length≤8:=by decide +kernel
theorem Gj (i:Int):∃ x,x∈lP∧xO (lP.map V.str) (i % 12)=some (V.str x):=by
 have h0:=Int.emod_nonneg i (show (12:Int)≠0 by decide)
 have h1:=Int.emod_lt_of_pos i (show (0:Int) < 12 by decide)
 have e:i % 12=((i % 12).toNat:Int):=(Int.toNat_of_nonneg h0).symm
 have hl:(i % 12).toNat < lP.length:=by rw [Gk];omega
 refine ⟨lP[(i % 12).toNat],List.getElem_mem hl,?_⟩
 have:=fE (xs:=lP.map V.str) (j:=(i % 12).toNat) (v:=V.str lP[(i % 12).toNat]) (by rw [List.getElem?_map,List.getElem?_eq_getElem hl];rfl)
 rw [← e] at this
 exact this
abbrev DN (c:Nat):Str:=⟨#[c]⟩
def zw (a b:Nat):Str:=(("z":Str)++DN a)++DN b
theorem Ah (a b:Str):(a++b).cps.toList=a.cps.toList++b.cps.toList:=PySem.W.KT.app_list a b
theorem jG (a b:Str):(a++b).length=a.length+b.length:=by
 have h:∀ x:Str,x.length=x.cps.toList.length:=fun x=>by simp [Str.length]
 rw [h,h,h,Ah,List.length_append]
theorem Cj (a b:Nat):(zw a b).cps.toList=[122,a,b]:=by
 unfold zw
 rw [Ah,Ah]
 rfl
theorem rA (a b:Nat):(zw a b).length=3:=by
 unfold zw
 rw [jG,jG]
 rfl
theorem Kw:∀ x∈eZ,x.cps.toList.head?≠some 122:=by decide +kernel
theorem oz (a b:Nat):zw a b ∉ eZ:=fun h=>Kw _ h (by rw [Cj];rfl)
def zt (k:Int) (t:Nat):Str:=zw (97+((t:Int) % 26).toNat) (97+((k+t) % 26).toNat)
theorem PU {k:Int} {s t:Nat} (hs:s < 26) (ht:t < 26) (h:zt k s=zt k t):s=t:=by
 have e:(zt k s).cps.toList=(zt k t).cps.toList:=by rw [h]
 unfold zt at e
 rw [Cj,Cj] at e
 have:=(List.cons.inj (List.cons.inj e).2).1
 omega
theorem Jw:∀ (n:Nat) (f:Nat→Str) (xs:List Str),(∀ s,s < n→f s∈xs)→(∀ s t,s < n→t < n→f s=f t→s=t)→n≤xs.length
 | 0,_,_,_,_=>Nat.zero_le _
 | n+1,f,xs,h,inj=>by
  have m:=h n (Nat.lt_succ_self n)
  have ih:=Jw n f (xs.erase (f n)) (fun s hs=>by
   have ne:f s≠f n:=fun e=>Nat.ne_of_lt hs (inj s n (Nat.lt_succ_of_lt hs) (Nat.lt_succ_self n) e)
   exact (List.mem_erase_of_ne ne).mpr (h s (Nat.lt_succ_of_lt hs))) fun s t hs ht=>inj s t (Nat.lt_succ_of_lt hs) (Nat.lt_succ_of_lt ht)
  rw [List.length_erase_of_mem m] at ih
  have:0 < xs.length:=List.length_pos_of_mem m
  omega
theorem Ck {k:Int} {xs:List Str} {n:Nat} (hn:n≤20) (h:∀ s,s < n→zt k (s+1)∈xs):n≤xs.length :=
 Jw n (fun s=>zt k (s+1)) xs h fun s t hs ht e=>by have:=PU (by omega) (by omega) e;omega
theorem eS (w:Str) (xs:List Str):u9 (.str w) (xs.map V.str)=decide (w∈xs):=by
 unfold u9
 rw [List.any_map]
 by_cases h:w∈xs
 ·rw [decide_eq_true h,List.any_eq_true]
  exact ⟨w,h,by simp [E8]⟩
 ·rw [decide_eq_false h,List.any_eq_false]
  intro y hy
  simp only [Function.comp,E8,beq_iff_eq]
  intro e
  exact h (e ▸ hy)
theorem d9 (xs:List Str):(xs.map V.str).all j4=true:=by rw [List.all_map,List.all_eq_true];intro _ _;rfl
theorem KN (ss:List Str) (h:∀ a∈ss,a.length=1):(Txt.join (Str.ofString "") ss).length=ss.length:=PySem.W.KT.join_ones ss h
def Fi (c:TT):Prop:=∀ σ H Q Q',(∀ b H1,Q b H1→Q' b H1)→c σ H Q→c σ H Q'
def Fj (c:TE):Prop:=∀ σ H (Q Q':VK),(∀ b H1,Q b H1→Q' b H1)→c σ H Q→c σ H Q'
theorem gm (i:Nat):Fj (P9 i):=fun σ H Q Q' f ⟨v,e,q⟩=>⟨v,e,f _ _ q⟩
theorem r9 {E:XK}:Fj (IF y9 [] E Qd):=fun σ H Q Q' f ⟨e,q⟩=>⟨e,fun l H' a b c=>f _ _ (q l H' a b c)⟩
theorem nG {K:PySem.W.Frag} {ta tb:TE} (a:Fj ta) (b:Fj tb):Fi (OX (Ue (rIn K false) ta tb)):=fun σ H Q Q' f h =>
 a σ H _ _ (fun x H1 q=>b σ H1 _ _ (fun y H2 q=>let ⟨p,xs,h1,h2,h3,h4,k,h5,h6⟩:=q;⟨p,xs,h1,h2,h3,h4,k,h5,f _ _ h6⟩) q) h
theorem zD {t u:TT} (a:Fi t) (b:Fi u):Fi (tOr t u):=fun σ H Q Q' f h =>
 a σ H _ _ (fun c H1 q=>by
  cases c with
  | true=>exact pQ (f _ _ (by simpa using q))
  | false=>exact zN (b σ H1 Q Q' f (by simpa using q))) h
def Xd (a b:Addr) (H H':Hp):Prop:=∀ c o,H c=some o→c≠a→c≠b→H' c=some o
theorem NI {n k:Nat} (h:k < n):KO n (k:Int)=some k:=by
 unfold KO
 rw [if_pos (by omega),if_pos (by omega)]
 simp
theorem AB:∀ ss:List Str,(∀ a∈ss,a.length=1)→(ss.map (·.length)).sum=ss.length
 | [],_=>rfl
 | a::r,h=>by
  rw [List.map_cons,List.sum_cons,AB r fun b hb=>h b (List.mem_cons_of_mem _ hb),List.length_cons,h a (List.mem_cons_self ..)]
  omega
theorem bQ.free {d l:Addr} {H H':Hp} (b:bQ d H H') (h:H' l=none) (n:l≠d):H l=none:=by
 cases q:H l with
 | none=>rfl
 | some o=>rw [b l o q n] at h;cases h
theorem Dr.ne {H:Hp} {d l:Addr} (h:Dr H d) (n:H l=none):l≠d:=let ⟨_,_,e⟩:=h;(av e n).symm
def QY:St→Hp→Nat:=fun σ _=>match (σ[12]?:Option (Option V)) with
 | some (some (V.int t))=>20 - t.toNat
 | _=>0
end Hw
namespace Hw
open PySem L2
theorem Mz {xs:List Str} {r:Nat} (h:r < xs.length):(xs.map V.str)[r]?=some (V.str xs[r]):=by rw [List.getElem?_map,List.getElem?_eq_getElem h];rfl
end Hw
namespace Hw
open PySem L2
def Small (i:Int):Prop:=-(2 ^ 60) < i∧i < 2 ^ 60
theorem Small.w {i:Int} (h:Small i):-(2 ^ 64) < i∧i < 2 ^ 64:=⟨by have:=h.1;omega,by have:=h.2;omega⟩
def Short (ts:Ps):Prop:=ts.length≤20∧∀ p∈ts,Small p.2∧p.1.length≤100
end Hw
namespace Hw
open PySem L2
section
variable {C:Addr} {H H':Hp} {tl pq q0 q1 hq du u0 u1 sl sa sb:Addr} {xs:List Str} {ps0 t0 t1:Ps} {h0 h1:Int}
end
theorem aH {α β:Type} {F:α→β→Prop}:∀ {xs:List α} {ys:List β} {a:α} {b:β},Paired F xs ys→F a b→Paired F (xs++[a]) (ys++[b])
 | _,_,_,_,.nil,h=>.cons h .nil
 | _,_,_,_,.cons r t,h=>.cons r (aH t h)
theorem p9.keys {ps ts:Ps} (g:p9 ps ts) {t:Str} (h:t∈keys ts):t∈keys ps:=by
 obtain ⟨p,hp,rfl⟩:=List.mem_map.mp h
 have e:bT ts (ind p.1)=p.2:=by
  have up:=g.1.up
  have nz:=g.1.nz
  clear g h
  induction ts with
  | nil=>cases hp
  | cons q r ih =>
   rcases List.mem_cons.mp hp with z | z
   ·subst z
    exact Canon.head ⟨up,nz⟩
   ·have l:lt q.1 p.1=true:=(List.pairwise_cons.mp up).1 p z
    rw [bT,ih z (List.pairwise_cons.mp up).2 fun s hs=>nz s (List.mem_cons_of_mem _ hs)]
    simp [ind,EO l]
 refine Classical.byContradiction fun n=>?_
 have z:bT ps (ind p.1)=0:=qJ fun q hq e'=>n (by rw [← e'];exact List.mem_map.mpr ⟨q,hq,rfl⟩)
 rw [g.2] at e
 rw [z] at e
 exact g.1.nz p hp e.symm
end Hw
namespace Hw
open PySem L2
theorem bg {α β:Type} {F:α→β→Prop}:∀ {vs:List α} {ps:List β},Paired F vs ps→∀ {i:Nat} {v:α},vs[i]?=some v→∃ p,ps[i]?=some p∧F v p
 | _,_,.nil,_,_,e=>by simp at e
 | _,_,.cons r t,0,_,e=>by simp at e;subst e;exact ⟨_,rfl,r⟩
 | _,_,.cons r t,i+1,_,e=>bg t (i:=i) (by simpa using e)
structure Tb (e:Ps):Prop where
 nd:(keys e).Nodup
 ok:∀ p∈e,p.2≠0∧Small p.2∧p.1.length≤100
theorem Tb.nil:Tb []:=⟨.nil,fun _ h=>nomatch h⟩
theorem EA {e:Ps} {t:Str} {n:Int} {p:Str×Int} (h:p∈put e t n):p∈e∨p=(t,n):=by
 unfold Hw.put at h
 split at h
 ·obtain ⟨q,hq,e⟩:=List.mem_map.mp h
  split at e
  ·rename_i z
   rw [← e,z];exact .inr rfl
  ·rw [← e];exact .inl hq
 ·rcases List.mem_append.mp h with z | z
  ·exact .inl z
  ·exact .inr (List.mem_singleton.mp z)
theorem Tb.put {e:Ps} {t:Str} {n:Int} (h:Tb e) (hn:n≠0) (hs:Small n) (ht:t.length≤100):Tb (put e t n) :=
 ⟨yj h.nd,fun p hp=>(EA hp).elim (h.ok p) fun z=>z ▸ ⟨hn,hs,ht⟩⟩
theorem get_mem:∀ {e:Ps} {t:Str},t∈keys e→(t,get e t)∈e
 | p::r,t,h=>by
  rw [dS]
  by_cases z:p.1=t
  ·rw [if_pos z,← z];exact List.mem_cons_self ..
  ·rw [if_neg z]
   exact List.mem_cons_of_mem _ (get_mem ((List.mem_cons.mp h).resolve_left fun q=>z q.symm))
theorem Tb.canon {e:Ps} {ys:List Str} (h:Tb e) (hp:ys.Perm (keys e)) (hs:ys.Pairwise fun a b=>lt b a=false):Canon (ys.map fun t=>(t,get e t)):=by
 have nd:ys.Nodup:=hp.nodup_iff.mpr h.nd
 refine ⟨?_,fun p hq=>?_⟩
 ·rw [List.pairwise_map]
  refine (hs.and nd).imp fun {a b} q=>?_
  rcases wD a b with e | e | e
  ·exact e
  ·exact absurd e q.2
  ·rw [q.1] at e;cases e
 ·obtain ⟨t,ht,rfl⟩:=List.mem_map.mp hq
  exact (h.ok _ (get_mem (hp.mem_iff.mp ht))).1
theorem Tb.short {e:Ps} {ys:List Str} (h:Tb e) (hp:ys.Perm (keys e)) (hl:e.length≤20):Short (ys.map fun t=>(t,get e t)):=by
 refine ⟨?_,fun p hq=>?_⟩
 ·rw [List.length_map,hp.length_eq]
  unfold keys
  rw [List.length_map]
  exact hl
 ·obtain ⟨t,ht,rfl⟩:=List.mem_map.mp hq
  exact (h.ok _ (get_mem (hp.mem_iff.mp ht))).2
end Hw
namespace Hw
open PySem L2
abbrev Sb:=List (Str×Ps×Int)
def look:Sb→Str→Option (Ps×Int)
 | [],_=>none
 | p::r,t=>if p.1=t then some p.2 else look r t
def rE (S:Sb) (p:Str×Int):Ps:=match look S p.1 with
 | some q=>q.1.map fun x=>(x.1,p.2*x.2)
 | none=>[p]
def vv (S:Sb) (p:Str×Int):Int:=match look S p.1 with
 | some q=>p.2*q.2
 | none=>0
def jS (S:Sb) (ts:Ps):Ps:=(ts.map (rE S)).flatten
def gE (S:Sb) (ts:Ps):Int:=(ts.map (vv S)).sum
def Ci (S:Sb) (f:Str→Int):Str→Int:=fun t=>match look S t with
 | some q=>q.2+bT q.1 f
 | none=>f t
theorem rD (S:Sb) (ts:Ps) (p:Str×Int):jS S (ts++[p])=jS S ts++rE S p:=by unfold jS;simp
theorem rF (S:Sb) (ts:Ps) (p:Str×Int):gE S (ts++[p])=gE S ts+vv S p:=by unfold gE;simp
theorem wG (k:Int):∀ (a:Ps) (f:Str→Int),bT (a.map fun p=>(p.1,k*p.2)) f=k*bT a f
 | [],f=>by simp [bT]
 | p::a,f=>by
  simp only [List.map_cons,bT,wG k a f,Int.mul_add]
  rw [Int.mul_assoc]
theorem Km (S:Sb) (p:Str×Int) (f:Str→Int):bT (rE S p) f+vv S p=p.2*Ci S f p.1:=by
 unfold rE vv Ci
 cases look S p.1 with
 | none=>simp [bT]
 | some q=>simp only [wG,Int.mul_add];omega
theorem u7 (S:Sb) (f:Str→Int):∀ ts:Ps,bT (jS S ts) f+gE S ts=bT ts (Ci S f)
 | []=>rfl
 | p::r=>by
  have ih:=u7 S f r
  have e:jS S (p::r)=rE S p++jS S r:=by unfold jS;simp
  have e2:gE S (p::r)=vv S p+gE S r:=by unfold gE;simp
  have:=Km S p f
  rw [e,e2,cI,bT]
  omega
theorem qI:∀ {S:Sb} {t:Str} {q:Ps×Int},look S t=some q→(t,q)∈S
 | p::r,t,q,h=>by
  unfold look at h
  split at h
  ·rename_i e
   cases h
   rw [← e]
   exact List.mem_cons_self ..
  ·exact List.mem_cons_of_mem _ (qI h)
def Rl (P:Addr→Ps×Int→Prop) (kvs:List (Key×V)) (S:Sb):Prop:=Paired (fun (kv:Key×V) (s:Str×Ps×Int)=>kv.1=Sum.inr s.1∧∃ u,kv.2=V.ref u∧P u s.2) kvs S
def kP (S:Sb):List Str:=S.map (·.1)
theorem Rl.mono {P P':Addr→Ps×Int→Prop} {kvs:List (Key×V)} {S:Sb} (h:Rl P kvs S) (f:∀ u q,P u q→P' u q):Rl P' kvs S:=L2.Paired.cF h fun _ _ z=>let ⟨a,u,b,c⟩:=z;⟨a,u,b,f _ _ c⟩
theorem Rl.len {P:Addr→Ps×Int→Prop} {kvs:List (Key×V)} {S:Sb} (h:Rl P kvs S):kvs.length=S.length:=Paired.length h
theorem Rl.some {P:Addr→Ps×Int→Prop} {t:Str} {q:Ps×Int}:∀ {kvs:List (Key×V)} {S:Sb},Rl P kvs S→look S t=.some q→∃ u,jQ kvs (Sum.inr t)=.some (.ref u)∧P u q
 | _,_,.nil,e=>by cases e
 | (k,v)::kvs,s::S,.cons r h,e=>by
  obtain ⟨r1,u,r2,r3⟩:=r
  have r1:k=Sum.inr s.1:=r1
  have r2:v=V.ref u:=r2
  subst r1 r2
  unfold look at e
  by_cases z:s.1=t
  ·rw [if_pos z] at e
   cases e
   exact ⟨u,lX (by simp [z]),r3⟩
  ·rw [if_neg z] at e
   obtain ⟨u',h1,h2⟩:=Rl.some (t:=t) (q:=q) h e
   exact ⟨u',by rw [jP (by simpa using z)];exact h1,h2⟩
theorem Rl.none {P:Addr→Ps×Int→Prop} {t:Str}:∀ {kvs:List (Key×V)} {S:Sb},Rl P kvs S→look S t=.none→jQ kvs (Sum.inr t)=.none
 | _,_,.nil,e=>rfl
 | (k,v)::kvs,s::S,.cons r h,e=>by
  obtain ⟨r1,u,r2,r3⟩:=r
  have r1:k=Sum.inr s.1:=r1
  subst r1
  unfold look at e
  by_cases z:s.1=t
  ·rw [if_pos z] at e;cases e
  ·rw [if_neg z] at e
   rw [jP (by simpa using z)]
   exact Rl.none h e
theorem yp {t:Str}:∀ {S:Sb},t ∉ kP S→look S t=none
 | [],_=>rfl
 | s::r,h=>by
  unfold look
  rw [if_neg (fun z=>h (by unfold kP;rw [List.map_cons,z];exact List.mem_cons_self ..))]
  exact yp fun z=>h (List.mem_cons_of_mem _ z)
theorem sE {t:Str}:∀ {S:Sb},t∈kP S→∃ q,look S t=some q
 | s::r,h=>by
  unfold look
  by_cases z:s.1=t
  ·exact ⟨_,if_pos z⟩
  ·rw [if_neg z]
   exact sE ((List.mem_cons.mp h).resolve_left fun e=>z e.symm)
def fK (S:Sb) (t:Str) (q:Ps×Int):Sb:=if t∈kP S then S.map (fun s=>if s.1=t then (s.1,q) else s) else S++[(t,q)]
theorem CQ {P:Addr→Ps×Int→Prop} {t:Str}:∀ {kvs:List (Key×V)} {S:Sb},Rl P kvs S→((kvs.any fun kv=>decide (kv.1=(Sum.inr t:Key)))=true↔t∈kP S)
 | _,_,.nil=>by simp [kP]
 | (k,v)::kvs,s::S,.cons r h=>by
  obtain ⟨r1,_⟩:=r
  have r1:k=Sum.inr s.1:=r1
  subst r1
  have ih:=CQ (t:=t) h
  unfold kP at ih ⊢
  rw [List.any_cons,Bool.or_eq_true,ih,List.map_cons,List.mem_cons]
  simp [eq_comm]
theorem Rl.put {P:Addr→Ps×Int→Prop} {kvs:List (Key×V)} {S:Sb} {t:Str} {u:Addr} {q:Ps×Int} (h:Rl P kvs S) (hu:P u q):Rl P (putK kvs (Sum.inr t) (.ref u)) (fK S t q):=by
 unfold putK fK
 by_cases z:t∈kP S
 ·rw [if_pos ((CQ h).mpr z),if_pos z]
  clear z
  induction h with
  | nil=>exact .nil
  | cons r _ ih =>
   refine .cons ?_ ih
   obtain ⟨r1,v,r2,r3⟩:=r
   rename_i kv s _ _ _
   obtain ⟨k,w⟩:=kv
   have r1:k=Sum.inr s.1:=r1
   have r2:w=V.ref v:=r2
   subst r1 r2
   by_cases e:s.1=t
   ·have e1:(if (Sum.inr s.1:Key)=Sum.inr t then ((Sum.inr s.1:Key),V.ref u) else (Sum.inr s.1,V.ref v))=(Sum.inr s.1,V.ref u):=if_pos (by rw [e])
    have e2:(if s.1=t then (s.1,q) else s)=(s.1,q):=if_pos e
    show (if (Sum.inr s.1:Key)=Sum.inr t then ((Sum.inr s.1:Key),V.ref u) else (Sum.inr s.1,V.ref v)).1=Sum.inr (if s.1=t then (s.1,q) else s).1∧_
    dsimp only
    rw [e1,e2]
    exact ⟨rfl,u,rfl,hu⟩
   ·have e1:(if (Sum.inr s.1:Key)=Sum.inr t then ((Sum.inr s.1:Key),V.ref u) else (Sum.inr s.1,V.ref v))=(Sum.inr s.1,V.ref v):=if_neg fun z=>e (Sum.inr.inj z)
    have e2:(if s.1=t then (s.1,q) else s)=s:=if_neg e
    show (if (Sum.inr s.1:Key)=Sum.inr t then ((Sum.inr s.1:Key),V.ref u) else (Sum.inr s.1,V.ref v)).1=Sum.inr (if s.1=t then (s.1,q) else s).1∧_
    dsimp only
    rw [e1,e2]
    exact ⟨rfl,v,rfl,r3⟩
 ·rw [if_neg (fun e=>z ((CQ h).mp e)),if_neg z]
  exact aH h ⟨rfl,u,rfl,hu⟩
theorem qx {S:Sb} {t:Str} {q:Ps×Int} {s:Str×Ps×Int} (h:s∈fK S t q):s∈S∨s=(t,q):=by
 unfold fK at h
 split at h
 ·obtain ⟨a,ha,e⟩:=List.mem_map.mp h
  split at e
  ·rename_i z
   rw [← e,z];exact .inr rfl
  ·rw [← e];exact .inl ha
 ·rcases List.mem_append.mp h with z | z
  ·exact .inl z
  ·exact .inr (List.mem_singleton.mp z)
theorem FA (S:Sb) (t:Str) (q:Ps×Int):kP (fK S t q)=if t∈kP S then kP S else kP S++[t]:=by
 unfold fK
 split
 ·unfold kP
  rw [List.map_map]
  refine List.map_congr_left fun p _=>?_
  show (if p.1=t then (p.1,q) else p).1=p.1
  split <;> rfl
 ·unfold kP;rw [List.map_append];rfl
theorem qy (S:Sb) (t:Str) (q:Ps×Int):(fK S t q).length≤S.length+1:=by
 unfold fK
 split
 ·rw [List.length_map];omega
 ·simp
theorem ET {K:PySem.W.Frag} {H:Hp}:∀ {n:Nat} {x y:V},q8 K H n x y→q8 K H (n+1) x y
 | 0,_,_,h=>.inl h
 | n+1,_,_,h=>by
  rcases h with h | ⟨a,b,xs,ys,e1,e2,h,p⟩
  ·exact .inl h
  ·exact .inr ⟨a,b,xs,ys,e1,e2,h,L2.Paired.cF p fun _ _ z=>ET z⟩
theorem Gx {K:PySem.W.Frag} {H:Hp} {a b:Addr} {ts:Ps} {n:Int} (h:cD H a ts n) (h':cD H b ts n):∃ xs ys,aX K H a xs∧aX K H b ys∧Paired (q8 K H 2) xs ys:=by
 obtain ⟨t,e,vs,et,r⟩:=h
 obtain ⟨t',e',vs',et',r'⟩:=h'
 exact ⟨_,_,aX.of e,aX.of e',.cons (.inr ⟨t,t',vs,vs',rfl,rfl,.inr ⟨aX.of et,aX.of et'⟩,AS r r'⟩) (.cons (.inl ⟨rfl,rfl⟩) .nil)⟩
theorem Lz {K:PySem.W.Frag} {H:Hp} {a b:Addr} {ts:Ps} {n:Int} (h:cD H a ts n) (h':cD H b ts n):q8 K H 3 (.ref a) (.ref b):=by
 obtain ⟨xs,ys,h1,h2,p⟩:=Gx (K:=K) h h'
 exact .inr ⟨a,b,xs,ys,rfl,rfl,.inr ⟨h1,h2⟩,p⟩
theorem E6 {K:PySem.W.Frag} {a:Addr} {ps:Ps} {g:TG} {tb:TS} {D:Ends} {σ:St} {H:Hp} (h:Tp H a ps) (Pv:Nat→St→Hp→Prop) (h0:Pv 0 σ H) (hS:∀ i σ H',Pv i σ H'→∀ b xs,H b=some (.tup xs)→H' b=some (.tup xs))
  (hs:∀ i v p σ H',ps[i]?=some p→Pr H' v p→Pv i σ H'→g v σ H' fun σ2 H2=>tb { D with nx:=Pv (i+1),ct:=Pv (i+1),bk:=D.nx } σ2 H2) (hd:∀ σ H',Pv ps.length σ H'→D.nx σ H') :
  (∃ xs,aX K H a xs)∧SV (LV K a) g tb D σ H:=by
 obtain ⟨vs,e,r⟩:=h
 refine ⟨⟨vs,aX.of e⟩,kU (xs:=vs) Pv h0 (fun i σ H' _ p=>aX.of (hS i σ H' p _ _ e)) (fun i v σ H' hi p=>?_) ?_⟩
 ·obtain ⟨q,hq,pr⟩:=get_some r hi
  exact hs i v q σ H' hq (pr.keep (hS i σ H' p)) p
 ·rw [bY r];exact hd
theorem Qk {r:Nat} (hr:r < 7):∃ z:Int,([V.int 0,.int 1,.int 1,.int 1,.int 2,.int 2,.int 3]:List V)[r]?=some (V.int z)∧0≤z∧z≤3 :=
 match r,hr with
 | 0,_=>⟨_,rfl,by decide,by decide⟩ | 1,_=>⟨_,rfl,by decide,by decide⟩ | 2,_=>⟨_,rfl,by decide,by decide⟩ | 3,_=>⟨_,rfl,by decide,by decide⟩ | 4,_=>⟨_,rfl,by decide,by decide⟩ | 5,_=>⟨_,rfl,by decide,by decide⟩ | 6,_=>⟨_,rfl,by decide,by decide⟩
theorem Sf {r:Nat} (hr:r < 8):∃ z,([V.int 1,.int 1,.int 1,.int (-1),.int (-1),.int 2,.int (-3),.int 17]:List V)[r]?=some (V.int z)∧z≠0∧Small z :=
 match r,hr with
 | 0,_=>⟨_,rfl,by decide,by decide,by decide⟩ | 1,_=>⟨_,rfl,by decide,by decide,by decide⟩ | 2,_=>⟨_,rfl,by decide,by decide,by decide⟩ | 3,_=>⟨_,rfl,by decide,by decide,by decide⟩
 | 4,_=>⟨_,rfl,by decide,by decide,by decide⟩ | 5,_=>⟨_,rfl,by decide,by decide,by decide⟩ | 6,_=>⟨_,rfl,by decide,by decide,by decide⟩ | 7,_=>⟨_,rfl,by decide,by decide,by decide⟩
theorem a0O {a b:Int} (ha:Small a) (hb:Small b) (i:Int):∃ z,xO ([V.int 0,.int 0,.int 1,.int (-1),.int a,.int b]:List V) (i % 6)=some (V.int z)∧Small z:=by
 have h:i % 6=0∨i % 6=1∨i % 6=2∨i % 6=3∨i % 6=4∨i % 6=5:=by omega
 rcases h with h | h | h | h | h | h <;> rw [h]
 ·exact ⟨_,rfl,by decide,by decide⟩
 ·exact ⟨_,rfl,by decide,by decide⟩
 ·exact ⟨_,rfl,by decide,by decide⟩
 ·exact ⟨_,rfl,by decide,by decide⟩
 ·exact ⟨_,rfl,ha⟩
 ·exact ⟨_,rfl,hb⟩
def LU (C:Addr) (H:Hp):Addr→Ps×Int→Prop:=fun u q=>cB C H u q.1 q.2
def LY (H:Hp):Addr→Ps×Int→Prop:=fun u q=>cD H u q.1 q.2
def TZ (ts:Ps):Prop:=ts.length≤3∧∀ p∈ts,Small p.2
end Hw
namespace Hw
open PySem L2
structure Oq (o:HO):Prop where
 t:∀ xs,o≠.tup xs
 i:∀ C dx fs,o≠.ins C dx fs
theorem gJ {xs:List V}:Oq (.lst xs):=⟨fun _ z=>(by cases z),fun _ _ _ z=>(by cases z)⟩
theorem IM {xs:List (Key×V)}:Oq (.dK xs):=⟨fun _ z=>(by cases z),fun _ _ _ z=>(by cases z)⟩
section
variable {H H':Hp} {z:Addr} {o:HO}
theorem bQ.tupS (b:bQ z H H') (hz:H z=some o) (so:Oq o):∀ a xs,H a=some (.tup xs)→H' a=some (.tup xs):=fun a xs e=>b a _ e fun q=>by rw [q,hz] at e;exact so.t xs (Option.some.inj e)
end
section
variable {H0 H H':Hp} {d tl ro:Addr} {xs:List Str} {t0:Ps} {n0:Int}
end
theorem yo (t t':Str) (q:Ps×Int):∀ A:Sb,look (A++[(t',q)]) t=match look A t with | some x=>some x | none=>if t'=t then some q else none
 | []=>rfl
 | a::r=>by
  have ih:=yo t t' q r
  show (if a.1=t then some a.2 else look (r++[(t',q)]) t)=match (if a.1=t then some a.2 else look r t) with | some x=>some x | none=>if t'=t then some q else none
  by_cases e:a.1=t
  ·rw [if_pos e,if_pos e]
  ·rw [if_neg e,if_neg e,ih]
theorem EZ (t:Str) (n:Int) (t':Str):∀ e:Ps,get (e++[(t,n)]) t'=if t'∈keys e then get e t' else if t=t' then n else 0
 | []=>by
  rw [if_neg (by simp [keys])]
  show get [(t,n)] t'=_
  rw [dS]
  rfl
 | p::r=>by
  have ih:=EZ t n t' r
  have mk:t'∈keys (p::r)↔t'=p.1∨t'∈keys r:=by unfold keys;rw [List.map_cons,List.mem_cons]
  rw [List.cons_append,dS,dS,ih]
  by_cases z:p.1=t'
  ·have:t'∈keys (p::r):=mk.mpr (.inl z.symm)
   simp only [z,if_true,this]
  ·by_cases m:t'∈keys r
   ·have:t'∈keys (p::r):=mk.mpr (.inr m)
    simp only [z,if_false,m,if_true,this]
   ·have:¬ t'∈keys (p::r):=fun w=>(mk.mp w).elim (fun y=>z y.symm) m
    simp only [z,if_false,m,this]
theorem NN (e:Ps) (t t':Str) (n:Int):get (put e t n) t'=if t=t' then n else get e t':=by
 unfold put
 by_cases h:(e.any fun p=>decide (p.1=t))=true
 ·rw [if_pos h]
  by_cases q:t=t'
  ·rw [if_pos q]
   subst q
   have m:t∈keys e:=(nR e t).mp h
   clear h
   induction e with
   | nil=>simp [keys] at m
   | cons p r ih =>
    rw [List.map_cons,dS]
    by_cases z:p.1=t
    ·simp only [z,if_true]
    ·simp only [z,if_false]
     exact ih ((List.mem_cons.mp m).resolve_left fun w=>z w.symm)
  ·rw [if_neg q]
   clear h
   induction e with
   | nil=>rfl
   | cons p r ih =>
    rw [List.map_cons,dS,dS,ih]
    by_cases z:p.1=t
    ·have z':¬ p.1=t':=fun w=>q (z.symm.trans w)
     rw [if_pos z]
     show (if p.1=t' then n else get r t')=_
     rw [if_neg z',if_neg z']
    ·rw [if_neg z]
 ·rw [if_neg h,EZ]
  have nm:t ∉ keys e:=fun m=>h ((nR e t).mpr m)
  by_cases q:t=t'
  ·subst q
   rw [if_neg nm,if_pos rfl,if_pos rfl]
  ·by_cases m:t'∈keys e
   ·rw [if_pos m,if_neg q]
   ·rw [if_neg m,if_neg q,if_neg q,zU m]
end Hw
namespace Hw
open PySem L2
inductive Cd where
 | cmp (a:Ps) (n:Int) (s:Str) (b:Ps) (m:Int)
 | neg (c:Cd)
 | con (k:Bool) (cs:List Cd)
mutual
def Cd.dep:Cd→Nat
 | .cmp ..=>1
 | .neg c=>c.dep+1
 | .con _ cs=>ji cs+1
def ji:List Cd→Nat
 | []=>0
 | c::cs=>max c.dep (ji cs)
end
theorem eT {c:Cd}:∀ {cs:List Cd},c∈cs→c.dep≤ji cs
 | a::r,h=>by
  unfold ji
  rcases List.mem_cons.mp h with e | e
  ·rw [e];exact Nat.le_max_left _ _
  ·exact Nat.le_trans (eT e) (Nat.le_max_right _ _)
theorem N3 (c:Cd):1≤c.dep:=by cases c <;> simp [Cd.dep]
def Au (k:Bool):Str:=if k then "and" else "or"
mutual
def aW (H:Hp):Cd→V→Prop
 | .cmp a n s b m,v=>∃ r u w,v=.ref r∧H r=some (.tup [.str "compare",.ref u,.str s,.ref w])∧cD H u a n∧cD H w b m
 | .neg c,v=>∃ r u,v=.ref r∧H r=some (.tup [.str "not",u])∧aW H c u
 | .con k cs,v=>∃ r us,v=.ref r∧H r=some (.tup (.str (Au k)::us))∧bV H cs us
def bV (H:Hp):List Cd→List V→Prop
 | [],us=>us=[]
 | c::cs,us=>∃ u r,us=u::r∧aW H c u∧bV H cs r
end
structure Cz where
 s:Addr
 c:Addr
 t:Addr
 e:Addr
 o:Addr
def qT (u:Addr) (s:Str) (w:Addr):List (Str×V):=gG "other" (.ref w) (gG "sign" (.str s) (gG "one" (.ref u) []))
def AA (u:V):List (Str×V):=gG "condition" u []
def lW (t:Addr):List (Str×V):=gG "conditions" (.ref t) []
mutual
def bw (Z:Cz) (H:Hp):Cd→V→Prop
 | .cmp a n s b m,v=>∃ p dx u w,v=.ref p∧H p=some (.ins Z.c dx (qT u s w))∧cB Z.s H u a n∧cB Z.s H w b m
 | .neg c,v=>∃ p dx u,v=.ref p∧H p=some (.ins Z.t dx (AA u))∧bw Z H c u
 | .con k cs,v=>∃ p dx t us,v=.ref p∧H p=some (.ins (if k then Z.e else Z.o) dx (lW t))∧H t=some (.tup us)∧us.length≤1000∧cG Z H cs us
def cG (Z:Cz) (H:Hp):List Cd→List V→Prop
 | [],us=>us=[]
 | c::cs,us=>∃ u r,us=u::r∧bw Z H c u∧cG Z H cs r
end
structure aD (H H':Hp):Prop where
 t:∀ a xs,H a=some (.tup xs)→H' a=some (.tup xs)
 i:∀ a C dx fs,H a=some (.ins C dx fs)→H' a=some (.ins C dx fs)
theorem aD.of {H H':Hp} (s:az H H'):aD H H':=⟨fun _ _ e=>s _ _ e,fun _ _ _ _ e=>s _ _ e⟩
theorem aD.soft {H H':Hp} {z:Addr} {o:HO} (b:bQ z H H') (hz:H z=some o) (so:Oq o):aD H H' :=
 ⟨b.tupS hz so,fun a C dx fs e=>b _ _ e fun q=>by rw [q,hz] at e;exact so.i _ _ _ (Option.some.inj e)⟩
theorem cD.aB {H H':Hp} {r:Addr} {ts:Ps} {n:Int} (h:cD H r ts n) (k:aD H H'):cD H' r ts n:=let ⟨t,e,vs,et,r⟩:=h;⟨t,k.t _ _ e,vs,k.t _ _ et,r.keep k.t⟩
theorem cB.aB {H H':Hp} {C p:Addr} {ts:Ps} {n:Int} (h:cB C H p ts n) (k:aD H H'):cB C H' p ts n:=let ⟨dx,t,e,⟨vs,et,r⟩,l⟩:=h;⟨dx,t,k.i _ _ _ _ e,⟨vs,k.t _ _ et,r.keep k.t⟩,l⟩
mutual
theorem aW.aB {H H':Hp} (k:aD H H'):∀ {c:Cd} {v:V},aW H c v→aW H' c v
 | .cmp a n s b m,v,h=>by
  unfold aW at h ⊢
  obtain ⟨r,u,w,e,er,d1,d2⟩:=h
  exact ⟨r,u,w,e,k.t _ _ er,d1.aB k,d2.aB k⟩
 | .neg c,v,h=>by
  unfold aW at h ⊢
  obtain ⟨r,u,e,er,d⟩:=h
  exact ⟨r,u,e,k.t _ _ er,aW.aB k d⟩
 | .con b cs,v,h=>by
  unfold aW at h ⊢
  obtain ⟨r,us,e,er,d⟩:=h
  exact ⟨r,us,e,k.t _ _ er,bV.aB k d⟩
theorem bV.aB {H H':Hp} (k:aD H H'):∀ {cs:List Cd} {us:List V},bV H cs us→bV H' cs us
 | [],us,h=>by unfold bV at h ⊢;exact h
 | c::cs,us,h=>by
  unfold bV at h ⊢
  obtain ⟨u,r,e,d1,d2⟩:=h
  exact ⟨u,r,e,aW.aB k d1,bV.aB k d2⟩
end
mutual
theorem bw.aB {Z:Cz} {H H':Hp} (k:aD H H'):∀ {c:Cd} {v:V},bw Z H c v→bw Z H' c v
 | .cmp a n s b m,v,h=>by
  unfold bw at h ⊢
  obtain ⟨p,dx,u,w,e,ep,d1,d2⟩:=h
  exact ⟨p,dx,u,w,e,k.i _ _ _ _ ep,d1.aB k,d2.aB k⟩
 | .neg c,v,h=>by
  unfold bw at h ⊢
  obtain ⟨p,dx,u,e,ep,d⟩:=h
  exact ⟨p,dx,u,e,k.i _ _ _ _ ep,bw.aB k d⟩
 | .con b cs,v,h=>by
  unfold bw at h ⊢
  obtain ⟨p,dx,t,us,e,ep,et,l,d⟩:=h
  exact ⟨p,dx,t,us,e,k.i _ _ _ _ ep,k.t _ _ et,l,cG.aB k d⟩
theorem cG.aB {Z:Cz} {H H':Hp} (k:aD H H'):∀ {cs:List Cd} {us:List V},cG Z H cs us→cG Z H' cs us
 | [],us,h=>by unfold cG at h ⊢;exact h
 | c::cs,us,h=>by
  unfold cG at h ⊢
  obtain ⟨u,r,e,d1,d2⟩:=h
  exact ⟨u,r,e,bw.aB k d1,cG.aB k d2⟩
end
theorem aN {H:Hp}:∀ {cs:List Cd} {us:List V},bV H cs us↔Paired (fun u c=>aW H c u) us cs
 | [],us=>by
  unfold bV
  exact ⟨fun e=>e ▸ .nil,fun h=>by cases h;rfl⟩
 | c::cs,us=>by
  unfold bV
  constructor
  ·rintro ⟨u,r,rfl,d1,d2⟩
   exact .cons d1 (aN.mp d2)
  ·intro h
   cases h with
   | cons d1 d2=>exact ⟨_,_,rfl,d1,aN.mpr d2⟩
theorem aR {Z:Cz} {H:Hp}:∀ {cs:List Cd} {us:List V},cG Z H cs us↔Paired (fun u c=>bw Z H c u) us cs
 | [],us=>by
  unfold cG
  exact ⟨fun e=>e ▸ .nil,fun h=>by cases h;rfl⟩
 | c::cs,us=>by
  unfold cG
  constructor
  ·rintro ⟨u,r,rfl,d1,d2⟩
   exact .cons d1 (aR.mp d2)
  ·intro h
   cases h with
   | cons d1 d2=>exact ⟨_,_,rfl,d1,aR.mpr d2⟩
theorem Ny {K:PySem.W.Frag} {H:Hp} {n m:Nat} {x y:V} (h:q8 K H n x y) (l:n≤m):q8 K H m x y:=by
 induction l with
 | refl=>exact h
 | step _ ih=>exact ET ih
def ir (s:Str) (x y:Int):Bool :=
 if s="<" then decide (x < y) else if s="<=" then decide (x≤y) else if s="=" then decide (x=y) else if s="!=" then !decide (x=y) else if s=">=" then decide (y≤x) else decide (y < x)
def signs:List Str:=["<","<=","=","!=",">=",">"]
mutual
def Cd.holds (f:Str→Int):Cd→Bool
 | .cmp a n s b m=>ir s (n+bT a f) (m+bT b f)
 | .neg c=>!c.holds f
 | .con k cs=>if k then cP f cs else cO f cs
def cP (f:Str→Int):List Cd→Bool
 | []=>true
 | c::cs=>c.holds f && cP f cs
def cO (f:Str→Int):List Cd→Bool
 | []=>false
 | c::cs=>c.holds f || cO f cs
end
def g7 (s:Str):Str:=if s="<" then ">=" else if s=">=" then "<" else if s="<=" then ">" else if s=">" then "<=" else if s="=" then "!=" else "="
mutual
def Cd.cY:Cd→Cd
 | .cmp a n s b m=>.cmp a n (g7 s) b m
 | .neg c=>c
 | .con k cs=>.con (!k) (dH cs)
def dH:List Cd→List Cd
 | []=>[]
 | c::cs=>c.cY::dH cs
end
mutual
def Cd.ok:Cd→Prop
 | .cmp a n s b m=>s∈signs
 | .neg c=>c.ok
 | .con _ cs=>oi cs
def oi:List Cd→Prop
 | []=>True
 | c::cs=>c.ok∧oi cs
end
theorem JH {s:Str} (h:s∈signs) (x y:Int):ir (g7 s) x y=!ir s x y:=by
 simp only [signs,List.mem_cons,List.not_mem_nil,or_false] at h
 have l1:(g7 "<")=">=":=by decide +kernel
 have l2:(g7 "<=")=">":=by decide +kernel
 have l3:(g7 "=")="!=":=by decide +kernel
 have l4:(g7 "!=")="=":=by decide +kernel
 have l5:(g7 ">=")="<":=by decide +kernel
 have l6:(g7 ">")="<=":=by decide +kernel
 have v1:ir "<" x y=decide (x < y):=rfl
 have v2:ir "<=" x y=decide (x≤y):=by unfold ir;rw [if_neg (by decide +kernel),if_pos rfl]
 have v3:ir "=" x y=decide (x=y):=by unfold ir;rw [if_neg (by decide +kernel),if_neg (by decide +kernel),if_pos rfl]
 have v4:ir "!=" x y=!decide (x=y):=by unfold ir;rw [if_neg (by decide +kernel),if_neg (by decide +kernel),if_neg (by decide +kernel),if_pos rfl]
 have v5:ir ">=" x y=decide (y≤x):=by unfold ir;rw [if_neg (by decide +kernel),if_neg (by decide +kernel),if_neg (by decide +kernel),if_neg (by decide +kernel),if_pos rfl]
 have v6:ir ">" x y=decide (y < x):=by unfold ir;rw [if_neg (by decide +kernel),if_neg (by decide +kernel),if_neg (by decide +kernel),if_neg (by decide +kernel),if_neg (by decide +kernel)]
 rcases h with h | h | h | h | h | h <;> subst h
 ·rw [l1,v5,v1];by_cases q:x < y <;> simp [q] <;> omega
 ·rw [l2,v6,v2];by_cases q:x≤y <;> simp [q] <;> omega
 ·rw [l3,v4,v3]
 ·rw [l4,v3,v4];simp
 ·rw [l5,v1,v5];by_cases q:y≤x <;> simp [q] <;> omega
 ·rw [l6,v2,v6];by_cases q:y < x <;> simp [q] <;> omega
mutual
theorem rW (f:Str→Int):∀ {c:Cd},c.ok→c.cY.holds f=!c.holds f
 | .cmp a n s b m,h=>by
  unfold Cd.cY Cd.holds
  exact JH (by unfold Cd.ok at h;exact h) _ _
 | .neg c,h=>by
  unfold Cd.cY
  conv=>rhs;unfold Cd.holds
  simp
 | .con k cs,h=>by
  unfold Cd.ok at h
  unfold Cd.cY
  conv=>lhs;unfold Cd.holds
  conv=>rhs;unfold Cd.holds
  cases k with
  | true =>
   show (if (!true)=true then cP f (dH cs) else cO f (dH cs))=!(if true=true then cP f cs else cO f cs)
   rw [if_neg (by decide),if_pos rfl]
   exact (pC f h).1
  | false =>
   show (if (!false)=true then cP f (dH cs) else cO f (dH cs))=!(if false=true then cP f cs else cO f cs)
   rw [if_pos (by decide),if_neg (by decide)]
   exact (pC f h).2
theorem pC (f:Str→Int):∀ {cs:List Cd},oi cs→(cO f (dH cs)=!cP f cs)∧(cP f (dH cs)=!cO f cs)
 | [],h=>⟨rfl,rfl⟩
 | c::cs,h=>by
  unfold oi at h
  have e:=rW f h.1
  have ih:=pC f h.2
  unfold dH cO cP
  constructor
  ·rw [e,ih.1,Bool.not_and]
  ·rw [e,ih.2,Bool.not_or]
end
mutual
def cL (xs:List Str):Cd→Prop
 | .cmp a n s b m=>(∀ p∈a,p.1∈xs)∧∀ p∈b,p.1∈xs
 | .neg c=>cL xs c
 | .con _ cs=>cJ xs cs
def cJ (xs:List Str):List Cd→Prop
 | []=>True
 | c::cs=>cL xs c∧cJ xs cs
end
end Hw
namespace Hw
open PySem L2
def IP:Cd→Nat
 | .cmp ..=>0
 | .neg _=>1
 | .con true _=>2
 | .con false _=>3
def fJ (Z:Cz):Nat→Addr
 | 0=>Z.c
 | 1=>Z.t
 | 2=>Z.e
 | _=>Z.o
structure gH (K:PySem.W.Frag) (mg:Str→Option Value) (Z:Cz):Prop where
 cl:∀ j,j < 4→Ef K (fJ Z j)
 n1:fN K Z.c "one"
 n2:fN K Z.c "sign"
 n3:fN K Z.c "other"
 n4:fN K Z.t "condition"
 n5:fN K Z.e "conditions"
 n6:fN K Z.o "conditions"
 mgC:mg "Compare"=some (.ref Z.c)
 mgT:mg "Turned"=some (.ref Z.t)
 mgE:mg "Every"=some (.ref Z.e)
 mgO:mg "Some"=some (.ref Z.o)
 all:mg "all"=none
 any:mg "any"=none
theorem ES (u:Addr) (s:Str) (w:Addr):(qT u s w).lookup ("one":Str)=some (.ref u):=by
 unfold qT;rw [bu,if_neg (by decide +kernel),bu,if_neg (by decide +kernel),bu,if_pos rfl]
theorem fH (u:Addr) (s:Str) (w:Addr):(qT u s w).lookup ("sign":Str)=some (.str s):=by
 unfold qT;rw [bu,if_neg (by decide +kernel),bu,if_pos rfl]
theorem ER (u:Addr) (s:Str) (w:Addr):(qT u s w).lookup ("other":Str)=some (.ref w):=by
 unfold qT;rw [bu,if_pos rfl]
theorem Q6 (u:V):(AA u).lookup ("condition":Str)=some u:=by unfold AA;rw [bu,if_pos rfl]
theorem Ga (t:Addr):(lW t).lookup ("conditions":Str)=some (.ref t):=by unfold lW;rw [bu,if_pos rfl]
structure SK (m:Str):Prop where
 a:¬ m="one"
 b:¬ m="sign"
 c:¬ m="other"
 d:¬ m="condition"
 e:¬ m="conditions"
theorem xm {Z:Cz} {H:Hp} {c:Cd} {p:Addr} (h:bw Z H c (.ref p)) {m:Str} (nf:SK m):∃ dx fs,H p=some (.ins (fJ Z (IP c)) dx fs)∧fs.lookup m=none:=by
 cases c with
 | cmp a n s b m' =>
  unfold bw at h
  obtain ⟨q,dx,u,w,e,ep,_⟩:=h
  cases e
  refine ⟨dx,_,ep,?_⟩
  unfold qT
  rw [bu,if_neg nf.c,bu,if_neg nf.b,bu,if_neg nf.a]
  rfl
 | neg c =>
  unfold bw at h
  obtain ⟨q,dx,u,e,ep,_⟩:=h
  cases e
  refine ⟨dx,_,ep,?_⟩
  unfold AA
  rw [bu,if_neg nf.d]
  rfl
 | con k cs =>
  unfold bw at h
  obtain ⟨q,dx,t,us,e,ep,_⟩:=h
  cases e
  cases k <;> exact ⟨dx,_,ep,by unfold lW;rw [bu,if_neg nf.e];rfl⟩
theorem rL (c:Cd):IP c < 4:=by
 cases c with
 | cmp=>show 0 < 4;decide
 | neg=>show 1 < 4;decide
 | con k cs=>cases k <;> (first | (show 2 < 4;decide) | (show 3 < 4;decide))
def M4 (P:Program) (w:World) (K:PySem.W.Frag) (mg:Str→Option Value) (base:Heap) (k:Nat) (Z:Cz) (m:Str) (ps:List Str) (sp:Nat→Sp):Prop:=∀ j,j < 4→Mt P w K mg base k (fJ Z j) m ps (sp j)
end Hw
namespace L2
open PySem PySem.Spec PyProof.Rows Hw
section
variable {X:Cx} {k:Nat} {m:Str} {pos apos:Pos} {o e:Expr} {es:List Expr} {ta:TE} {t:TA} {Z:Cz} {ps:List Str} {sp:Nat→Sp}
def ZS (Z:Cz) (sp:Nat→Sp) (ta:TE):TE:=fun σ H Q=>ta σ H fun x H1=>∃ p c,x=.ref p∧bw Z H1 c (.ref p)∧sp (IP c) [.ref p] H1 Q E0
def tCm (Z:Cz) (sp:Nat→Sp) (ta:TE) (t:TA):TE:=fun σ H Q=>ta σ H fun x H1=>∃ p c,x=.ref p∧bw Z H1 c (.ref p)∧t σ H1 fun vs H2=>sp (IP c) (.ref p::(vs++[])) H2 Q E0
theorem zo {pl:Sem Bool} (he:PE X o ta) (cl:∀ j,j < 4→Ef X.K (fJ Z j)) (nf:SK m) (M:M4 X.prog X.w X.K X.mg X.base k Z m ps sp) (hr:fM k X.A) (hx:Passes fh X E0)
  (ht:eval (.Call (.Attribute o m apos) [] [] pos) X.env=(do
   let ov ← eval o X.env
   standAt apos.atName
   let (f,first) ← holding [ov] (getMethod ov m pl)
   callWith pos f first (backTo pos (starEach [] X.env)) (backToKw pos (keywordEach [] X.env))):=by rfl) :
  PE X (.Call (.Attribute o m apos) [] [] pos) (ZS Z sp ta):=by
 intro pins s σ H Q I h
 refine PySem.W.methodCall_KW (pl:=pl) (cS (he pins s σ H _ I h) fun u s1 ⟨x,H1,I1,rx,a,c,ex,hc,q⟩=>?_) ht
 subst ex
 obtain rfl:u=Value.ref a:=rx
 obtain ⟨dx,fs,ea,l⟩:=xm hc nf
 obtain ⟨f,fd,F,hm,hb⟩:=M (IP c) (rL c)
 refine kQ I1 ea (cl _ (rL c)) hm l ?_
 exact PySem.W.callWith_K0 (first:=[.ref a]) I1.p8 hm.kp (pB (us:=[.ref a]) (vs:=[.ref a]) F hr hb .nil hx I1 (.cons rfl .nil) q)
theorem AV {pl:Sem Bool} (he:PE X o ta) (cl:∀ j,j < 4→Ef X.K (fJ Z j)) (nf:SK m) (M:M4 X.prog X.w X.K X.mg X.base k Z m ps sp) (hr:fM k X.A) (hx:Passes fh X E0) (ha:PA X (e::es) t)
  (hst:starEach (e::es) X.env=(false,eval e X.env)::starEach es X.env:=by rfl) (hpl:(backTo pos (starEach es X.env)).any (·.1)=false:=by rfl)
  (ht:eval (.Call (.Attribute o m apos) (e::es) [] pos) X.env=(do
   let ov ← eval o X.env
   standAt apos.atName
   let (f,first) ← holding [ov] (getMethod ov m pl)
   callWith pos f first (backTo pos (starEach (e::es) X.env)) (backToKw pos (keywordEach [] X.env))):=by rfl) :
  PE X (.Call (.Attribute o m apos) (e::es) [] pos) (tCm Z sp ta t):=by
 intro pins s σ H Q I h
 refine PySem.W.methodCall_KW (pl:=pl) (cS (he pins s σ H _ I h) fun u s1 ⟨x,H1,I1,rx,a,c,ex,hc,q⟩=>?_) ht
 subst ex
 obtain rfl:u=Value.ref a:=rx
 obtain ⟨dx,fs,ea,l⟩:=xm hc nf
 obtain ⟨f,fd,F,hm,hb⟩:=M (IP c) (rL c)
 refine kQ I1 ea (cl _ (rL c)) hm l ?_
 refine PySem.W.callWith_K (first:=[.ref a]) (h₀:=X.base) I.ok.mod.lS hm.kp (cS (ha pos pins s1 σ H1 _ I1 q) fun us s2 ⟨vs,H2,I2,r,q2⟩=>⟨I2.p8,?_⟩) hst hpl
 exact pB (us:=.ref a::us) (vs:=.ref a::vs) F hr hb .nil hx I2 (.cons rfl r) q2
end
end L2
namespace Hw
open PySem L2
theorem yu {P:Program} {w:World} {K:PySem.W.Frag} {mg:Str→Option Value} {base:Heap} {k:Nat} {f:Addr} {fd:FuncData} {ps:List Str} {sp:Sp} (h:∀ vs H Q E,¬ sp vs H Q E):bF P w K mg base fh k f fd ps sp :=
 ⟨fun vs H Q E z=>(h vs H Q E z).elim,fun A outer s H args us vs Q E _ _ _ _ z=>(h vs H Q E z).elim⟩
def jv (Z:Cz):Sp:=fun vs H Q _=>∃ (p dx u w:Addr) (s:Str),vs=[.ref p,.ref u,.str s,.ref w]∧H p=some (.ins Z.c dx [])∧∀ H',bQ p H H'→H' p=some (.ins Z.c dx (qT u s w))→Q .fL H'
def ny (Z:Cz):Sp:=fun vs H Q _=>∃ (p dx:Addr) (u:V),vs=[.ref p,u]∧H p=some (.ins Z.t dx [])∧∀ H',bQ p H H'→H' p=some (.ins Z.t dx (AA u))→Q .fL H'
def dM (D:Addr):Sp:=fun vs H Q _=>∃ (p dx l:Addr) (us:List V),vs=[.ref p,.ref l]∧H p=some (.ins D dx [])∧H l=some (.lst us)∧∀ (t:Addr) (H':Hp),bQ p H H'→H' p=some (.ins D dx (lW t))→H' t=some (.tup us)→Q .fL H'
def iB (Z:Cz) (n:Nat):Nat→Sp:=fun j vs H Q _=>∃ (p:Addr) (c:Cd),vs=[.ref p]∧IP c=j∧bw Z H c (.ref p)∧c.dep≤n∧c.ok∧∀ (v:V) (H':Hp),az H H'→bw Z H' c.cY v→Q v H'
end Hw
namespace Hw
open PySem L2
theorem jV:SK "put_in":=⟨by decide +kernel,by decide +kernel,by decide +kernel,by decide +kernel,by decide +kernel⟩
theorem jB:SK "opposite":=⟨by decide +kernel,by decide +kernel,by decide +kernel,by decide +kernel,by decide +kernel⟩
theorem qD:SK "cases":=⟨by decide +kernel,by decide +kernel,by decide +kernel,by decide +kernel,by decide +kernel⟩
theorem di {Z:Cz} {H:Hp} {c:Cd} {v:V} (h:bw Z H c v):∃ p,v=.ref p:=by
 cases c <;> (unfold bw at h;obtain ⟨p,h⟩:=h)
 ·obtain ⟨_,_,_,e,_⟩:=h;exact ⟨p,e⟩
 ·obtain ⟨_,_,e,_⟩:=h;exact ⟨p,e⟩
 ·obtain ⟨_,_,_,e,_⟩:=h;exact ⟨p,e⟩
theorem ak {α β:Type} {R:α→β→Prop}:∀ {xs:List α} {ys:List β},Paired R xs ys→xs.length=ys.length
 | _,_,.nil=>rfl
 | _,_,.cons _ t=>congrArg (·+1) (ak t)
end Hw
namespace L2
open PySem PySem.Spec PyProof.Rows Hw
section
variable {X:Cx} {K:PySem.W.Frag}
theorem LK (hc:X.calm=true):j9 X (.builtin "any") (fun xs H Q=>∃ (p:Addr) (bs:List Bool),xs=[.ref p]∧bC X.K H p (bs.map V.bl)∧Q (.bl (bs.any id)) H):=by
 intro pins s σ H xs us Q I r h
 obtain ⟨p,bs,rfl,hq,q⟩:=h
 obtain ⟨u,rfl,ru⟩:=vals1 r
 cases ru
 obtain ⟨its,rv,pl,hz⟩:=I.list hq
 have lp:p < s.heap.objs.size:=let ⟨o,_,e,_⟩:=pl;Heap.lt_size e
 have hl:=rv.length
 rw [List.length_map] at hl
 refine call_any_walk (wpAny_pyIter_list pl.isList ?_)
 have W:=Walks.list (prog:=X.prog) (w:=X.w) (A:=X.A.in1) (I.ok.hd hc) s.heap.objs.size p (Nat.ne_of_lt lp) its.toArray
 refine ⟨s.heap.objs.size,_,_,_,_,_,(fun i=>(bs[i]?).getD false),rfl,W,⟨⟨_,Heap.get?_push_size _ rfl,rfl,rfl⟩,pl.isList.at fun o e=>Heap.get?_push_of_some _ e⟩,fun i v s' Q' E' hv hQ=>?_,fun h' tk hk=>?_⟩
 ·have hv:its.toArray[i]?=some v:=hv
  have hv:its[i]?=some v:=by simpa using hv
  have hil:i < its.length:=(List.getElem?_eq_some_iff.mp hv).1
  obtain ⟨u,hu,ru⟩:=rv.get (i:=i) (x:=.bl ((bs[i]?).getD false)) (by rw [List.getElem?_map,List.getElem?_eq_getElem (by omega)];rfl)
  rw [hv] at hu
  cases hu
  cases ru
  exact wpAny_truthy_bool hQ
 ·have kp:∀ b o,s.heap.get? b=some o→h'.get? b=some o:=fun b o e =>
   hk b o (fun hI=>absurd (Heap.lt_size e) (by rw [List.mem_singleton.mp hI];exact Nat.lt_irrefl _)) (Heap.get?_push_of_some _ e)
  have e:((List.range its.toArray.size).any fun i=>(bs[i]?).getD false)=bs.any id:=by rw [List.size_toArray,← hl];exact LSm.range_any bs
  rw [e]
  exact ⟨.bl (bs.any id),H,I.kept (t':=tk) kp,rfl,q⟩
end
end L2
namespace Hw
open PySem L2
theorem bG {p:Prop} [Decidable p] {F G:Prop} (h:p) (f:F):if decide p=true then F else G:=by rw [if_pos (decide_eq_true h)];exact f
theorem bf {p:Prop} [Decidable p] {F G:Prop} (h:¬ p) (f:G):if decide p=true then F else G:=by rw [if_neg (by simpa using h)];exact f
theorem bx {s t:Str} (h:¬ s=t):¬ V.str s=V.str t:=fun e=>h (V.str.inj e)
theorem pT (f:Str→Int):∀ cs:List Cd,cP f cs=(cs.map (Cd.holds f)).all id
 | []=>by unfold cP;rfl
 | c::cs=>by unfold cP;rw [pT f cs];rfl
theorem pS (f:Str→Int):∀ cs:List Cd,cO f cs=(cs.map (Cd.holds f)).any id
 | []=>by unfold cO;rfl
 | c::cs=>by unfold cO;rw [pS f cs];rfl
theorem kJ {c:Cd}:∀ {cs:List Cd},oi cs→c∈cs→c.ok
 | a::r,h,m=>by
  unfold oi at h
  rcases List.mem_cons.mp m with e | e
  ·rw [e];exact h.1
  ·exact kJ h.2 e
theorem tD {xs:List Str} {c:Cd}:∀ {cs:List Cd},cJ xs cs→c∈cs→cL xs c
 | a::r,h,m=>by
  unfold cJ at h
  rcases List.mem_cons.mp m with e | e
  ·rw [e];exact h.1
  ·exact tD h.2 e
end Hw
namespace Hw
open PySem L2
theorem dP:∀ cs:List Cd,dH cs=cs.map Cd.cY
 | []=>by unfold dH;rfl
 | c::cs=>by unfold dH;rw [dP cs];rfl
theorem Rd.same {H H':Hp} {d:Addr} {o:HO} (h:Rd H d o) (s:az H H'):Rd H' d o:=h.elim (fun z=>.inl (s _ _ z)) fun ⟨o,z⟩=>.inr ⟨o,s _ _ z⟩
theorem bX {H:Hp} {x dx:Addr} {o o':HO} (hx:H x=none) (hdx:H dx=none):az H (upd (upd H dx o) x o'):=fun b u z=>by
 rw [aM (av z hx),aM (av z hdx)]
 exact z
mutual
def Pt (S:Sb):Cd→Cd→Prop
 | .cmp a n s b m,c'=>∃ a' b',c'=.cmp a' (n+gE S a) s b' (m+gE S b)∧p9 (jS S a) a'∧p9 (jS S b) b'
 | .neg c,c'=>∃ d,c'=.neg d∧Pt S c d
 | .con k cs,c'=>∃ ds,c'=.con k ds∧nc S cs ds
def nc (S:Sb):List Cd→List Cd→Prop
 | [],ds=>ds=[]
 | c::cs,ds=>∃ d r,ds=d::r∧Pt S c d∧nc S cs r
end
theorem bH {S:Sb}:∀ {cs ds:List Cd},nc S cs ds↔Paired (Pt S) cs ds
 | [],ds=>by
  unfold nc
  exact ⟨fun e=>by rw [e];exact .nil,fun h=>by cases h;rfl⟩
 | c::cs,ds=>by
  unfold nc
  constructor
  ·rintro ⟨u,r,rfl,d1,d2⟩
   exact .cons d1 (bH.mp d2)
  ·intro h
   cases h with
   | cons d1 d2=>exact ⟨_,_,rfl,d1,bH.mpr d2⟩
mutual
def Cd.l3:Cd→Prop
 | .cmp a n s b m=>TZ a∧TZ b
 | .neg c=>c.l3
 | .con _ cs=>Kq cs
def Kq:List Cd→Prop
 | []=>True
 | c::cs=>c.l3∧Kq cs
end
theorem zK {c:Cd}:∀ {cs:List Cd},Kq cs→c∈cs→c.l3
 | a::r,h,m=>by
  unfold Kq at h
  rcases List.mem_cons.mp m with e | e
  ·rw [e];exact h.1
  ·exact zK h.2 e
end Hw
namespace Hw
open PySem L2
def Gs (xs:List Str) (a:Ps) (n:Int):Prop:=Canon a∧TZ a∧(∀ p∈a,p.1∈xs)∧Small n
mutual
def Gd (xs:List Str):Cd→Prop
 | .cmp a n s b m=>Gs xs a n∧s∈signs∧Gs xs b m
 | .neg c=>Gd xs c
 | .con _ cs=>cs.length≤3∧GV xs cs
def GV (xs:List Str):List Cd→Prop
 | []=>True
 | c::cs=>Gd xs c∧GV xs cs
end
theorem BB {xs:List Str} {c:Cd}:∀ {cs:List Cd},GV xs cs→Gd xs c→GV xs (cs++[c])
 | [],_,h=>by unfold GV;exact ⟨h,by unfold GV;trivial⟩
 | a::r,g,h=>by
  unfold GV at g
  show GV xs (a::(r++[c]))
  unfold GV
  exact ⟨g.1,BB g.2 h⟩
theorem yx (c:Cd):∀ cs:List Cd,ji (cs++[c])=max (ji cs) c.dep
 | []=>by show max c.dep (ji [])=max (ji []) c.dep;exact Nat.max_comm _ _
 | a::r=>by
  show max a.dep (ji (r++[c]))=_
  rw [yx c r]
  conv=>rhs;unfold ji
  omega
theorem signs_at {r:Nat} (h:r < 6):∃ s,(signs.map V.str)[r]?=some (V.str s)∧s∈signs:=by
 have e:r < signs.length:=h
 refine ⟨signs[r],?_,List.getElem_mem e⟩
 rw [List.getElem?_map,List.getElem?_eq_getElem e]
 rfl
theorem Dr.soft {H H':Hp} {d:Addr} (h:Dr H d) (b:bQ d H H'):aD H H':=let ⟨x,y,e⟩:=h;aD.soft b e gJ
mutual
def Cd.dW:Cd→Nat
 | .cmp a n s b m=>1
 | .neg c=>c.dW
 | .con _ cs=>uG cs
def uG:List Cd→Nat
 | []=>0
 | c::cs=>c.dW+uG cs
end
mutual
def Cd.full:Cd→Prop
 | .cmp a n s b m=>True
 | .neg c=>c.full
 | .con _ cs=>1≤cs.length∧cE cs
def cE:List Cd→Prop
 | []=>True
 | c::cs=>c.full∧cE cs
end
theorem ia (c:Cd):∀ cs:List Cd,uG (cs++[c])=uG cs+c.dW
 | []=>by show c.dW+uG []=uG []+c.dW;omega
 | a::r=>by
  show a.dW+uG (r++[c])=(a.dW+uG r)+c.dW
  rw [ia c r]
  omega
theorem wU {c:Cd}:∀ {cs:List Cd},cE cs→c.full→cE (cs++[c])
 | [],_,h=>by unfold cE;exact ⟨h,by unfold cE;trivial⟩
 | a::r,g,h=>by
  unfold cE at g
  show cE (a::(r++[c]))
  unfold cE
  exact ⟨g.1,wU g.2 h⟩
def FY:Nat→Nat
 | 0=>1
 | 1=>3
 | k+2=>2*FY (k+1)
theorem uZ:∀ k,1≤FY k
 | 0=>by decide
 | 1=>by decide
 | k+2=>by have:=uZ (k+1);show 1≤2*FY (k+1);omega
theorem Q2:∀ k,FY k≤FY (k+1)
 | 0=>by decide
 | k+1=>by have:=uZ (k+1);show FY (k+1)≤2*FY (k+1);omega
end Hw
namespace Hw
open PySem L2
theorem QE (i:Int):∃ b,xO ([V.str "and",.str "or"]:List V) (i % 2)=some (V.str (Au b)):=by
 have h:i % 2=0∨i % 2=1:=by omega
 rcases h with h | h <;> rw [h]
 ·exact ⟨true,rfl⟩
 ·exact ⟨false,rfl⟩
end Hw
namespace Hw
open PySem L2
theorem KP {b:Bool} {F G:Prop} (h:b=true) (f:F):if b=true then F else G:=by rw [if_pos h];exact f
theorem rq {b:Bool} {F G:Prop} (h:b=false) (g:G):if b=true then F else G:=by rw [h];exact zN g
theorem DL (x:V) (us:List V):xV (x::us) (some 1) none=us:=by
 unfold xV
 have e1:HT.gF (x::us).length 0 (some 1)=1:=by
  have:=HT.Ex (x::us).length 0 1
  rw [show (some (1:Int))=some ((1:Nat):Int) from rfl,this]
  show min 1 (us.length+1)=1
  omega
 have e2:HT.gF (x::us).length (x::us).length none=us.length+1:=rfl
 rw [e1,e2]
 show us.take (us.length+1 - 1)=us
 rw [show us.length+1 - 1=us.length by omega,List.take_length]
theorem xj (x:V) (us:List V):¬ (HT.gF (x::us).length 0 (some 1)=0∧HT.gF (x::us).length (x::us).length none=(x::us).length):=by
 have e1:HT.gF (x::us).length 0 (some 1)=1:=by
  have:=HT.Ex (x::us).length 0 1
  rw [show (some (1:Int))=some ((1:Nat):Int) from rfl,this]
  show min 1 (us.length+1)=1
  omega
 rw [e1]
 intro h
 exact absurd h.1 (by decide)
theorem yL (x:V) (us:List V):xO (x::us) (0:Int)=some x:=fE (j:=0) rfl
end Hw
namespace L2
open PySem PySem.Spec PyProof.Rows Hw
def KDict (P:Program) (w:World) (K:PySem.W.Frag) (D:Addr) (kvs:List (Key×V)):Prop:=∀ h:Heap,K.In h→∃ vs,KV kvs vs∧h.DictOf (cM P w) D vs
def Uk (kvs:List (Key×V)) (ty:TE):TE:=fun σ H Q=>ty σ H fun y H1=>∃ k v,y=kV k∧jQ kvs k=some v∧Q v H1
section
variable {X:Cx} {x:Str} {D:Addr} {kvs:List (Key×V)} {i:Expr} {ty:TE} {p pos:Pos}
theorem ML (hg:Gl X x) (hm:X.mg x=some (.ref D)) (kd:KDict X.prog X.w X.K D kvs) (hi:PE X i ty) (hs:SJ i) (hd:(x == ("__debug__":Str))=false:=by decide):PE X (.Subscript (.Name x p) i pos) (Uk kvs ty):=by
 intro pins s σ H Q I h
 refine Eu PySem.F.slot_dict_getitem.lookup hs (jD I hg hm (cS (hi pins s σ H _ I h) fun iv s2 ⟨y,H2,I2,ry,k,v,ey,hv,q2⟩=>?_) hd)
 subst ey
 obtain ⟨vs,rel,dd⟩:=kd _ I2.p8
 obtain ⟨w',hw,rw'⟩:=lE.some_of (v:=v) (o:=valueAt vs k) (by rw [← hv];exact rel.val k)
 exact ⟨dd.typeIs,wpAny_getItem_of (wN ry) dd.mapOf hw ⟨v,H2,I2.tok _,rw',q2⟩⟩
end
abbrev Ent:=Str×Tok×Str×Tok
def ent (P:Params) (e:Ent):DictEntry:=⟨PyData.keyHash P e.1,.str e.1 e.2.1,.str e.2.2.1 e.2.2.2⟩
theorem yv {P:Program} {w:World}:∀ es:List Ent,Pairs (cM P w) (es.map (ent w.params)) (es.map fun e=>((Sum.inr e.1:Key),Value.str e.2.2.1 e.2.2.2))
 | []=>.nil
 | e::r=>.cons (mO P w e.1 e.2.1) rfl (yv r)
theorem Ly:∀ es:List Ent,KV (es.map fun e=>((Sum.inr e.1:Key),V.str e.2.2.1)) (es.map fun e=>((Sum.inr e.1:Key),Value.str e.2.2.1 e.2.2.2))
 | []=>.nil
 | e::r=>.cons ⟨rfl,_,rfl⟩ (Ly r)
theorem KC {P:Program} {w:World} {K:PySem.W.Frag} {D:Addr} {ep:Nat} (es:List Ent) (lD:K.lookup D=some ⟨.type "dict",none,.dict (es.map (ent w.params)).toArray ep,#[]⟩) (nd:(es.map fun e=>(Sum.inr e.1:Key)).Nodup) :
  KDict P w K D (es.map fun e=>(Sum.inr e.1,V.str e.2.2.1)):=by
 intro h hk
 refine ⟨_,Ly es,_,_,ep,hk D _ lD,⟨rfl,rfl,rfl⟩,rfl,?_,?_,?_⟩
 ·intro e he
  have he:e∈es.map (ent w.params):=by simpa using he
  obtain ⟨z,_,rfl⟩:=List.mem_map.mp he
  exact ⟨Sum.inr z.1,mO P w z.1 z.2.1,rfl⟩
 ·exact yv es
 ·rw [List.map_map]
  exact nd
end L2
namespace Hw
open PySem L2
def UJ:List (Key×V):=[(Sum.inr "<",.str ">="),(Sum.inr ">=",.str "<"),(Sum.inr "<=",.str ">"),(Sum.inr ">",.str "<="),(Sum.inr "=",.str "!="),(Sum.inr "!=",.str "=")]
def Ot (P:Program) (w:World) (K:PySem.W.Frag) (mg:Str→Option Value):Prop:=∃ D,mg "OPPOSITE_SIGNS"=some (.ref D)∧KDict P w K D UJ
theorem MR {s:Str} (h:s∈signs):jQ UJ (Sum.inr s)=some (V.str (g7 s)):=by
 simp only [signs,List.mem_cons,List.not_mem_nil,or_false] at h
 rcases h with h | h | h | h | h | h <;> subst h <;> decide +kernel
theorem MT {P:Program} {w:World} {K:PySem.W.Frag} {mg:Str→Option Value} {D:Addr} {ep:Nat} {t1 t2 t3 t4 t5 t6 u1 u2 u3 u4 u5 u6:Tok} (m:mg "OPPOSITE_SIGNS"=some (.ref D))
  (lD:K.lookup D=some ⟨.type "dict",none,.dict #[⟨PyData.keyHash w.params "<",.str "<" t1,.str ">=" u1⟩,⟨PyData.keyHash w.params ">=",.str ">=" t2,.str "<" u2⟩,⟨PyData.keyHash w.params "<=",.str "<=" t3,.str ">" u3⟩,
   ⟨PyData.keyHash w.params ">",.str ">" t4,.str "<=" u4⟩,⟨PyData.keyHash w.params "=",.str "=" t5,.str "!=" u5⟩,⟨PyData.keyHash w.params "!=",.str "!=" t6,.str "=" u6⟩] ep,#[]⟩):Ot P w K mg :=
 ⟨D,m,KC (ep:=ep) [("<",t1,">=",u1),(">=",t2,"<",u2),("<=",t3,">",u3),(">",t4,"<=",u4),("=",t5,"!=",u5),("!=",t6,"=",u6)] lD (by show ([Sum.inr "<",Sum.inr ">=",Sum.inr "<=",Sum.inr ">",Sum.inr "=",Sum.inr "!="]:List Key).Nodup;decide +kernel)⟩
end Hw
namespace Hw
open PySem L2
mutual
theorem vY {S:Sb}:∀ {c d d':Cd},Pt S c d→Pt S c d'→d=d'
 | .cmp a n s b m,d,d',h,g=>by
  unfold Pt at h g
  obtain ⟨a1,b1,rfl,x1,y1⟩:=h
  obtain ⟨a2,b2,rfl,x2,y2⟩:=g
  rw [x1.same x2 (fun _=>rfl),y1.same y2 (fun _=>rfl)]
 | .neg c,d,d',h,g=>by
  unfold Pt at h g
  obtain ⟨e1,rfl,x1⟩:=h
  obtain ⟨e2,rfl,x2⟩:=g
  rw [vY x1 x2]
 | .con k cs,d,d',h,g=>by
  unfold Pt at h g
  obtain ⟨e1,rfl,x1⟩:=h
  obtain ⟨e2,rfl,x2⟩:=g
  rw [AR x1 x2]
theorem AR {S:Sb}:∀ {cs ds ds':List Cd},nc S cs ds→nc S cs ds'→ds=ds'
 | [],ds,ds',h,g=>by unfold nc at h g;rw [h,g]
 | c::cs,ds,ds',h,g=>by
  unfold nc at h g
  obtain ⟨e1,r1,rfl,x1,y1⟩:=h
  obtain ⟨e2,r2,rfl,x2,y2⟩:=g
  rw [vY x1 x2,AR y1 y2]
end
mutual
theorem qA {S:Sb} {f:Str→Int}:∀ {c d:Cd},Pt S c d→d.holds f=c.holds (Ci S f)
 | .cmp a n s b m,d,h=>by
  unfold Pt at h
  obtain ⟨a1,b1,rfl,x1,y1⟩:=h
  unfold Cd.holds
  have e1:=u7 S f a
  have e2:=u7 S f b
  have f1:n+gE S a+bT a1 f=n+bT a (Ci S f):=by rw [x1.2,← e1];omega
  have f2:m+gE S b+bT b1 f=m+bT b (Ci S f):=by rw [y1.2,← e2];omega
  rw [f1,f2]
 | .neg c,d,h=>by
  unfold Pt at h
  obtain ⟨e1,rfl,x1⟩:=h
  unfold Cd.holds
  rw [qA x1]
 | .con k cs,d,h=>by
  unfold Pt at h
  obtain ⟨e1,rfl,x1⟩:=h
  unfold Cd.holds
  rw [(rT x1).1,(rT x1).2]
theorem rT {S:Sb} {f:Str→Int}:∀ {cs ds:List Cd},nc S cs ds→cP f ds=cP (Ci S f) cs∧cO f ds=cO (Ci S f) cs
 | [],ds,h=>by unfold nc at h;subst h;exact ⟨by unfold cP;rfl,by unfold cO;rfl⟩
 | c::cs,ds,h=>by
  unfold nc at h
  obtain ⟨e1,r1,rfl,x1,y1⟩:=h
  have ih:=rT (f:=f) y1
  constructor
  ·unfold cP;rw [qA x1,ih.1]
  ·unfold cO;rw [qA x1,ih.2]
end
end Hw
namespace L2
open PySem PySem.Spec PyProof.Rows Hw
section
variable {X:Cx}
end
end L2
namespace Hw
open PySem L2
abbrev Cs:=List (List (Ps×Int))
def jO (Z:Cz) (H:Hp) (v:V) (c:List (Ps×Int)):Prop:=∃ r us,v=.ref r∧H r=some (.tup us)∧Paired (fun u (q:Ps×Int)=>∃ p,u=V.ref p∧cB Z.s H p q.1 q.2) us c
def dX (Z:Cz) (H:Hp) (r:Addr) (cs:Cs):Prop:=∃ us,H r=some (.lst us)∧Paired (jO Z H) us cs
theorem jO.aB {Z:Cz} {H H':Hp} {v:V} {c:List (Ps×Int)} (h:jO Z H v c) (k:aD H H'):jO Z H' v c :=
 let ⟨r,us,e,er,p⟩:=h;⟨r,us,e,k.t _ _ er,L2.Paired.cF p fun _ _ ⟨q,e,s⟩=>⟨q,e,s.aB k⟩⟩
def g9 (f:Str→Int) (cs:Cs):Bool:=cs.any fun c=>c.all fun q=>decide (0≤q.2+bT q.1 f)
mutual
def Cd.cN:Cd→Bool→Nat
 | .cmp a n s b m,o=>if (if o then g7 s else s)="!=" then 2 else 1
 | .neg c,o=>c.cN (!o)
 | .con k cs,o=>if (if o then !k else k) then kc cs o else lR cs o
def kc:List Cd→Bool→Nat
 | [],_=>1
 | c::cs,o=>c.cN o*kc cs o
def lR:List Cd→Bool→Nat
 | [],_=>0
 | c::cs,o=>c.cN o+lR cs o
end
mutual
def Cd.iT:Cd→Prop
 | .cmp a n s b m=>a.length≤20∧b.length≤20
 | .neg c=>c.iT
 | .con _ cs=>mS cs
def mS:List Cd→Prop
 | []=>True
 | c::cs=>c.iT∧mS cs
end
def nA (C:Addr):Sp:=fun vs H Q _=>∃ (p:Addr) (a:Ps) (n:Int),vs=[.ref p]∧cB C H p a n∧a.length≤50 ∧
 ∀ (r:Addr) (ts:Ps) (H':Hp),az H H'→p9 a ts→cB C H' r ts (n - 1)→Q (.ref r) H'
end Hw
namespace Hw
open PySem L2
def bq (A B:Cs):Cs:=(A.map fun a=>B.map (a++·)).flatten
theorem EM (f:Str→Int) (A B:Cs):g9 f (A++B)=(g9 f A || g9 f B):=by unfold g9;rw [List.any_append]
theorem EL (f:Str→Int) (a:List (Ps×Int)):∀ B:Cs,g9 f (B.map (a++·))=((a.all fun q=>decide (0≤q.2+bT q.1 f)) && g9 f B)
 | []=>by show false=(_ && false);rw [Bool.and_false]
 | b::r=>by
  have ih:=EL f a r
  unfold g9 at ih ⊢
  rw [List.map_cons,List.any_cons,ih,List.any_cons,List.all_append,← Bool.and_or_distrib_left]
theorem wC (f:Str→Int) (B:Cs):∀ A:Cs,g9 f (bq A B)=(g9 f A && g9 f B)
 | []=>rfl
 | a::r=>by
  have e:bq (a::r) B=B.map (a++·)++bq r B:=rfl
  rw [e,EM,EL,wC f B r]
  conv=>rhs;unfold g9;rw [List.any_cons]
  rw [Bool.and_or_distrib_right]
  rfl
theorem dU (B:Cs):∀ A:Cs,(bq A B).length=A.length*B.length
 | []=>by show 0=0*B.length;omega
 | a::r=>by
  have e:bq (a::r) B=B.map (a++·)++bq r B:=rfl
  rw [e,List.length_append,List.length_map,dU B r,List.length_cons,Nat.succ_mul]
  omega
mutual
theorem qE:∀ (c:Cd) (o:Bool),c.ok→c.cY.cN o=c.cN (!o)
 | .cmp a n s b m,o,h=>by
  unfold Cd.cY Cd.cN
  have e:(if o=true then g7 (g7 s) else g7 s)=(if (!o)=true then g7 s else s):=by
   unfold Cd.ok at h
   have q:g7 (g7 s)=s:=by
    simp only [signs,List.mem_cons,List.not_mem_nil,or_false] at h
    rcases h with h | h | h | h | h | h <;> subst h <;> decide +kernel
   cases o with
   | true=>rw [if_pos rfl,if_neg (by decide),q]
   | false=>rfl
  rw [e]
 | .neg c,o,h=>by
  unfold Cd.cY
  conv=>rhs;unfold Cd.cN
  rw [Bool.not_not]
 | .con k cs,o,h=>by
  unfold Cd.ok at h
  unfold Cd.cY
  conv=>lhs;unfold Cd.cN
  conv=>rhs;unfold Cd.cN
  rw [(zA cs o h).1,(zA cs o h).2]
  cases o <;> cases k <;> rfl
theorem zA:∀ (cs:List Cd) (o:Bool),oi cs→kc (dH cs) o=kc cs (!o)∧lR (dH cs) o=lR cs (!o)
 | [],o,h=>⟨by unfold dH kc;rfl,by unfold dH lR;rfl⟩
 | c::cs,o,h=>by
  unfold oi at h
  have e:=qE c o h.1
  have ih:=zA cs o h.2
  unfold dH kc lR
  exact ⟨by rw [e,ih.1],by rw [e,ih.2]⟩
end
mutual
theorem kG:∀ {c:Cd},c.ok→c.iT→c.full→c.cY.ok∧c.cY.iT∧c.cY.full∧c.cY.dW=c.dW∧c.cY.dep≤c.dep∧∀ xs,cL xs c→cL xs c.cY
 | .cmp a n s b m,h1,h2,h3=>by
  unfold Cd.cY
  refine ⟨?_,?_,?_,?_,?_,fun xs hx=>?_⟩
  ·unfold Cd.ok at h1 ⊢
   simp only [signs,List.mem_cons,List.not_mem_nil,or_false] at h1
   rcases h1 with h | h | h | h | h | h <;> subst h <;> decide +kernel
  ·unfold Cd.iT at h2 ⊢;exact h2
  ·unfold Cd.full;trivial
  ·unfold Cd.dW;rfl
  ·unfold Cd.dep;exact Nat.le_refl _
  ·unfold cL at hx ⊢;exact hx
 | .neg c,h1,h2,h3=>by
  unfold Cd.cY
  unfold Cd.ok at h1
  unfold Cd.iT at h2
  unfold Cd.full at h3
  refine ⟨h1,h2,h3,?_,?_,fun xs hx=>?_⟩
  ·conv=>rhs;unfold Cd.dW
  ·conv=>rhs;unfold Cd.dep
   omega
  ·unfold cL at hx;exact hx
 | .con k cs,h1,h2,h3=>by
  unfold Cd.cY
  unfold Cd.ok at h1
  unfold Cd.iT at h2
  unfold Cd.full at h3
  obtain ⟨a1,a2,a3,a4,a5,a6⟩:=A2 h1 h2 h3.2
  refine ⟨?_,?_,?_,?_,?_,fun xs hx=>?_⟩
  ·unfold Cd.ok;exact a1
  ·unfold Cd.iT;exact a2
  ·unfold Cd.full;exact ⟨by rw [dP,List.length_map];exact h3.1,a3⟩
  ·unfold Cd.dW;exact a4
  ·unfold Cd.dep;omega
  ·unfold cL at hx ⊢;exact a6 xs hx
theorem A2:∀ {cs:List Cd},oi cs→mS cs→cE cs→oi (dH cs)∧mS (dH cs)∧cE (dH cs)∧uG (dH cs)=uG cs∧ji (dH cs)≤ji cs∧∀ xs,cJ xs cs→cJ xs (dH cs)
 | [],h1,h2,h3=>by
  unfold dH
  exact ⟨h1,h2,h3,rfl,Nat.le_refl _,fun _ h=>h⟩
 | c::cs,h1,h2,h3=>by
  unfold oi at h1
  unfold mS at h2
  unfold cE at h3
  obtain ⟨a1,a2,a3,a4,a5,a6⟩:=kG h1.1 h2.1 h3.1
  obtain ⟨b1,b2,b3,b4,b5,b6⟩:=A2 h1.2 h2.2 h3.2
  unfold dH
  refine ⟨?_,?_,?_,?_,?_,fun xs hx=>?_⟩
  ·unfold oi;exact ⟨a1,b1⟩
  ·unfold mS;exact ⟨a2,b2⟩
  ·unfold cE;exact ⟨a3,b3⟩
  ·unfold uG;omega
  ·unfold ji;omega
  ·unfold cJ at hx ⊢;exact ⟨a6 xs hx.1,b6 xs hx.2⟩
end
theorem wI {c:Cd}:∀ {cs:List Cd},mS cs→c∈cs→c.iT
 | a::r,h,m=>by
  unfold mS at h
  rcases List.mem_cons.mp m with e | e
  ·rw [e];exact h.1
  ·exact wI h.2 e
theorem gS {c:Cd}:∀ {cs:List Cd},cE cs→c∈cs→c.full
 | a::r,h,m=>by
  unfold cE at h
  rcases List.mem_cons.mp m with e | e
  ·rw [e];exact h.1
  ·exact gS h.2 e
theorem kR:∀ (i:Nat) {cs:List Cd},cE cs→cE (cs.take i)
 | 0,cs,h=>by rw [List.take_zero];unfold cE;trivial
 | i+1,[],h=>by rw [List.take_nil];exact h
 | i+1,c::cs,h=>by
  unfold cE at h
  rw [List.take_succ_cons]
  unfold cE
  exact ⟨h.1,kR i h.2⟩
theorem jg:∀ (i:Nat) (cs:List Cd),uG (cs.take i)≤uG cs
 | 0,cs=>by rw [List.take_zero];exact Nat.zero_le _
 | i+1,[]=>by rw [List.take_nil];exact Nat.le_refl _
 | i+1,c::cs=>by
  rw [List.take_succ_cons]
  unfold uG
  have:=jg i cs
  omega
theorem wo (c:Cd) (o:Bool):∀ cs:List Cd,kc (cs++[c]) o=kc cs o*c.cN o
 | []=>by show c.cN o*1=1*c.cN o;omega
 | a::r=>by
  show a.cN o*kc (r++[c]) o=(a.cN o*kc r o)*c.cN o
  rw [wo c o r,Nat.mul_assoc]
theorem wm (c:Cd) (o:Bool):∀ cs:List Cd,lR (cs++[c]) o=lR cs o+c.cN o
 | []=>by show c.cN o+0=0+c.cN o;omega
 | a::r=>by
  show a.cN o+lR (r++[c]) o=(a.cN o+lR r o)+c.cN o
  rw [wm c o r,Nat.add_assoc]
structure tN (c:Cd) (cs:Cs):Prop where
 len:cs.length=c.cN false
 met:∀ f,g9 f cs=c.holds f
 oB:∀ k∈cs,k.length≤2*c.dW
 ins:∀ xs,cL xs c→∀ k∈cs,∀ q∈k,∀ p∈q.1,p.1∈xs
theorem tN.cY {c:Cd} {cs:Cs} (h1:c.ok) (h2:c.iT) (h3:c.full) (h:tN c.cY cs):tN (.neg c) cs:=by
 obtain ⟨a1,a2,a3,a4,a5,a6⟩:=kG h1 h2 h3
 refine ⟨?_,fun f=>?_,fun k hk=>?_,fun xs hx=>?_⟩
 ·rw [h.len,qE c false h1]
  conv=>rhs;unfold Cd.cN
 ·rw [h.met,rW f h1]
  conv=>rhs;unfold Cd.holds
 ·have:=h.oB k hk
  rw [a4] at this
  unfold Cd.dW
  exact this
 ·unfold cL at hx
  exact h.ins xs (a6 xs hx)
end Hw
namespace Hw
open PySem L2
theorem yE (A B:Cs) (a:List (Ps×Int)):bq (A++[a]) B=bq A B++B.map (a++·):=by
 unfold bq
 rw [List.map_append,List.flatten_append]
 show _++(B.map (a++·)++[])=_
 rw [List.append_nil]
theorem cT {α β:Type} {F:α→β→Prop}:∀ {xs xs':List α} {ys ys':List β},Paired F xs ys→Paired F xs' ys'→Paired F (xs++xs') (ys++ys')
 | _,_,_,_,.nil,h=>h
 | _,_,_,_,.cons r t,h=>.cons r (cT t h)
end Hw
namespace Hw
open PySem L2
theorem pY {xs:List Str} {c:Cd}:∀ {cs:List Cd},cJ xs (cs++[c])→cJ xs cs∧cL xs c
 | [],h=>by
  have h:cJ xs [c]:=h
  unfold cJ at h
  exact ⟨by unfold cJ;trivial,h.1⟩
 | a::r,h=>by
  have h:cJ xs (a::(r++[c])):=h
  unfold cJ at h
  have:=pY h.2
  exact ⟨by unfold cJ;exact ⟨h.1,this.1⟩,this.2⟩
theorem Bx (f:Str→Int) (cs:List Cd) (c:Cd):cP f (cs++[c])=(cP f cs && c.holds f):=by
 rw [pT,pT,List.map_append,List.all_append]
 show (_ && (c.holds f && true))=_
 rw [Bool.and_true]
theorem Bw (f:Str→Int) (cs:List Cd) (c:Cd):cO f (cs++[c])=(cO f cs || c.holds f):=by
 rw [pS,pS,List.map_append,List.any_append]
 show (_ || (c.holds f || false))=_
 rw [Bool.or_false]
structure OP (cs:List Cd) (A:Cs):Prop where
 len:A.length=kc cs false
 met:∀ f,g9 f A=cP f cs
 oB:∀ k∈A,k.length≤2*uG cs
 ins:∀ xs,cJ xs cs→∀ k∈A,∀ q∈k,∀ p∈q.1,p.1∈xs
structure OO (cs:List Cd) (A:Cs):Prop where
 len:A.length=lR cs false
 met:∀ f,g9 f A=cO f cs
 oB:∀ k∈A,k.length≤2*uG cs
 ins:∀ xs,cJ xs cs→∀ k∈A,∀ q∈k,∀ p∈q.1,p.1∈xs
theorem OP.nil:OP [] [[]]:=by
 refine ⟨by unfold kc;rfl,fun f=>by unfold cP;rfl,fun k hk=>?_,fun xs _ k hk q hq=>?_⟩
 ·rw [List.mem_singleton.mp hk];exact Nat.zero_le _
 ·rw [List.mem_singleton.mp hk] at hq;exact nomatch hq
theorem OO.nil:OO [] []:=⟨by unfold lR;rfl,fun f=>by unfold cO;rfl,(fun k hk=>nomatch hk),(fun xs _ k hk=>nomatch hk)⟩
theorem j8 {A B:Cs} {k:List (Ps×Int)} (h:k∈bq A B):∃ a∈A,∃ b∈B,k=a++b:=by
 unfold bq at h
 obtain ⟨l,hl,hk⟩:=List.mem_flatten.mp h
 obtain ⟨a,ha,rfl⟩:=List.mem_map.mp hl
 obtain ⟨b,hb,e⟩:=List.mem_map.mp hk
 exact ⟨a,ha,b,hb,e.symm⟩
theorem OP.snoc {cs:List Cd} {c:Cd} {A B:Cs} (p:OP cs A) (q:tN c B):OP (cs++[c]) (bq A B):=by
 refine ⟨?_,fun f=>?_,fun k hk=>?_,fun xs hx k hk z hz=>?_⟩
 ·rw [dU,p.len,q.len,wo]
 ·rw [wC,p.met,q.met,Bx]
 ·obtain ⟨a,ha,b,hb,rfl⟩:=j8 hk
  have:=p.oB a ha
  have:=q.oB b hb
  rw [List.length_append,ia]
  omega
 ·obtain ⟨a,ha,b,hb,rfl⟩:=j8 hk
  have hx:=pY hx
  rcases List.mem_append.mp hz with h | h
  ·exact p.ins xs hx.1 a ha z h
  ·exact q.ins xs hx.2 b hb z h
theorem OO.snoc {cs:List Cd} {c:Cd} {A B:Cs} (p:OO cs A) (q:tN c B):OO (cs++[c]) (A++B):=by
 refine ⟨?_,fun f=>?_,fun k hk=>?_,fun xs hx k hk=>?_⟩
 ·rw [List.length_append,p.len,q.len,wm]
 ·rw [EM,p.met,q.met,Bw]
 ·rw [ia]
  rcases List.mem_append.mp hk with h | h
  ·have:=p.oB k h;omega
  ·have:=q.oB k h;omega
 ·have hx:=pY hx
  rcases List.mem_append.mp hk with h | h
  ·exact p.ins xs hx.1 k h
  ·exact q.ins xs hx.2 k h
theorem OP.ok {cs:List Cd} {A:Cs} (p:OP cs A):tN (.con true cs) A :=
 ⟨by
   rw [p.len];conv=>rhs;unfold Cd.cN
   rfl,fun f=>by
     rw [p.met];conv=>rhs;unfold Cd.holds
     rfl,fun k hk=>by unfold Cd.dW;exact p.oB k hk,fun xs hx=>p.ins xs (by unfold cL at hx;exact hx)⟩
theorem OO.ok {cs:List Cd} {A:Cs} (p:OO cs A):tN (.con false cs) A :=
 ⟨by
   rw [p.len];conv=>rhs;unfold Cd.cN
   rfl,fun f=>by
     rw [p.met];conv=>rhs;unfold Cd.holds
     rfl,fun k hk=>by unfold Cd.dW;exact p.oB k hk,fun xs hx=>p.ins xs (by unfold cL at hx;exact hx)⟩
end Hw
namespace Hw
open PySem L2
theorem Nu (f:Str→Int) (a:Ps) (n:Int):g9 f [[(a,n)]]=decide (0≤n+bT a f):=by
 show ((decide (0≤n+bT a f) && true) || false)=_
 rw [Bool.and_true,Bool.or_false]
theorem a4l (f:Str→Int) (a b:Ps) (n m:Int):g9 f [[(a,n),(b,m)]]=(decide (0≤n+bT a f) && decide (0≤m+bT b f)):=by
 show ((decide (0≤n+bT a f) && (decide (0≤m+bT b f) && true)) || false)=_
 rw [Bool.and_true,Bool.or_false]
theorem a4k (f:Str→Int) (a b:Ps) (n m:Int):g9 f [[(a,n)],[(b,m)]]=(decide (0≤n+bT a f) || decide (0≤m+bT b f)):=by
 show ((decide (0≤n+bT a f) && true) || ((decide (0≤m+bT b f) && true) || false))=_
 rw [Bool.and_true,Bool.and_true,Bool.or_false]
theorem jF {xs:List Str} {a b ts:Ps} (g:p9 (a++b.map fun p=>(p.1,-p.2)) ts) (ha:∀ p∈a,p.1∈xs) (hb:∀ p∈b,p.1∈xs):∀ p∈ts,p.1∈xs:=by
 intro p hp
 have h:=g.keys (List.mem_map.mpr ⟨p,hp,rfl⟩:p.1∈keys ts)
 obtain ⟨q,hq,e⟩:=List.mem_map.mp h
 rcases List.mem_append.mp hq with h | h
 ·rw [← e];exact ha q h
 ·obtain ⟨z,hz,e2⟩:=List.mem_map.mp h
  rw [← e,← e2]
  exact hb z hz
theorem jL {xs:List Str} {a ts:Ps} (g:p9 a ts) (ha:∀ p∈a,p.1∈xs):∀ p∈ts,p.1∈xs:=by
 intro p hp
 have h:=g.keys (List.mem_map.mpr ⟨p,hp,rfl⟩:p.1∈keys ts)
 obtain ⟨q,hq,e⟩:=List.mem_map.mp h
 rw [← e];exact ha q hq
theorem ie {a b ts:Ps} (g:p9 (a++b.map fun p=>(p.1,-p.2)) ts) (f:Str→Int):bT ts f=bT a f - bT b f:=by
 rw [g.2,cI,zJ];omega
end Hw
namespace L2
open PySem PySem.Spec PyProof.Rows Hw
section
variable {X:Cx}
def ME (K:PySem.W.Frag):R2:=fun x y H Q=>∃ a b xs,x=.ref a∧y=.ref b∧bC K H a xs∧bC K H b []∧Q (.bl (decide (xs=[]))) H
theorem FG (hu:X.A.units < cLine):ow X (compareOp .Eq) (ME X.K):=by
 intro pins s σ H x y v u Q I rx ry h
 obtain ⟨a,b,xs,rfl,rfl,ha,hb,q⟩:=h
 cases rx
 cases ry
 obtain ⟨us,r1,p1,_⟩:=I.list ha
 obtain ⟨vs,r2,p2,_⟩:=I.list hb
 cases r2
 have l1:=r1.length
 by_cases hx:xs=[]
 ·rw [decide_eq_true hx] at q
  subst hx
  cases r1
  exact SeqAt.RcAt.lists (A:=X.A) (e:=fun _=>true) p1.isList p2.isList rfl hu (fun j h1 h2=>absurd h2 (by simp)) _ _ _ _ ⟨.bl true,H,I,rfl,q⟩
 ·rw [decide_eq_false hx] at q
  have:us≠[]:=fun z=>hx (by rw [z] at l1;exact List.length_eq_zero_iff.mp l1)
  refine SeqAt.RcAt.lists_lengths (A:=X.A) p1.isList p2.isList ?_ hu _ _ _ _ ⟨.bl false,H,I,rfl,q⟩
  cases us with
  | nil=>exact absurd rfl this
  | cons _ _=>simp
end
end L2
namespace Hw
open PySem L2
end Hw
namespace Hw
open PySem L2
theorem Bb {α:Type} [DecidableEq α]:∀ {l m:List α},l.Nodup→(∀ x∈l,x∈m)→l.length≤m.length
 | [],m,_,_=>Nat.zero_le _
 | a::r,m,h,hs=>by
  have ha:a∈m:=hs a (List.mem_cons_self ..)
  have hn:=List.nodup_cons.mp h
  have ih:=Bb (m:=m.erase a) hn.2 fun x hx=>by
   have hne:x≠a:=fun e=>hn.1 (e ▸ hx)
   exact (List.mem_erase_of_ne hne).mpr (hs x (List.mem_cons_of_mem _ hx))
  rw [List.length_erase_of_mem ha] at ih
  have:0 < m.length:=List.length_pos_of_mem ha
  show r.length+1≤m.length
  omega
theorem LJ {ts:Ps} (c:Canon ts):(keys ts).Nodup:=by
 unfold keys List.Nodup
 rw [List.pairwise_map]
 exact c.up.imp fun {p q} h e=>by rw [e,zH] at h;cases h
def Aj (xs:List Str) (S:Sb):Prop:=∀ s∈S,∀ p∈s.2.1,p.1∈xs
end Hw
namespace Hw
open PySem L2
theorem Df {P:Program} {w:World} {K:PySem.W.Frag} {mg:Str→Option Value} {base:Heap} {Z:Cz} {m:Str} {ps:List Str} {sp:Nat→Nat→Sp} {lv:Nat→Nat} (f:Nat→Addr) (fd:Nat→FuncData)
  (hm:∀ j,j < 4→Meth K (fJ Z j) m (f j)) (hb:∀ j,j < 4→Binds K (fd j) ps []) (h0:∀ j vs H Q E,¬ sp 0 j vs H Q E)
  (hs:∀ n,M4 P w K mg base (lv n) Z m ps (sp n)→∀ j,j < 4→bF P w K mg base fh (lv (n+1)) (f j) (fd j) ps (sp (n+1) j)):∀ n,M4 P w K mg base (lv n) Z m ps (sp n)
 | 0=>fun j hj=>⟨f j,fd j,yu (h0 j),hm j hj,hb j hj⟩
 | n+1=>fun j hj=>⟨f j,fd j,hs n (Df f fd hm hb h0 hs n) j hj,hm j hj,hb j hj⟩
theorem sW {P:Program} {w:World} {K:PySem.W.Frag} {mg:Str→Option Value} {base:Heap} {x:Str} {ps:List Str} {sp:Nat→Sp} {lv:Nat→Nat} {f:Addr} {fd:FuncData}
  (hm:mg x=some (.ref f)) (hk:PySem.W.keepIn K (.ref f)=true) (hb:Binds K fd ps []) (h0:∀ vs H Q E,¬ sp 0 vs H Q E)
  (hs:∀ n,Dn P w K mg base (lv n) x ps (sp n)→bF P w K mg base fh (lv (n+1)) f fd ps (sp (n+1))):∀ n,Dn P w K mg base (lv n) x ps (sp n)
 | 0=>⟨f,fd,yu h0,hm,hk,hb⟩
 | n+1=>⟨f,fd,hs n (sW hm hk hb h0 hs n),hm,hk,hb⟩
theorem DF {c:Cd} (h:c.dep≤0):False:=by have:=N3 c;omega
theorem a1U (Z:Cz):∀ j vs H Q E,¬ iB Z 0 j vs H Q E:=fun _ _ _ _ _ ⟨_,_,_,_,_,d,_⟩=>DF d
end Hw
namespace Hw
open PySem L2
section
variable {Z:Cz} {H0 H H':Hp} {d tl sd hd p pf:Addr} {xs:List Str} {vt:V} {c c':Cd} {kvs kh:List (Key×V)} {S:Sb}
end
theorem aD.trans {H H1 H2:Hp} (a:aD H H1) (b:aD H1 H2):aD H H2:=⟨fun c xs e=>b.t _ _ (a.t _ _ e),fun c C dx fs e=>b.i _ _ _ _ (a.i _ _ _ _ e)⟩
mutual
theorem gU {xs ys:List Str} (h:∀ x∈xs,x∈ys):∀ {c:Cd},cL xs c→cL ys c
 | .cmp a n s b m,g=>by unfold cL at g ⊢;exact ⟨fun p hp=>h _ (g.1 p hp),fun p hp=>h _ (g.2 p hp)⟩
 | .neg c,g=>by unfold cL at g ⊢;exact gU h g
 | .con k cs,g=>by unfold cL at g ⊢;exact xo h g
theorem xo {xs ys:List Str} (h:∀ x∈xs,x∈ys):∀ {cs:List Cd},cJ xs cs→cJ ys cs
 | [],g=>by unfold cJ;trivial
 | c::cs,g=>by unfold cJ at g ⊢;exact ⟨gU h g.1,xo h g.2⟩
end
end Hw
namespace PySem
section
variable {prog:Program} {w:World} {A:Around} {E:Value→Shared→Prop} {h:Heap} {g:Array GenState} {d:Drawn} {t:Nat} {os:OsState}
variable {nm q:Str} {C N:Addr} {bs bm:List Value} {hdct:Bool} {sn:List Str} {sub:List Value} {ab:Bool} {col:Option Bool} {dd:Option Addr} {k0 k1 k2 k3 k5:Option Value}
abbrev gp (C t:Addr):Obj:={ cls:=.ref C,data:=.fields #[.ref t,.none,.none,.none,.bool false,.none] }
abbrev VE:=F.excBase_ValueError
theorem newX (hV:bm.contains (.type "ValueError")=true) (hA:bm.contains (.type "AttributeError")=false) (hN:bm.contains (.type "NameError")=false) {rest:List Value} {R:Result→Shared→Prop}
  (hC:h.get? C=some (excClassObj nm q C N bs bm hdct sn sub ab col dd k0 k1 k2 k3 k5 "ValueError.__new__")) (hrest:rest.length≤sizeLine)
  (hq:R (.ok (.ret (.ref (h.objs.size+1)))) ⟨(h.push { cls:=.type "tuple",data:=.seq rest.toArray }).push (gp C h.objs.size),g,d,t,os⟩) :
  codeAny (model prog w) A (.builtin "ValueError.__new__" ⟨.ref C::rest,[]⟩) R ⟨h,g,d,t,os⟩:=by
 have e1:=VE.ends
 have c1:(Value.ref C::bm).contains (.type "ValueError")=true:=by rw [List.contains_cons,hV,Bool.or_true]
 have c2:(Value.ref C::bm).contains (.type "AttributeError")=false:=by rw [List.contains_cons,hA];rfl
 have c3:(Value.ref C::bm).contains (.type "NameError")=false:=by rw [List.contains_cons,hN];rfl
 refine codeAny_builtinAt VE.entry ?_
 unfold Builtin.«BaseException.__new__»;refine wpAt_bind ?_
 show wpAt _ _ _ (stack >>= _) _ _ _;refine wpAt_bind (wpAt_stack fun p below=>wpAt_of_wpAny ?_)
 wp_walk;refine wpAt_of_wpAny ?_;rw [VE.owner]
 repeat (first | with_reducible refine wpAny_madeHere_exc VE.canon hC ?_ | with_reducible refine wpAny_loadPart_at hC ?_ | (with_reducible refine wpAny_isSubtype_exc hC ?_;first | rw [c1] | rw [c2] | rw [c3]) | wp_step)
 show R _ _;rw [Heap.size_push];exact hq
theorem Fx (hV:bm.contains (.type "ValueError")=true) (hA:bm.contains (.type "AttributeError")=false) (hN:bm.contains (.type "NameError")=false) {mN:Str→Option Value} {rest:List Value} {fI:Addr} {oI:Obj} {Q:Fin→Shared→Prop}
  (hC:h.get? C=some (excClassObj nm q C N bs bm hdct sn sub ab col dd k0 k1 k2 k3 k5 "ValueError.__new__")) (hn:h.Ns N mN) (hi:mN "__init__"=some (.ref fI)) (hfI:h.get? fI=some oI) (hfc:oI.cls=.type "function") (hrest:rest.length≤sizeLine)
  (hq:wpAny (model prog w) A (call (.ref fI) (.ref (h.objs.size+1)::rest)) (fun r s'=>r=.none∧Q (.done (.ret (.ref (h.objs.size+1)))) s') E
   ⟨(h.push { cls:=.type "tuple",data:=.seq rest.toArray }).push (gp C h.objs.size),g,d,t,os⟩) :
  wpAny (model prog w) A (Builtin.«type.__call__» ⟨.ref C::rest,[]⟩) Q E ⟨h,g,d,t,os⟩:=by
 repeat (first | with_reducible refine wpAny_loadPart_at hC ?_ | with_reducible refine wpAny_madeBy_exc hC ?_ | wp_step)
 refine codeAny_call_builtin_code (Code.quiet_builtin _ VE.quiet) (wpAny_check_new_subU VE hV (OwnTail.base (bmB:=bm)) hC ?_)
 refine newX hV hA hN hC hrest ?_;show wpAny _ _ _ _ _ _
 have kp:∀ b o,h.get? b=some o→((h.push { cls:=.type "tuple",data:=.seq rest.toArray }).push (gp C h.objs.size)).get? b=some o:=fun b o e=>Heap.get?_push_of_some _ (Heap.get?_push_of_some _ e)
 have hC1:=kp _ _ hC
 have hf1:=kp _ _ hfI
 have hn1:=hn.keeps kp
 have Gp:((h.push { cls:=.type "tuple",data:=.seq rest.toArray }).push (gp C h.objs.size)).get? (h.objs.size+1)=some { cls:=.ref C,data:=.fields #[.ref h.objs.size,.none,.none,.none,.bool false,.none] }:=by heap_get
 have cC:(Value.ref C::bm).contains (.ref C)=true:=by simp
 unfold isInstance
 repeat (first | with_reducible refine wpAny_loadPart_at Gp ?_ | (with_reducible refine wpAny_isSubtype_exc hC1 ?_;rw [cC]) | wp_step)
 show wpAny _ _ (typeLookup (.ref C) _) _ _ _;rw [typeLookup_eq]
 refine wpAny_bind (wpAny_mroOf_exc hC1 ?_);rw [lookupAlong_cons]
 refine wpAny_bind (wpAny_classOwn_exc hC1 hn1 ?_);rw [hi];refine wpAny_pure ?_
 refine wpAny_holding (wpAny_bind ?_);unfold bindSpecial
 refine wpAny_bind (wpAny_typeOf (T:="function") ⟨_,hf1,hfc⟩ ?_);rw [if_pos (by decide)]
 refine wpAny_pure (wpAny_bind (wpAny_mono hq (fun r s' hr=>?_) fun _ _ x=>x))
 obtain ⟨rfl,hQ⟩:=hr
 wp_walk
 exact hQ
theorem WU (hV:bm.contains (.type "ValueError")=true) (hA:bm.contains (.type "AttributeError")=false) (hN:bm.contains (.type "NameError")=false) {mN:Str→Option Value} {rest:List Value} {fI:Addr} {oI:Obj} {Q:Value→Shared→Prop}
  (hC:h.get? C=some (excClassObj nm q C N bs bm hdct sn sub ab col dd k0 k1 k2 k3 k5 "ValueError.__new__")) (hn:h.Ns N mN) (hi:mN "__init__"=some (.ref fI)) (hfI:h.get? fI=some oI) (hfc:oI.cls=.type "function") (hrest:rest.length≤sizeLine)
  (hq:wpAny (model prog w) (A.under (.builtin "type.__call__" ⟨.ref C::rest,[]⟩)) (call (.ref fI) (.ref (h.objs.size+1)::rest)) (fun r s'=>r=.none∧Q (.ref (h.objs.size+1)) s') E
   ⟨(h.push { cls:=.type "tuple",data:=.seq rest.toArray }).push (gp C h.objs.size),g,d,t,os⟩) :
  wpAny (model prog w) A (call (.ref C) rest) Q E ⟨h,g,d,t,os⟩:=by
 have f1:=tc_lookup
 have f2:=tc_bind (.ref C)
 have hT:(⟨h,g,d,t,os⟩:Shared).TypeIs (.ref C) "type":=⟨_,hC,rfl⟩
 refine wpAny_call (codeAny_of_tree ?_);show wpAny _ _ (callAny (.ref C) _) _ _ _
 repeat (any_goals (first | assumption | with_reducible refine wpAny_loadPart_at hC ?_ | wp_step))
 exact ⟨rfl,codeAny_call_builtin_at (Code.quiet_builtin _ (by decide +kernel)) entry_typeCall (wpAny_check_type_call_sub hC (Fx hV hA hN hC hn hi hfI hfc hrest hq))⟩
theorem DO (hV:bm.contains (.type "ValueError")=true) {M:Model} {e:Addr} {oe:Obj} {rest:List Value} {Q:Unit→Shared→Prop}
  (hC:h.get? C=some (excClassObj nm q C N bs bm hdct sn sub ab col dd k0 k1 k2 k3 k5 "ValueError.__new__")) (he:h.get? e=some oe) (hcls:oe.cls=.ref C) (hq:Q () ⟨h,g,d,t,os⟩) :
  wpAny M A (checkBuiltinCall "ValueError.__init__" ⟨.ref e::rest,[]⟩) Q E ⟨h,g,d,t,os⟩:=by
 have c1:(Value.ref C::bm).contains (.type "ValueError")=true:=by rw [List.contains_cons,hV,Bool.or_true]
 have hs:=VE.noStar
 simp only [checkBuiltinCall,VE.initKind,VE.initSplit,VE.initRow]
 repeat (first | (with_reducible refine wpAny_loadPart_at he ?_;rw [hcls]) | with_reducible refine wpAny_loadPart_at hC ?_ | (with_reducible refine wpAny_isSubtype_exc hC ?_;rw [c1]) | wp_step)
 refine wpAny_onRaise ?_
 rw [show ∀ (a b:String) (n:Nat),Bind.check ⟨.positional,"*","ValueError",.self,[⟨"args",.varPos,false⟩]⟩ a b n (List.map (fun x=>x.fst) ({ pos:=Value.ref e::rest }:Args).kw)=pure () from fun a b n=>check_star_args _ _ _ _ _ _]
 exact wpAny_pure hq
theorem U7 (hV:bm.contains (.type "ValueError")=true) {e t0:Addr} {rest:List Value} {Q:Value→Shared→Prop}
  (hC:h.get? C=some (excClassObj nm q C N bs bm hdct sn sub ab col dd k0 k1 k2 k3 k5 "ValueError.__new__")) (he:h.get? e=some (gp C t0)) (hrest:rest.length≤sizeLine)
  (hq:∀ h',(∀ b o,b≠e→h.get? b=some o→h'.get? b=some o)→(∃ t1,h'.get? e=some (gp C t1))→Q .none ⟨h',g,d,t,os⟩) :
  wpAny (model prog w) A (call (.builtin "ValueError.__init__") (.ref e::rest)) Q E ⟨h,g,d,t,os⟩:=by
 refine wpAny_call (codeAny_call_builtin VE.init.plain VE.initEntry (DO hV hC he rfl ?_))
 wp_walk
 refine hq _ (fun b o hb ho=>?_) ⟨h.objs.size,?_⟩
 ·rw [Heap.get?_update_other _ _ (Ne.symm hb)]
  exact Heap.get?_push_of_some _ ho
 ·rw [Heap.get?_update_self _ (Heap.get?_push_of_some _ he) rfl]
  rfl
end
end PySem
namespace PySem
theorem wY (f:Array Value→Array Value) (o:Obj):(Obj.mapFields f o).dict=o.dict:=by
 unfold Obj.mapFields
 split <;> rfl
structure lF (fr:List Addr) (a:Addr) (old:Option Addr) (C:Addr) (h h':Heap):Prop where
 keep:∀ b o,h.get? b=some o→b ∉ fr→b≠a→old≠some b→h'.get? b=some o
 slot:∀ b o,h.get? b=some o→b∈fr→∃ sl,h'.get? b=some { o with slots:=sl }
 a1W:∀ b o,old=some b→h.get? b=some o→∃ o',h'.get? b=some o'
 NO:∃ oe vs T oT ts,h'.get? a=some oe∧(oe.cls=.ref C∧oe.dict=none)∧oe.data=.fields vs∧vs[1]?=some (.ref T)∧h'.get? T=some oT∧oT.data=.fields ts∧ts[3]?=some .none∧T≠a∧h.objs.size≤T
section
variable {M:Model} {A:Around} {E:Value→Shared→Prop} {s:Shared} {base:Heap} {env:Env} {outer:List Env} {L a C:Addr} {oe:Obj} {vs:Array Value}
theorem gT (hl:s.heap.FunFrames base (env::outer)) {b:Addr} {o:Obj} {ws:Array Value} (hb:b∈(env::outer).filterMap (·.frame)) (ho:s.heap.get? b=some o) (hd:o.data=.fields ws):False:=by
 obtain ⟨_,o',ho',hn⟩:=hl.mem hb
 rw [ho] at ho';injection ho' with e;subst e
 exact hn ws hd
theorem DC {head:Value} {hadNext:Bool} {Q:Unit→Shared→Prop} (hfr:A.frames=some (env::outer)) (hl:s.heap.FunFrames base (env::outer)) (hf:env.frame=some L)
  (ha:s.heap.get? a=some oe) (hc:oe.cls=.ref C∧oe.dict=none) (hd:oe.data=.fields vs) (hsz:1 < vs.size)
  (k:∀ h',lF ((env::outer).filterMap (·.frame)) a none C s.heap h'→Q () { s with heap:=h' }) :
  wpAny M A (do let fr ← frameOf env;let pl ← entryPlaceOf L hadNext;let b ← EntryCells.newEntry head fr .none (rawInt L) .none pl;setField (.ref a) 1 b) (fun _ s'=>wpAny M A (setFlight (.ref a) none) Q E s') E s:=by
 have hna:a ∉ (env::outer).filterMap (·.frame):=fun hm=>gT hl hm ha hd
 refine wpAny_bind (wpAny_frameOf_fun hfr hl hf fun g1 so=>?_)
 obtain ⟨sz,same,slots⟩:=so
 refine wpAny_bind (wpAny_entryPlaceOf fun pl hpl=>?_);unfold EntryCells.newEntry newFields
 refine wpAny_bind (wpAny_newObj_type ?_ (hpl.sizeOk5 _ _ _ _ _))
 have ha1:g1.get? a=some oe:=(same a hna).trans ha
 generalize hob:({ cls:=.type "traceback",dict:=none,data:=.fields ([head,.ref L,.none,rawInt L,.none]++(if pl.isEmpty then List.replicate 6 Value.none else pl)).toArray }:Obj)=ob
 have ha2:(g1.push ob).get? a=some oe:=Heap.get?_push_of_some _ ha1
 refine wpAny_setField ha2 hd hsz ?_
 have nT:g1.objs.size≠a:=Nat.ne_of_gt (Heap.lt_size ha1)
 have Pc:=Obj.data_mapFields hd (·.setIfInBounds 1 (Value.ref g1.objs.size))
 have ha3:=Heap.get?_update_self (Obj.mapFields (·.setIfInBounds 1 (Value.ref g1.objs.size))) ha2 (Obj.isFreed_of_fields Pc)
 have Rg:ob.data=.fields ([head,.ref L,.none,rawInt L,.none]++(if pl.isEmpty then List.replicate 6 Value.none else pl)).toArray:=by rw [← hob]
 have hT0:(g1.push ob).get? g1.objs.size=some ob:=Heap.get?_push_size g1 (by rw [← hob];rfl)
 have hT3:((g1.push ob).update a (Obj.mapFields (·.setIfInBounds 1 (Value.ref g1.objs.size)))).get? g1.objs.size=some ob:=(Heap.get?_update_other _ _ (Ne.symm nT)).trans hT0
 unfold setFlight
 refine wpAny_bind (wpAny_field ha3 Pc (x:=.ref g1.objs.size) (by simp [hsz]) ?_)
 rw [if_pos (show (Value.ref g1.objs.size != Value.none)=true by simp)]
 refine wpAny_setField hT3 Rg (by simp only [List.size_toArray,List.length_append,List.length_cons,List.length_nil] <;> omega) (k _ ?_)
 have kp:∀ b o,b≠a→g1.get? b=some o→(((g1.push ob).update a (Obj.mapFields (·.setIfInBounds 1 (Value.ref g1.objs.size)))).update g1.objs.size (Obj.mapFields (·.setIfInBounds 3 ((none:Option Addr).elim Value.none fun f=>rawInt f)))).get? b=some o:=fun b o hb q=>by
  rw [Heap.get?_update_other _ _ (Nat.ne_of_gt (Heap.lt_size q)),Heap.get?_update_other _ _ (Ne.symm hb)]
  exact Heap.get?_push_of_some _ q
 refine ⟨fun b o q nf nb _=>kp b o nb ((same b nf).trans q),fun b o q inf=>?_,fun b o z=>(nomatch z),?_⟩
 ·obtain ⟨sl,e⟩:=slots b o q
  exact ⟨sl,kp b _ (fun z=>hna (z ▸ inf)) e⟩
 ·refine ⟨_,_,g1.objs.size,_,_,?_,⟨(Obj.cls_mapFields _ _).trans hc.1,(wY _ _).trans hc.2⟩,Pc,by simp [hsz],Heap.get?_update_self _ hT3 (Obj.isFreed_of_fields (Obj.data_mapFields Rg _)),Obj.data_mapFields Rg _,?_,nT,Nat.le_of_eq sz.symm⟩
  ·rw [Heap.get?_update_other _ _ nT];exact ha3
  ·first | (simp;done) | (rcases hpl with rfl | ⟨_,_,_,_,_,_,_,rfl⟩ <;> simp)
theorem Dh {Q:Unit→Shared→Prop} (hfr:A.frames=some (env::outer)) (hl:s.heap.FunFrames base (env::outer)) (hf:env.frame=some L)
  (ha:s.heap.get? a=some oe) (hc:oe.cls=.ref C∧oe.dict=none) (hd:oe.data=.fields vs) (h1:vs[1]?=some .none)
  (k:∀ h',lF ((env::outer).filterMap (·.frame)) a none C s.heap h'→Q () { s with heap:=h' }):wpAny M A (leaving env (.ref a)) Q E s:=by
 unfold leaving noteFrame
 simp only [hf]
 refine wpAny_bind (wpAny_bind (wpAny_field ha hd h1 ?_));rw [if_neg (by decide)]
 exact DC hfr hl hf ha hc hd (Array.getElem?_eq_some_iff.mp h1).1 k
theorem Gb {Q:Unit→Shared→Prop} {T:Addr} {oT:Obj} {ts:Array Value} (hfr:A.frames=some (env::outer)) (hl:s.heap.FunFrames base (env::outer)) (hf:env.frame=some L)
  (ha:s.heap.get? a=some oe) (hc:oe.cls=.ref C∧oe.dict=none) (hd:oe.data=.fields vs) (h1:vs[1]?=some (.ref T)) (hT:s.heap.get? T=some oT) (Ds:oT.data=.fields ts) (h3:ts[3]?=some .none) (hne:T≠a)
  (k:∀ h',lF ((env::outer).filterMap (·.frame)) a (some T) C s.heap h'→Q () { s with heap:=h' }):wpAny M A (leaving env (.ref a)) Q E s:=by
 unfold leaving noteFrame
 simp only [hf]
 refine wpAny_bind (wpAny_bind (wpAny_field ha hd h1 ?_));rw [if_pos (show (Value.ref T != Value.none)=true by simp)]
 refine wpAny_bind (wpAny_field hT Ds h3 ?_);rw [if_neg (show ¬ ((Value.none == rawInt L)=true) by simp [rawInt])]
 refine wpAny_bind (wpAny_setField hT Ds (Array.getElem?_eq_some_iff.mp h3).1 ?_)
 have Vd:T ∉ (env::outer).filterMap (·.frame):=fun hm=>gT hl hm hT Ds
 have EE:∀ b,b≠T→(s.heap.update T (Obj.mapFields (·.setIfInBounds 3 Value.none))).get? b=s.heap.get? b:=fun b hb=>Heap.get?_update_other _ _ (Ne.symm hb)
 have hl':(s.heap.update T (Obj.mapFields (·.setIfInBounds 3 Value.none))).FunFrames base (env::outer):=hl.of_keeps fun b o hb hnf=>⟨o,(EE b fun z=>by rw [z,hT] at hb;injection hb with hb;subst hb;exact hnf ts Ds).trans hb,rfl⟩
 refine DC (s:={ s with heap:=s.heap.update T (Obj.mapFields (·.setIfInBounds 3 Value.none)) }) hfr hl' hf ((EE a (Ne.symm hne)).trans ha) hc hd (Array.getElem?_eq_some_iff.mp h1).1 fun h' m=>k h' ⟨fun b o q nf nb nT=>m.keep b o ((EE b fun z=>nT (by rw [z])).trans q) nf nb (fun z=>nomatch z),fun b o q inf=>m.slot b o ((EE b fun z=>Vd (z ▸ inf)).trans q) inf,?_,?_⟩
 ·intro b o e q
  cases e
  have e3:=Heap.get?_update_self (Obj.mapFields (·.setIfInBounds 3 Value.none)) hT (Obj.isFreed_of_fields (Obj.data_mapFields Ds _))
  exact ⟨_,m.keep T _ e3 Vd hne (fun z=>nomatch z)⟩
 ·obtain ⟨Nk,vs',T',O4,ts',x1,x2,x3,x4,x5,x6,x7,x8,x9⟩:=m.NO
  exact ⟨Nk,vs',T',O4,ts',x1,x2,x3,x4,x5,x6,x7,x8,Nat.le_trans (Nat.le_of_eq (Heap.size_after_update ..).symm) x9⟩
end
end PySem
namespace L2
open PySem PySem.Spec PyProof.Rows
structure b1N (h:Heap) (H:Hp) (n:Nat) (C a:Addr):Prop where
 NO:∃ oe vs T oT ts,h.get? a=some oe∧(oe.cls=.ref C∧oe.dict=none)∧oe.data=.fields vs∧vs[1]?=some (.ref T)∧h.get? T=some oT∧oT.data=.fields ts∧ts[3]?=some .none∧T≠a∧n≤T∧H T=none
 new:n≤a
 free:H a=none
def As (P:Program) (w:World) (C:Addr):Fv:=fun outer H s E e s' =>
 ∃ a H',e=.ref a∧E (.ref C) none H'∧s'.os=s.os∧AllBare s'.gens∧Un (frs outer) [] H H' s.heap s'.heap∧nh P w H' s'.heap∧b1N s'.heap H' s.heap.objs.size C a
theorem nh.KA {P:Program} {w:World} {H:Hp} {h h':Heap} (ok:nh P w H h) (k:∀ b u,H b≠none→h.get? b=some u→h'.get? b=some u):nh P w H h':=fun b o e =>
 (ok b o e).stay (fun c u hc q=>k c u (hc.elim (fun z=>by rw [z,e];exact fun z=>nomatch z) (fun z=>by rw [z];exact fun z=>nomatch z)) q) (fun _ z=>z) fun _ _ z=>z
theorem zV {base h h':Heap} {H H':Hp}:∀ {l l':List Env},(∀ b∈frs l,b∈frs l')→(∀ b∈frs l',H b=none)→Un (frs l') [] H H' h h'→h.FunFrames base l→h'.FunFrames base l
 | [],_,_,_,_,_=>trivial
 | env::r,l',hs,hf,un,⟨hk,⟨L,o,e,hn,ho,hd⟩,hr⟩=>by
  have hL:L∈frs l':=hs L (by unfold frs;rw [List.filterMap_cons,e];exact List.mem_cons_self)
  obtain ⟨sl,q⟩:=un.slot L o ho (hf L hL) hL (by simp)
  exact ⟨hk,⟨L,_,e,hn,q,hd⟩,zV (fun b hb=>hs b (by unfold frs;rw [List.filterMap_cons,e];exact List.mem_cons_of_mem _ hb)) hf un hr⟩
section
variable {P:Program} {w:World} {K:PySem.W.Frag} {mg:Str→Option Value} {base:Heap} {N:List Str} {qual:Str} {scope:Scope} {f C:Addr} {cd:Value} {A:Around} {outer:List Env} {s:Shared} {H:Hp} {E:XK}
abbrev VX (P:Program) (w:World) (C:Addr) (K:PySem.W.Frag) (mg:Str→Option Value) (base:Heap) (N:List Str) (qual:Str) (scope:Scope) (f:Addr) (cd:Value) (A:Around) (outer:List Env) (s:Shared) (H:Hp) (E:XK):Cx:=DK (As P w C) P w K mg base N qual scope f cd A outer s H E
theorem Eo {pins:List (Addr×Obj)} {σ:St} {H1 H2:Hp} {s1:Shared} {h2 h3:Heap} {a:Addr} {old:Option Addr} (I:Inv (VX P w C K mg base N qual scope f cd A outer s H E) pins σ H1 s1)
  (un:Un (frs (envOfC qual scope s.heap.objs.size f cd::outer)) [] H1 H2 s1.heap h2) (m:lF (frs (envOfC qual scope s.heap.objs.size f cd::outer)) a old C h2 h3) (ha:s.heap.objs.size≤a) (ho:∀ T,old=some T→s.heap.objs.size≤T) :
  Un (frs outer) [] H H2 s.heap h3:=by
 have B:Un (frs outer) [] H H1 s.heap s1.heap:=I.base
 have nl:∀ b o,s.heap.get? b=some o→b≠s.heap.objs.size:=fun b o q z=>absurd (Heap.lt_size q) (by rw [z];exact Nat.lt_irrefl _)
 have nin:∀ b o,s.heap.get? b=some o→b ∉ frs outer→b ∉ frs (envOfC qual scope s.heap.objs.size f cd::outer):=fun b o q n z=>(List.mem_cons.mp (show b∈s.heap.objs.size::frs outer from z)).elim (nl b o q) n
 have na:∀ b o,s.heap.get? b=some o→b≠a:=fun b o q z=>absurd (Heap.lt_size q) (by rw [z];exact Nat.not_lt.mpr ha)
 have nT:∀ b o,s.heap.get? b=some o→old≠some b:=fun b o q z=>absurd (Heap.lt_size q) (Nat.not_lt.mpr (ho b z))
 have hin:∀ b,b∈frs outer→b∈frs (envOfC qual scope s.heap.objs.size f cd::outer):=fun b hb=>List.mem_cons_of_mem _ hb
 refine ⟨fun b o q n nf nx=>?_,fun b o q n inf nx=>?_,fun b o q n nx=>?_,fun b o q nx=>?_,fun b xs q=>un.tups b xs (B.tups b xs q),fun b o u q=>un.qQ b o u (B.qQ b o u q),fun b ps q=>?_⟩
 ·exact m.keep b o (un.keep b o (B.keep b o q n nf nx) (B.free b o q n nx) (nin b o q nf) nx) (nin b o q nf) (na b o q) (nT b o q)
 ·obtain ⟨sl,e1⟩:=B.slot b o q n inf nx
  obtain ⟨sl2,e2⟩:=un.slot b _ e1 (B.free b o q n nx) (hin b inf) nx
  obtain ⟨sl3,e3⟩:=m.slot b _ e2 (hin b inf)
  exact ⟨sl3,e3⟩
 ·obtain ⟨o1,e1⟩:=B.there b o q nx
  exact un.free b o1 e1 (B.free b o q n nx) nx
 ·obtain ⟨o1,e1⟩:=B.there b o q nx
  obtain ⟨o2,e2⟩:=un.there b o1 e1 nx
  by_cases hb:b∈frs (envOfC qual scope s.heap.objs.size f cd::outer)
  ·obtain ⟨sl,e3⟩:=m.slot b o2 e2 hb
   exact ⟨_,e3⟩
  ·exact ⟨o2,m.keep b o2 e2 hb (na b o q) (nT b o q)⟩
 ·obtain ⟨m1,e1⟩:=B.rC b ps q
  obtain ⟨m2,e2⟩:=un.rC b _ e1
  exact ⟨m1++m2,by rw [e2,Array.append_assoc]⟩
theorem oh:Passes (As P w C) (VX P w C K mg base N qual scope f cd A outer s H E) E:=by
 rintro pins σ H1 s1 e s' I ⟨a,H2,rfl,hE,os,bare,un,ok,fl⟩
 obtain ⟨oe,vs,T,oT,ts,ha,hc,hd,h1,hT,Ds,h3,ne,nT,fT⟩:=fl.NO
 have un:Un (frs (envOfC qual scope s.heap.objs.size f cd::outer)) [] H1 H2 s1.heap s'.heap:=un
 have sz:s.heap.objs.size≤s1.heap.objs.size:=I.sz
 have sk:∀ b∈frs (envOfC qual scope s.heap.objs.size f cd::outer),H1 b=none:=I.qg
 have Pg:s1.heap.FunFrames base (envOfC qual scope s.heap.objs.size f cd::outer):=I.stack
 have fl2:s'.heap.FunFrames base (envOfC qual scope s.heap.objs.size f cd::outer):=zV (fun _ z=>z) sk un Pg
 have hfr:(A.deeper (envOfC qual scope s.heap.objs.size f cd)).frames=some (envOfC qual scope s.heap.objs.size f cd::outer):=I.ok.frames
 show wpAny (model P w) (A.deeper (envOfC qual scope s.heap.objs.size f cd)) (leaving (envOfC qual scope s.heap.objs.size f cd) (.ref a)) (fun _ s''=>As P w C outer H s E (.ref a) s'') _ s'
 have new:=fl.new
 refine Gb hfr fl2 rfl ha hc hd h1 hT Ds h3 ne fun h' m=>?_
 have lt:=Heap.lt_size ha
 have Pe:∀ b,b∈frs (envOfC qual scope s.heap.objs.size f cd::outer)→H2 b=none:=fun b hb=>by
  obtain ⟨_,o,ho,_⟩:=Pg.mem hb
  exact un.free b o ho (sk b hb) (by simp)
 refine ⟨a,H2,rfl,hE,os.trans I.os,bare,Eo I un m (by omega) (fun T' e=>by cases e;omega),ok.KA fun b u hb q=>m.keep b u q (fun z=>hb (Pe b z)) (fun z=>hb (z ▸ fl.free)) (fun z=>hb (by cases z;exact fT)),?_,by omega,fl.free⟩
 obtain ⟨Nk,vs',T',O4,ts',x1,x2,x3,x4,x5,x6,x7,x8,x9⟩:=m.NO
 exact ⟨Nk,vs',T',O4,ts',x1,x2,x3,x4,x5,x6,x7,x8,Nat.le_trans sz (Nat.le_trans new (Nat.le_trans (Nat.le_of_lt lt) x9)),ok.fresh x9⟩
def Hh (C e:Addr):HO:=.ext fun h=>∃ t,h.get? e=some (gp C t)
theorem Lo {P:Program} {w:World} {H:Hp} {h:Heap} {C e:Addr}:(∃ t,h.get? e=some (gp C t))→cX P w H h e (Hh C e):=fun ⟨t,q⟩ =>
 ⟨⟨t,q⟩,⟨_,q⟩,fun _ _ ⟨t,q⟩ k=>⟨t,k _ q⟩⟩
def del (H:Hp) (a:Addr):Hp:=fun b=>if b=a then none else H b
theorem sX {H:Hp} {a b:Addr} (h:b≠a):del H a b=H b:=if_neg h
theorem Qp {pins:List (Addr×Obj)} {σ:St} {H1:Hp} {s1:Shared} {a:Addr} (I:Inv (VX P w C K mg base N qual scope f cd A outer s H E) pins σ H1 s1) (he:H1 a=some (Hh C a)) (hn:s.heap.objs.size≤a) (hE:E (.ref C) none (del H1 a)) :
  (VX P w C K mg base N qual scope f cd A outer s H E).xe (.ref a) s1:=by
 obtain ⟨⟨t,ha⟩,_⟩:=show cX P w H1 s1.heap a (Hh C a) from I.hok a _ he
 have Pg:s1.heap.FunFrames base (envOfC qual scope s.heap.objs.size f cd::outer):=I.stack
 have sk:∀ b∈frs (envOfC qual scope s.heap.objs.size f cd::outer),H1 b=none:=I.qg
 have hfr:(A.deeper (envOfC qual scope s.heap.objs.size f cd)).frames=some (envOfC qual scope s.heap.objs.size f cd::outer):=I.ok.frames
 show wpAny (model P w) (A.deeper (envOfC qual scope s.heap.objs.size f cd)) (leaving (envOfC qual scope s.heap.objs.size f cd) (.ref a)) (fun _ s''=>As P w C outer H s E (.ref a) s'') _ s1
 refine Dh hfr Pg rfl ha ⟨rfl,rfl⟩ rfl rfl fun h' m=>?_
 have lt:=Heap.lt_size ha
 have dn:∀ b,H1 b=none→del H1 a b=none:=fun b z=>by
  unfold del
  split
  ·rfl
  ·exact z
 have un:Un (frs (envOfC qual scope s.heap.objs.size f cd::outer)) [] H1 (del H1 a) s1.heap s1.heap:=⟨fun _ _ q _ _ _=>q,fun _ o q _ _ _=>⟨o.slots,q⟩,fun b _ _ n _=>dn b n,fun _ o q _=>⟨o,q⟩,
  fun b xs q=>by rw [sX (fun z=>by rw [z,he] at q;cases q)];exact q,fun b o u q=>by rw [sX (fun z=>by rw [z,he] at q;cases q)];exact q,fun b ps q=>⟨#[],by rw [sX (fun z=>by rw [z,he] at q;cases q),Array.append_empty];exact q⟩⟩
 have kp:∀ b u,H1 b≠none→b≠a→s1.heap.get? b=some u→h'.get? b=some u:=fun b u hb na q=>m.keep b u q (fun z=>hb (sk b z)) na (fun z=>nomatch z)
 have ok':nh P w (del H1 a) h':=fun b o e=>by
  have nb:b≠a:=fun z=>by rw [z] at e;unfold del at e;rw [if_pos rfl] at e;cases e
  have e1:H1 b=some o:=by rw [sX nb] at e;exact e
  have own:∀ c,H1 c=some (.own b)→c≠a:=fun c hc z=>by rw [z,he] at hc;cases hc
  refine (I.hok b o e1).stay (fun c u hc q=>?_) (fun c hc=>by rw [sX (own c hc)];exact hc) fun c xs hc=>by rw [sX (fun z=>by rw [z,he] at hc;cases hc)];exact hc
  rcases hc with rfl | hc
  ·exact kp _ u (by rw [e1];exact fun z=>nomatch z) nb q
  ·exact kp c u (by rw [hc];exact fun z=>nomatch z) (own c hc) q
 refine ⟨a,del H1 a,rfl,hE,I.os,I.bare,Eo I un m hn (fun T' e=>nomatch e),ok',?_,hn,by unfold del;rw [if_pos rfl]⟩
 obtain ⟨Nk,vs',T',O4,ts',x1,x2,x3,x4,x5,x6,x7,x8,x9⟩:=m.NO
 exact ⟨Nk,vs',T',O4,ts',x1,x2,x3,x4,x5,x6,x7,x8,Nat.le_trans hn (Nat.le_trans (Nat.le_of_lt lt) x9),dn _ (I.hok.fresh x9)⟩
theorem dO.O3 {x qual:Str} {st:Stmt} {f:Addr} {fd:FuncData} {N ps:List Str} {k:Nat} {sp:Sp} (F:dO K x qual st f fd) (S:aL N ps (aq st)) (len:∀ vs H Q E,sp vs H Q E→vs.length=ps.length)
  (hbody:∀ (cdv:Value) (A:Around) (outer:List Env) (s:Shared) (H:Hp) (vs:List V) (Q:VK) (E:XK),fM k (A.deeper (envOfC qual (aq st) s.heap.objs.size f cdv))→sp vs H Q E →
   ∃ t,Al (VX P w C K mg base N qual (aq st) f cdv A outer s H E) (ay st) t∧t { nx:=fun _ H'=>Q .fL H',rt:=Q } (start N vs) H):bF P w K mg base (As P w C) (k+1) f fd ps sp:=by
 obtain ⟨oc,od,kV,doc,pm,an,cdv,ct,osl,rfl,lk,hcd⟩:=F.ex
 exact Pf lk hcd S len fun A outer s H vs Q E hr Me=>hbody cdv A outer s H vs Q E hr Me
end
end L2
namespace L2
open PySem PySem.Spec PyProof.Rows
theorem IB {H:Hp} {a:Addr} {o:HO} (h:H a=some o):upd H a o=H:=by
 funext b
 unfold upd
 split
 ·rename_i e;rw [e,h]
 ·rfl
theorem UN {K:PySem.W.Frag} {h:Heap} {N:Addr} {mN:Str→Option Value} {n:Str} {v:Value} (X:K.In h) (G:h.Ns N mN) (e:PySem.W.nsIn K N n=some (some v)):mN n=some v:=by
 obtain ⟨o,es,ep,ho,hd,_,hf⟩:=G
 unfold PySem.W.nsIn at e
 split at e
 ·rename_i q
  have z:=X _ _ q
  rw [ho] at z
  cases z;cases hd
  split at e
  ·rename_i he
   cases e;rw [← hf]
   unfold nsFind findBy;rw [← Array.find?_toList,he];rfl
  ·split at e <;> cases e
 ·cases e
structure GU (K:PySem.W.Frag) (C fI:Addr) (bm:List Value):Prop where
 ob:∃ nm q N bs hdct sn sub ab col dd k0 k1 k2 k3 k5,K.lookup C=some (excClassObj nm q C N bs bm hdct sn sub ab col dd k0 k1 k2 k3 k5 "ValueError.__new__")∧PySem.W.nsOkIn K N=true∧PySem.W.nsIn K N "__init__"=some (some (.ref fI))
 fn:PySem.W.isFn K (.ref fI)=true
 kp:PySem.W.keepIn K (.ref C)=true
 v:bm.contains (.type "ValueError")=true
 a:bm.contains (.type "AttributeError")=false
 n:bm.contains (.type "NameError")=false
 b:bm.contains (.type "BaseException")=true
section
variable {X:Cx} {CX:Fv} {k:Nat} {f C D fI:Addr} {fd:FuncData} {ps:List Str} {sp:Sp} {E:XK} {x m:Str} {p pos apos:Pos} {e o:Expr} {es:List Expr} {t:TA} {bm:List Value}
def Us (sp:Sp) (E:XK) (to:TE) (t:TA):TE:=fun σ H Q=>to σ H fun _ H1=>t σ H1 fun vs H2=>sp (vs++[]) H2 Q E
theorem MO {pl:Sem Bool} (hg:Gl X x) (hm:X.mg x=some (.ref D)) (h1:PySem.W.specialIn X.K (.ref D) "__getattribute__"=some (some (.builtin "type.__getattribute__"))) (h2:PySem.W.readsIn X.K D (.type "type")=true)
  (h3:PySem.W.findCls X.K (.ref D) (.type "type") m=some (.val (.ref f))) (h4:PySem.W.handedIn (.ref f)=true) (hk:PySem.W.keepIn X.K (.ref f)=true) (F:bF X.prog X.w X.K X.mg X.base CX k f fd ps sp) (hr:fM k X.A) (hb:Binds X.K fd ps [])
  (hx:Passes CX X E) (ha:PA X (e::es) t) (hst:starEach (e::es) X.env=(false,eval e X.env)::starEach es X.env:=by rfl) (hpl:(backTo pos (starEach es X.env)).any (·.1)=false:=by rfl) (hdb:(x == ("__debug__":Str))=false:=by decide)
  (ht:eval (.Call (.Attribute (.Name x p) m apos) (e::es) [] pos) X.env=(do
   let ov ← eval (.Name x p) X.env
   standAt apos.atName
   let (f,first) ← holding [ov] (getMethod ov m pl)
   callWith pos f first (backTo pos (starEach (e::es) X.env)) (backToKw pos (keywordEach [] X.env))):=by rfl) :
  PE X (.Call (.Attribute (.Name x p) m apos) (e::es) [] pos) (Us sp E (tC (.ref D)) t):=by
 intro pins s σ H Q I h
 refine PySem.W.methodCall_KW (pl:=pl) (jD I hg hm ?_ hdb) ht
 refine PySem.W.method_cls I.p8 h1 (PySem.W.cls_value I.p8 h2 h3 h4 ?_)
 have I1:=I.tok (s.toks+1)
 refine PySem.W.callWith_K (first:=[]) (h₀:=X.base) I.ok.mod.lS hk (cS (ha pos pins _ σ H _ I1 h) fun us s2 ⟨vs,H2,I2,r,q2⟩=>⟨I2.p8,?_⟩) hst hpl
 exact pB F hr hb .nil hx I2 r q2
def Qa (C:Addr) (t:TA):TE:=fun σ H Q=>t σ H fun vs H1=>∃ a v,vs=[.ref a,v]∧H1 a=some (Hh C a)∧Q .fL H1
theorem JE {pl:Sem Bool} (XC:GU X.K C fI bm) (hg:Gl X "ValueError") (hm:X.mg "ValueError"=none) (h3:PySem.W.findCls X.K (.type "ValueError") (.type "type") "__init__"=some (.val (.builtin "ValueError.__init__")))
  (ha:PA X (e::es) t) (hst:starEach (e::es) X.env=(false,eval e X.env)::starEach es X.env:=by rfl) (hpl:(backTo pos (starEach es X.env)).any (·.1)=false:=by rfl)
  (ht:eval (.Call (.Attribute (.Name "ValueError" p) "__init__" apos) (e::es) [] pos) X.env=(do
   let ov ← eval (.Name "ValueError" p) X.env
   standAt apos.atName
   let (f,first) ← holding [ov] (getMethod ov "__init__" pl)
   callWith pos f first (backTo pos (starEach (e::es) X.env)) (backToKw pos (keywordEach [] X.env))):=by rfl) :
  PE X (.Call (.Attribute (.Name "ValueError" p) "__init__" apos) (e::es) [] pos) (Qa C t):=by
 intro pins s σ H Q I h
 refine PySem.W.methodCall_KW (pl:=pl) (wH I hg hm PyProof.Rows.Boot.«ValueError» ?_ (by decide) (by decide)) ht
 obtain ⟨m,F⟩:=I.fr
 refine PySem.W.method_type F I.ok.mod.lS (by kernel_rfl) (by decide +kernel) h3 (by rfl) ?_
 have I1:=I.tok (s.toks+1)
 have hA:=ha pos pins _ σ H _ I1 h
 rw [hst] at hA ⊢
 refine Calls.callWith_builtin (by show (false || (backTo pos (starEach es X.env)).any (·.1))=false;rw [hpl] <;> rfl) (Calls.evalArgs_plain (cS hA fun us s2 ⟨vs,H2,I2,r,a,v,ev,ea,q2⟩=>?_))
 subst ev
 obtain ⟨u,u',rfl,ru,_⟩:=vals2 r
 cases ru
 obtain ⟨nm,q,N,bs,hdct,sn,sub,ab,col,dd,k0,k1,k2,k3,k5,lk,_,_⟩:=XC.ob
 obtain ⟨⟨t0,he⟩,_⟩:=show cX X.prog X.w H2 s2.heap a (Hh C a) from I2.hok a _ ea
 obtain ⟨hp,g,d,tk,os⟩:=s2
 refine U7 XC.v (I2.p8 _ _ lk) he (by show 1≤sizeLine;exact Nat.le_of_lt (Hw.line 1 (by decide))) fun h' kp ⟨t1,he'⟩=>?_
 have I3:=I2.write (t':=tk) (x:=a) (e:=a) (o:=Hh C a) (h':=h') (by rw [ea];exact True.intro) (.inl rfl) kp ⟨_,he'⟩ (Lo ⟨t1,he'⟩)
 rw [IB ea] at I3
 exact ⟨.fL,H2,I3,rfl,q2⟩
def Qc (C:Addr) (sp:Sp) (E:XK) (t:TA):TS:=fun _ σ H=>t σ H fun vs H1=>vs.length≤sizeLine∧∀ a,H1 a=none→sp (.ref a::(vs++[])) (upd H1 a (Hh C a)) (fun v H2=>v=.fL∧H2 a=some (Hh C a)∧E (.ref C) none (del H2 a)) E0
theorem Ji (XC:GU X.K C fI bm) (F:bF X.prog X.w X.K X.mg X.base fh k fI fd ps sp) (hr:fM (k+1) X.A) (hg:Gl X x) (hm:X.mg x=some (.ref C)) (hb:Binds X.K fd ps [])
  (hxe:∀ {pins:List (Addr×Obj)} {σ:St} {H1:Hp} {s1:Shared} {a:Addr},Inv X pins σ H1 s1→H1 a=some (Hh C a)→X.s₀.heap.objs.size≤a→E (.ref C) none (del H1 a)→X.xe (.ref a) s1)
  (ha:PA X (e::es) t) (hdb:(x == ("__debug__":Str))=false:=by decide) (he:starEach (e::es) X.env=(false,eval e X.env)::starEach es X.env:=by rfl) (hpl:(backTo pos (starEach es X.env)).any (·.1)=false:=by rfl) :
  PS X (.Raise (some (.Call (.Name x p) (e::es) [] pos)) none apos) (Qc C sp E t):=by
 intro pins s σ H D I h
 obtain ⟨nm,q,N,bs,hdct,sn,sub,ab,col,dd,k0,k1,k2,k3,k5,lk,hok,hni⟩:=XC.ob
 rw [arm_exec_Raise]
 refine wpAny_bind (wpAny_standAt (wpAny_raiseStmt_made_sub (C:=C) (nm:=nm) (q:=q) (N:=N) (bs:=bs) (bm:=bm) (hdct:=hdct) (sn:=sn) (sub:=sub) (ab:=ab) (col:=col) (dd:=dd) (k0:=k0) (k1:=k1) (k2:=k2) (k3:=k3) (k5:=k5) (newId:="ValueError.__new__") XC.b hr.hd ?_))
 refine wpAny_bind (cS (Q:=fun v s3=>∃ a t,v=.ref a∧s3.heap.get? C=some (excClassObj nm q C N bs bm hdct sn sub ab col dd k0 k1 k2 k3 k5 "ValueError.__new__")∧s3.heap.get? a=some (gp C t)∧X.xe (.ref a) s3) ?_ fun v s3 h3=>wpAny_bind (wpAny_standAt (wpAny_pure h3)))
 refine wpAny_Call_Name_kw (jD I hg hm ?_ hdb)
 refine PySem.W.callWith_K (h₀:=X.base) I.ok.mod.lS XC.kp (cS (ha pos pins s σ H _ I h) fun us s1 ⟨vs,H1,I1,r,hz,q1⟩=>⟨I1.p8,?_⟩) he hpl
 have hq:=q1 (s1.heap.objs.size+1) (I1.hok.fresh (Nat.le_succ _))
 obtain ⟨hp,g,d,tk,os⟩:=s1
 have KX:X.K.In hp:=I1.p8
 have hty:=beq_iff_eq.mp XC.fn
 obtain ⟨oI,lf,hfc⟩:∃ oI,X.K.lookup fI=some oI∧oI.cls=.type "function":=by
  unfold PySem.W.typeIn at hty
  exact Option.map_eq_some_iff.mp hty
 have hNs:hp.Ns N (hp.nsMap N):=.of_isNs (PySem.W.isNs_of_in KX hok)
 show wpAny _ _ (call (.ref C) us) _ _ _
 have P7:us.length≤sizeLine:=by rw [← r.length];exact hz
 refine WU XC.v XC.a XC.n (KX _ _ lk) hNs (UN KX hNs hni) (KX _ _ lf) hfc P7 ?_
 have kp:∀ b u,hp.get? b=some u→((hp.push { cls:=.type "tuple",data:=.seq us.toArray }).push (gp C hp.objs.size)).get? b=some u:=fun b u z=>Heap.get?_push_of_some _ (Heap.get?_push_of_some _ z)
 have Gp:((hp.push { cls:=.type "tuple",data:=.seq us.toArray }).push (gp C hp.objs.size)).get? (hp.objs.size+1)=some (gp C hp.objs.size):=by heap_get
 have I2:Inv X pins σ (upd H1 (hp.objs.size+1) (Hh C (hp.objs.size+1))) ⟨(hp.push { cls:=.type "tuple",data:=.seq us.toArray }).push (gp C hp.objs.size),g,d,tk,os⟩:=I1.laid (t':=tk) kp (Nat.le_succ _) (Lo ⟨_,Gp⟩)
 have r2:Vals (V.ref (hp.objs.size+1)::(vs++[])) (Value.ref (hp.objs.size+1)::(us++[])):=.cons rfl (r.append .nil)
 have hl:(Value.ref (hp.objs.size+1)::us++[]).length=ps.length:=by
  have e:=r2.length
  rw [F.len _ _ _ _ hq] at e
  exact e.symm
 have hb':=hb _ (Value.ref (hp.objs.size+1)::us) I2.p8 hl
 rw [List.cons_append] at hb'
 refine wpAny_call (codeAny_mono (F.run _ X.stack _ _ ⟨Value.ref (hp.objs.size+1)::us,[]⟩ (Value.ref (hp.objs.size+1)::(us++[])) _ _ E0 (hr.make C us []) (I2.RZ.make C us []) hb' r2 hq) fun r' s' hq'=>?_)
 cases r' with
 | error e=>exact False.elim hq'
 | ok fl =>
  cases fl with
  | ret u =>
   obtain ⟨v,H',I3,rv,ev,ea,hE⟩:=I2.after hq'
   subst ev
   obtain ⟨⟨t1,he3⟩,_⟩:=show cX X.prog X.w H' s'.heap (hp.objs.size+1) (Hh C (hp.objs.size+1)) from I3.hok _ _ ea
   exact ⟨rv,hp.objs.size+1,t1,rfl,I3.p8 _ _ lk,he3,hxe I3 ea (Nat.le_trans I1.sz (Nat.le_succ _)) hE⟩
  | next=>exact False.elim hq'
  | brk=>exact False.elim hq'
  | cont=>exact False.elim hq'
end
end L2
namespace PySem.W
open PySem PySem.Spec PySem.Calls PyProof.Rows
structure TV (K:Frag) (D:Addr):Prop where
 ga:findIn K (.ref D) "__getattribute__"=some (some (.builtin "BaseException.__getattribute__"))
 no:findIn K (.ref D) "__getattr__"=some none
 ca:findIn K (.ref D) "__class__"=some (some (.builtin "object.__class__"))
 gt:specialIn K (.builtin "object.__class__") "__get__"=some (some (.builtin "getset_descriptor.__get__"))
 tk:takesIn K (.builtin "object.__class__")=some true
 ob:mroIn K D (.type "object")=some true
 be:subIn K (.ref D) (.type "BaseException")=some true
 cl:(clsIn K D).isSome=true
section
variable {prog:Program} {w:World} {A:Around} {E:Value→Shared→Prop} {K:Frag} {x D:Addr} {ox:Obj}
theorem K8 (Z:TV K D):findObj K D none "__class__"=some (.bind (.builtin "getset_descriptor.__get__") (.builtin "object.__class__")):=by
 obtain ⟨cd,hc⟩:=Option.isSome_iff_exists.mp Z.cl
 unfold findObj
 rw [hc,Option.bind_some,Z.ca,Option.bind_some]
 simp [Z.gt,Z.tk]
theorem GG {s:Shared} {Q:Option Value→Shared→Prop} (Z:TV K D) (X:K.In s.heap) (I:InstAt s.heap x ox D none) (hq:Q (some (.ref D)) { s with toks:=s.toks+1 }):wpAny (model prog w) A (getAttr? (.ref x) "__class__") Q E s:=by
 obtain ⟨hh,g,d,t,os⟩:=s
 have L0:=I.type (M:=model prog w)
 have L1:=looks_findIn (M:=model prog w) X Z.ga
 have L2:=looks_findIn (M:=model prog w) X Z.no
 have L3:=looks_find (M:=model prog w) X I (K8 Z)
 have L4:=looks_subIn (M:=model prog w) X Z.be
 have G:=F.attr_ValueError.ga
 unfold getAttr? getAttrBy? getAttrBy
 refine wpAny_bind (wpAny_mkText (wpAny_bind (wpAny_attempt (wpAny_holding (wpAny_bind (L0.at (wpAny_bind (L1.at ?_))))))))
 dsimp only
 have nq:(Value.builtin "BaseException.__getattribute__" == Value.builtin "object.__getattribute__")=false:=by decide +kernel
 rw [if_neg (show ¬ (onTheHeap (Value.ref D) && Value.builtin "BaseException.__getattribute__" == Value.builtin "object.__getattribute__")=true by rw [nq,Bool.and_false];exact Bool.false_ne_true)]
 unfold getAttrByItsOwn hookBefore
 rw [if_pos (show onTheHeap (Value.ref D)=true from rfl)]
 refine wpAny_bind (L2.at (wpAny_bind (wpAny_attempt (wpAny_holding ?_))))
 unfold callGetattribute
 rw [if_neg (by decide)]
 unfold boundAndCalled
 refine wpAny_bind (wpAny_of_eq (G.bind (.ref x)) ?_)
 refine wpAny_call (codeAny_call_builtin G.plain F.entry_bexc_ga ?_)
 have LI:Looks (model prog w) hh (isInstance (.ref x) (.type "BaseException")) true:=L0.andThen L4
 have kk:builtinKind "BaseException.__getattribute__"=some .slot:=by decide +kernel
 have ks:splitId "BaseException.__getattribute__"=some ("BaseException","__getattribute__"):=by decide +kernel
 have ka:=F.args_bexc_ga (.ref x) (.str "__class__" t)
 show wpAny _ _ (checkBuiltinCall "BaseException.__getattribute__" ⟨[.ref x,.str "__class__" t],[]⟩) _ _ _
 simp only [checkBuiltinCall,kk,ks]
 refine wpAny_bind (LI.at ?_)
 repeat (any_goals (first | assumption | wp_step))
 refine wpAny_loadPart_at I.at_ (wpAny_pure ?_)
 rw [I.cls]
 refine wpAny_bind (L3.at ?_)
 show wpAny _ _ (Builtin.ObjectAttr.bindTo _ _ (.ref x) (.ref D)) _ _ _
 unfold Builtin.ObjectAttr.bindTo
 refine wpAny_bind (wpAny_holding (wpAny_call (class_get (od:=none) X I Z.ob ?_)))
 show wpAny _ _ (ret (Value.ref D)) _ _ _
 refine wpAny_pure ?_
 show wpAny _ _ (handedOut (.ref D)) _ _ _
 exact handed_on rfl (wpAny_pure hq)
theorem Bq (Z:TV K D):KitX K (.ref x) (.ref D) (fun h=>∃ ox,InstAt h x ox D none) where
 ty:=fun _ _ _ ⟨_,I⟩=>I.type
 it:=fun _ _ X _=>by
  obtain ⟨cd,hc⟩:=Option.isSome_iff_exists.mp Z.cl
  unfold clsIn at hc
  split at hc
  ·rename_i ho
   intro A' Q' E' s' k q
   unfold isType loadHead;exact wpAny_bind (wpAny_loadPart (k _ _ (X _ _ ho)) (wpAny_pure q))
  ·cases hc
 ne:=fun h tp dd its n sl X htp=>by
  obtain ⟨cd,hc⟩:=Option.isSome_iff_exists.mp Z.cl
  refine Bool.eq_false_iff.mpr fun q=>?_
  have e:D=tp:=Value.ref.inj (beq_iff_eq.mp q)
  subst e;unfold clsIn at hc
  split at hc
  ·rename_i ho
   cases (X _ _ ho).symm.trans htp
  ·cases hc
 ca:=fun X ⟨_,I⟩ k=>GG Z X I k
end
end PySem.W
namespace L2
open PySem PySem.Spec PyProof.Rows
section
variable {X:Cx} {a C:Addr} {oe:Obj}
theorem EX (hc:oe.cls=.ref C) (hd:∃ vs,oe.data=.fields vs) (hn:oe.dict=none) {h:Heap} (ha:h.get? a=some oe):PySem.W.InstAt h a oe C none:=by
 obtain ⟨vs,hd⟩:=hd
 refine ⟨ha,hc,?_,by rw [hn];trivial⟩
 unfold PySem.W.notCls
 rw [hd]
theorem GH (Z:PySem.W.TV X.K C) (hp:(a,oe)∈X.pn) (hc:oe.cls=.ref C) (hd:∃ vs,oe.data=.fields vs) (hn:oe.dict=none) :
  j9 X (.builtin "isinstance") (fun xs H Q=>∃ c b,xs=[.ref a,c]∧((∃ u,RelV c u∧(∀ v,RelV c v→v=u)∧PySem.W.kitOne X.K (.ref C) u=some b)∨(∃ t cs us,c=.ref t∧H t=some (.tup cs)∧Vals cs us∧(∀ vs,Vals cs vs→vs=us)∧PySem.W.kitAny X.K (.ref C) us=some b))∧Q (.bl b) H):=by
 intro pins s σ H xs us Q I r h
 obtain ⟨c,b,rfl,hk,q⟩:=h
 obtain ⟨u1,u2,rfl,r1,r2⟩:=vals2 r
 cases r1
 have ha:=(I.pin (a,oe) (List.mem_append_left _ hp)).1
 have nb:(Value.ref a)≠.builtin "__main__.__loader__#opaque":=fun z=>by cases z
 have fin:∀ tk,EP X pins σ Q (.bool b) { s with toks:=tk }:=fun tk=>⟨.bl b,H,I.tok tk,rfl,q⟩
 rcases hk with ⟨u,ru,inj,e⟩ | ⟨t,cs,ws,rfl,ht,rw',inj,e⟩
 ·rw [inj u2 r2]
  exact PySem.W.kia_one (PySem.W.Bq Z) I.p8 ⟨oe,EX hc hd hn ha⟩ e nb fin
 ·cases r2
  obtain ⟨_,its,rv,o,ho,hcl,n,hdt⟩:=show cX X.prog X.w H s.heap t (.tup cs) from I.hok t _ ht
  rw [inj its rv] at hdt
  obtain ⟨oc,od,odt,osl⟩:=o
  cases hcl;cases hdt
  exact PySem.W.kia_tup (PySem.W.Bq Z) I.p8 ⟨oe,EX hc hd hn ha⟩ ho e nb fin
end
end L2
namespace PySem
section
variable {M:Model} {A:Around} {E:Value→Shared→Prop}
variable {nm q nm' q':Str} {C N W N':Addr} {bs bm bs' bm':List Value} {hdct Pb:Bool} {sn sn':List Str} {sub sub':List Value} {ab ab':Bool} {col col':Option Bool} {dd Mh:Option Addr} {k0 k1 k2 k3 k5 j0 j1 j2 j3 j5:Option Value} {newId newId':String}
theorem QZ {h:Heap} {g:Array GenState} {d:Drawn} {t:Nat} {os:OsState} {e:Addr} {oe:Obj} {Q:Bool→Shared→Prop}
  (hC:h.get? C=some (excClassObj nm q C N bs bm hdct sn sub ab col dd k0 k1 k2 k3 k5 newId)) (hW:h.get? W=some (excClassObj nm' q' W N' bs' bm' Pb sn' sub' ab' col' Mh j0 j1 j2 j3 j5 newId'))
  (he:h.get? e=some oe) (hcls:oe.cls=.ref C) (hb:bm'.contains (.type "BaseException")=true) (hin:(Value.ref C::bm).contains (.ref W)=true)
  (hq:Q true ⟨h,g,d,t,os⟩):wpAny M A (excMatches (.ref e) (.ref W)) Q E ⟨h,g,d,t,os⟩:=by
 have c1:(Value.ref W::bm').contains (.type "BaseException")=true:=by rw [List.contains_cons,hb,Bool.or_true]
 have f:=tc_notTuple
 unfold excMatches
 repeat (first | (with_reducible refine wpAny_loadPart_at he ?_;rw [hcls]) | with_reducible refine wpAny_loadPart_at hW ?_ | (with_reducible refine wpAny_isSubtype_exc hW ?_;rw [c1]) | (with_reducible refine wpAny_isSubtype_exc hC ?_;rw [hin]) | wp_step)
 exact hq
end
section
variable {M:Model} {A:Around} {E:Value→Shared→Prop} {s:Shared} {base:Heap} {env:Env} {outer:List Env} {L a C:Addr} {oe:Obj} {vs:Array Value}
theorem J2 {Q:Unit→Shared→Prop} {T:Addr} {oT:Obj} {ts:Array Value} (hfr:A.frames=some (env::outer)) (hl:s.heap.FunFrames base (env::outer)) (hf:env.frame=some L)
  (ha:s.heap.get? a=some oe) (hc:oe.cls=.ref C∧oe.dict=none) (hd:oe.data=.fields vs) (h1:vs[1]?=some (.ref T)) (hT:s.heap.get? T=some oT) (Ds:oT.data=.fields ts) (h3:ts[3]?=some .none) (hne:T≠a)
  (k:∀ h',lF ((env::outer).filterMap (·.frame)) a (some T) C s.heap h'→Q () { s with heap:=h' }):wpAny M A (noteFrame (.ref a) env) (fun _ s2=>wpAny M A (setFlight (.ref a) none) Q E s2) E s:=by
 unfold noteFrame
 simp only [hf]
 refine wpAny_bind (wpAny_field ha hd h1 ?_);rw [if_pos (show (Value.ref T != Value.none)=true by simp)]
 refine wpAny_bind (wpAny_field hT Ds h3 ?_);rw [if_neg (show ¬ ((Value.none == rawInt L)=true) by simp [rawInt])]
 refine wpAny_bind (wpAny_setField hT Ds (Array.getElem?_eq_some_iff.mp h3).1 ?_)
 have Vd:T ∉ (env::outer).filterMap (·.frame):=fun hm=>gT hl hm hT Ds
 have EE:∀ b,b≠T→(s.heap.update T (Obj.mapFields (·.setIfInBounds 3 Value.none))).get? b=s.heap.get? b:=fun b hb=>Heap.get?_update_other _ _ (Ne.symm hb)
 have hl':(s.heap.update T (Obj.mapFields (·.setIfInBounds 3 Value.none))).FunFrames base (env::outer):=hl.of_keeps fun b o hb hnf=>⟨o,(EE b fun z=>by rw [z,hT] at hb;injection hb with hb;subst hb;exact hnf ts Ds).trans hb,rfl⟩
 refine DC (s:={ s with heap:=s.heap.update T (Obj.mapFields (·.setIfInBounds 3 Value.none)) }) hfr hl' hf ((EE a (Ne.symm hne)).trans ha) hc hd (Array.getElem?_eq_some_iff.mp h1).1 fun h' m=>k h' ⟨fun b o q nf nb nT=>m.keep b o ((EE b fun z=>nT (by rw [z])).trans q) nf nb (fun z=>nomatch z),fun b o q inf=>m.slot b o ((EE b fun z=>Vd (z ▸ inf)).trans q) inf,?_,?_⟩
 ·intro b o e q
  cases e
  have e3:=Heap.get?_update_self (Obj.mapFields (·.setIfInBounds 3 Value.none)) hT (Obj.isFreed_of_fields (Obj.data_mapFields Ds _))
  exact ⟨_,m.keep T _ e3 Vd hne (fun z=>nomatch z)⟩
 ·obtain ⟨Nk,vs',T',O4,ts',x1,x2,x3,x4,x5,x6,x7,x8,x9⟩:=m.NO
  exact ⟨Nk,vs',T',O4,ts',x1,x2,x3,x4,x5,x6,x7,x8,Nat.le_trans (Nat.le_of_eq (Heap.size_after_update ..).symm) x9⟩
theorem NP {Q:Unit→Shared→Prop} {fr:List Addr} {old:Option Addr} {h2:Heap} (m:lF fr a old C h2 s.heap) (fn:∀ b∈fr,b < h2.objs.size) (an:∀ b,old=some b→b < h2.objs.size) (ha:a < h2.objs.size)
  (k:∀ h',lF fr a old C h2 h'→(∀ o,s.heap.get? a=some o→h'.get? a=some o)→Q () { s with heap:=h' }):wpAny M A (setFlight (.ref a) none) Q E s:=by
 obtain ⟨Nk,vs',T',O4,ts',x1,x2,x3,x4,x5,x6,x7,x8,x9⟩:=m.NO
 unfold setFlight
 refine wpAny_bind (wpAny_field x1 x3 x4 ?_);rw [if_pos (show (Value.ref T' != Value.none)=true by simp)]
 refine wpAny_setField x5 x6 (Array.getElem?_eq_some_iff.mp x7).1 (k _ ?_ ?_)
 ·have EE:∀ b,b < h2.objs.size→(s.heap.update T' (Obj.mapFields (·.setIfInBounds 3 ((none:Option Addr).elim Value.none fun f=>rawInt f)))).get? b=s.heap.get? b:=fun b hb=>Heap.get?_update_other _ _ (fun z=>by rw [← z] at hb;exact Nat.lt_irrefl _ (Nat.lt_of_lt_of_le hb x9))
  refine ⟨fun b o q nf nb nT=>(EE b (Heap.lt_size q)).trans (m.keep b o q nf nb nT),fun b o q inf=>?_,fun b o e q=>?_,?_⟩
  ·obtain ⟨sl,z⟩:=m.slot b o q inf
   exact ⟨sl,(EE b (fn b inf)).trans z⟩
  ·obtain ⟨o',z⟩:=m.a1W b o e q
   exact ⟨o',(EE b (an b e)).trans z⟩
  ·refine ⟨Nk,vs',T',_,_,(EE a ha).trans x1,x2,x3,x4,Heap.get?_update_self _ x5 (Obj.isFreed_of_fields (Obj.data_mapFields x6 _)),Obj.data_mapFields x6 _,?_,x8,x9⟩
   have hs:=(Array.getElem?_eq_some_iff.mp x7).1
   simp [hs]
 ·intro o z
  rw [Heap.get?_update_other _ _ x8];exact z
end
end PySem
namespace L2
open PySem PySem.Spec PyProof.Rows
def Cx.tr (X:Cx) (pn:List (Addr×Obj)) (xe:Value→Shared→Prop):Cx:={ X with pn:=pn,xe:=xe }
def Cx.suite (X:Cx) (a:Addr) (pn:List (Addr×Obj)):Cx:={ X with A:=X.A.mark (some (.ref a)),calm:=false,pn:=pn,xe:=fun _ _=>False }
section
variable {X:Cx} {pn:List (Addr×Obj)} {xe:Value→Shared→Prop} {pins lM:List (Addr×Obj)} {σ:St} {H:Hp} {s:Shared} {a:Addr}
theorem a1X (o:X.Ok):(X.tr pn xe).Ok:=⟨o.mod,o.kind,o.glob,o.blt,o.above,o.inj,o.has,o.PB,o.hd,o.frames,o.stk,o.RU,o.bs,o.GI,o.Ba,o.BE,o.pU,o.Mg⟩
theorem UM (o:(X.tr pn xe).Ok):X.Ok:=⟨o.mod,o.kind,o.glob,o.blt,o.above,o.inj,o.has,o.PB,o.hd,o.frames,o.stk,o.RU,o.bs,o.GI,o.Ba,o.BE,o.pU,o.Mg⟩
theorem a1Y (o:X.Ok):(X.suite a pn).Ok:=⟨o.mod,o.kind,o.glob,o.blt,o.above,o.inj,o.has,o.PB,(fun z=>nomatch z),o.frames,o.stk,o.RU,o.bs,o.GI,o.Ba,o.BE,o.pU,o.Mg⟩
theorem U6 (I:Inv X pins σ H s) (h:∀ p∈pn++lM,p∈X.pn++pins):Inv (X.tr pn xe) lM σ H s:=⟨a1X I.ok,I.os,I.bare,I.base,I.loc,I.cell,I.free,I.jh,fun p hp=>I.pin p (h p hp),I.hok,I.len⟩
theorem wO (I:Inv (X.tr pn xe) lM σ H s) (h:∀ p∈X.pn++pins,p∈pn++lM):Inv X pins σ H s:=⟨UM I.ok,I.os,I.bare,I.base,I.loc,I.cell,I.free,I.jh,fun p hp=>I.pin p (h p hp),I.hok,I.len⟩
theorem O8 {oe:Obj} (I:Inv X pins σ H s) (ha:s.heap.get? a=some oe) (hf:H a=none) (hl:a≠X.env.locals) (hn:a ∉ X.fs) (hd:∀ v,oe.data≠.cell v):Inv (X.suite a ((a,oe)::(X.pn++pins))) [] σ H s :=
 ⟨a1Y I.ok,I.os,I.bare,I.base,I.loc,I.cell,I.free,I.jh,fun p hp=>by
  rw [List.append_nil] at hp
  rcases List.mem_cons.mp (show p∈(a,oe)::(X.pn++pins) from hp) with e | e
  ·subst e;exact ⟨ha,hf,hl,hn,hd⟩
  ·exact I.pin p e,I.hok,I.len⟩
theorem Inv.forget {a:Addr} {pn':List (Addr×Obj)} {h':Heap} {t':Nat} {m':Str→Option Value} (o:X.Ok) (I:Inv (X.suite a pn') [] σ H s) (hp:∀ p∈X.pn++pins,p∈pn') (hn:h'.Ns X.env.locals m') (sb:Heap.SameBut X.env.locals s.heap h') :
  Inv X pins (List.replicate X.N.length none) H { s with heap:=h',toks:=t' }:=by
 have kp:∀ b u,b≠X.env.locals→s.heap.get? b=some u→h'.get? b=some u:=fun b u nb q=>(sb.2 b nb).trans q
 have ab:∀ b u,X.s₀.heap.get? b=some u→b≠X.env.locals:=fun b u q z=>by
  have l1:=Heap.lt_size q
  have l2:X.s₀.heap.objs.size≤X.env.locals:=o.above
  rw [z] at l1
  exact Nat.lt_irrefl _ (Nat.lt_of_lt_of_le l1 l2)
 have B:=I.base
 refine ⟨o,I.os,I.bare,⟨fun b u q n nf nx=>kp b u (ab b u q) (B.keep b u q n nf nx),fun b u q n inf nx=>?_,fun b u q n nx=>B.free b u q n nx,fun b u q nx=>?_,B.tups,B.qQ,B.rC⟩,⟨m',hn,fun i x v _ e=>?_⟩,fun x c e=>?_,I.free,I.jh,fun p Tq=>?_,I.hok.KA fun b u hb q=>kp b u (fun z=>hb (z ▸ I.free)) q,List.length_replicate ..⟩
 ·obtain ⟨sl,e⟩:=B.slot b u q n inf nx
  exact ⟨sl,kp b _ (ab b u q) e⟩
 ·obtain ⟨o',e⟩:=B.there b u q nx
  exact ⟨o',kp b _ (ab b u q) e⟩
 ·rw [List.getElem?_replicate] at e
  split at e <;> cases e
 ·obtain ⟨v,oc,h1,h2⟩:=I.cell x c e
  exact ⟨v,oc,kp c _ (I.Py x c e) h1,h2⟩
 ·obtain ⟨h1,h2,h3,h4,h5⟩:=I.pin p (by rw [List.append_nil];exact hp p Tq)
  exact ⟨kp _ _ h3 h1,h2,h3,h4,h5⟩
end
section
variable {X:Cx} {C W fI fW:Addr} {bm dI:List Value} {xc n:Str} {i:Nat} {np hpos pos:Pos} {body:List Stmt} {b₀:Stmt} {suite:List Stmt} {tb:XK→TS} {ts:Addr→TS}
def Um (X:Cx) (i:Nat) (ts:Addr→TS) (D:Ends):XK:=fun _ _ H2=>∀ (σ':St) (a:Addr),σ'.length=X.N.length→H2 a=none→ts a { D with nx:=fun _ _=>False,bk:=fun _ _=>False,ct:=fun _ _=>False } (σ'.set i (some (.ref a))) H2
theorem MH (NK:X.stack=X.env::X.outer) (hf:X.env.frame=some X.env.locals) (XC:GU X.K C fI bm) (XW:GU X.K W fW dI) (hin:(Value.ref C::bm).contains (.ref W)=true) (hg:Gl X xc) (hm:X.mg xc=some (.ref W)) (hN:X.N.Nodup) (hi:X.N[i]?=some n) (hl:X.env.kindOf n=some .local)
  (hb:∀ (pn:List (Addr×Obj)) (xe:Value→Shared→Prop) (E:XK),Passes (As X.prog X.w C) (X.tr pn xe) E→Al (X.tr pn xe) body (tb E))
  (hs:∀ (a:Addr) (oe:Obj) (pn:List (Addr×Obj)),oe.cls=.ref C→(∃ vs,oe.data=.fields vs)→oe.dict=none→Al (X.suite a ((a,oe)::pn)) (b₀::suite) (ts a)) (hdb:(xc == ("__debug__":Str))=false:=by decide) :
  PS X (.Try body [.ExceptHandler (some (.Name xc np)) (some n) (b₀::suite) hpos] [] [] pos) (fun D σ H=>tb (Um X i ts D) D σ H):=by
 intro pins s σ H D I h
 refine wpAny_Try_except (wpAny_mono (hb (X.pn++pins) _ (Um X i ts D) ?pass [] s σ H D (U6 I fun p hp=>by rw [List.append_nil] at hp;exact hp) h) (fun f s1 q=>?_) fun e s1 z=>z)
 case pass =>
  rintro lM σ' H1 s1 e s' I1 ⟨a,H2,rfl,hE,os,bare,un,ok,fl⟩
  have I1:Inv X pins σ' H1 s1:=wO I1 fun p hp=>List.mem_append_left _ hp
  obtain ⟨oe,vs,T,oT,ts',ha,hc,hd,h1,hT,Ds,h3,ne,nT,fT⟩:=fl.NO
  have un:Un (frs X.stack) [] H1 H2 s1.heap s'.heap:=un
  have sk:∀ b∈frs X.stack,H1 b=none:=I1.qg
  have Pg:s1.heap.FunFrames X.base X.stack:=I1.stack
  have fl2:s'.heap.FunFrames X.base (X.env::X.outer):=NK ▸ zV (fun _ z=>z) sk un Pg
  have fr1:∀ b∈frs X.stack,b < s1.heap.objs.size:=fun b hb=>by
   obtain ⟨_,o,ho,_⟩:=Pg.mem hb
   exact Heap.lt_size ho
  have Pe:∀ b,b∈frs X.stack→H2 b=none:=fun b hb=>by
   obtain ⟨_,o,ho,_⟩:=Pg.mem hb
   exact un.free b o ho (sk b hb) (by simp)
  have new:=fl.new
  have lta:=Heap.lt_size ha
  have szs:s1.heap.objs.size≤s'.heap.objs.size:=Nat.le_trans new (Nat.le_of_lt lta)
  have hfr:X.A.frames=some (X.env::X.outer):=NK ▸ I1.ok.frames
  refine J2 hfr fl2 hf ha hc hd h1 hT Ds h3 ne fun h3' m=>?_
  have m:lF (frs X.stack) a (some T) C s'.heap h3':=by rw [NK];exact m
  have inv:∀ (h':Heap) (g:Array GenState) (d:Drawn) (t:Nat),AllBare g→lF (frs X.stack) a (some T) C s'.heap h'→Inv X pins σ' H2 ⟨h',g,d,t,s1.os⟩:=fun h' g d t hb m=>by
   have nb:∀ b u,s1.heap.get? b=some u→b≠a∧(some T:Option Addr)≠some b:=fun b u q=>⟨fun z=>absurd (Heap.lt_size q) (by rw [z];exact Nat.not_lt.mpr new),fun z=>absurd (Heap.lt_size q) (by cases z;exact Nat.not_lt.mpr nT)⟩
   have un3:Un (frs X.stack) [] H1 H2 s1.heap h':=⟨fun b u q n nf nx=>m.keep b u (un.keep b u q n nf nx) nf (nb b u q).1 (nb b u q).2,fun b u q n inf nx=>by
     obtain ⟨sl,e1⟩:=un.slot b u q n inf nx
     obtain ⟨sl2,e2⟩:=m.slot b _ e1 inf
     exact ⟨sl2,e2⟩,un.free,fun b u q nx=>by
     obtain ⟨o1,e1⟩:=un.there b u q nx
     by_cases hb:b∈frs X.stack
     ·obtain ⟨sl,e2⟩:=m.slot b o1 e1 hb
      exact ⟨_,e2⟩
     ·exact ⟨o1,m.keep b o1 e1 hb (nb b u q).1 (nb b u q).2⟩,un.tups,un.qQ,un.rC⟩
   exact I1.Pz (s':=⟨h',g,d,t,s1.os⟩) (ch:=[]) rfl un3 (ok.KA fun b u hb q=>m.keep b u q (fun z=>hb (Pe b z)) (fun z=>hb (z ▸ fl.free)) (fun z=>hb (by cases z;exact fT))) hb (fun b z=>absurd z (by simp))
  obtain ⟨Tq,g',d',t',os'⟩:=s'
  obtain rfl:os'=s1.os:=os
  have I3:=inv h3' g' d' t' bare m
  obtain ⟨oe3,vs3,T3,oT3,ts3,x1,x2,x3,x4,x5,x6,x7,x8,x9⟩:=m.NO
  have al:a≠X.env.locals:=fun z=>absurd (Nat.lt_of_lt_of_le (z ▸ I1.lt) new) (Nat.lt_irrefl _)
  have af:a ∉ X.fs:=fun z=>absurd (Nat.lt_of_lt_of_le (fr1 a (by rw [NK];exact List.mem_cons_of_mem _ z |> fun w=>by unfold frs;rw [List.filterMap_cons,hf];exact w)) new) (Nat.lt_irrefl _)
  have IS:=O8 (a:=a) I3 x1 fl.free al af (fun v z=>by rw [x3] at z;cases z)
  obtain ⟨nm,q,N,bs,hdct,sn,sub,ab,col,dd,k0,k1,k2,k3,k5,lkC,_,_⟩:=XC.ob
  obtain ⟨nm',q',N',bs',Pb,sn',sub',ab',col',Mh,j0,j1,j2,j3,j5,lkW,_,_⟩:=XW.ob
  refine wpAny_handleBy_cons (codeAny_handlers_test (jD (X:=X.suite a _) IS hg hm ?_ hdb)) (by intro q;cases q)
  refine QZ (I3.p8 _ _ lkC) (I3.p8 _ _ lkW) x1 x2.1 XW.b hin ?_
  refine codeAny_handlers_suite_as ?_
  refine NP (fr:=frs X.stack) m (fun b hb=>Nat.lt_of_lt_of_le (fr1 b hb) szs) (fun b e=>by cases e;exact Heap.lt_size hT) lta fun h4 m4 U3=>?_
  have I4:=inv h4 g' d' t' bare m4
  have IS4:=O8 (a:=a) I4 (U3 _ x1) fl.free al af (fun v z=>by rw [x3] at z;cases z)
  refine qf (X:=X.suite a _) IS4 hN hi (Or.inl hl) (v:=.ref a) rfl (fun s5 I5=>?_) (.inr hl)
  refine wpAny_mono (hs a oe3 (X.pn++pins) x2.1 ⟨vs3,x3⟩ x2.2 [] s5 _ H2 _ I5 (hE σ' a I1.len fl.free)) (fun f s6 q6=>?_) fun _ _ z=>False.elim z
  cases f with
  | next=>obtain ⟨_,_,_,z⟩:=q6;exact False.elim z
  | brk=>obtain ⟨_,_,_,z⟩:=q6;exact False.elim z
  | cont=>obtain ⟨_,_,_,z⟩:=q6;exact False.elim z
  | ret u =>
   obtain ⟨v,σ6,H6,I6,rv,z⟩:=q6
   obtain ⟨m6,hn6,_⟩:=I6.loc
   refine wpAny_nameGoes hl hn6 (by have:=I1.ok.kind;show (X.env.scope.kind == _ || _)=false;rw [this];rfl) fun h7 m7 hn7 sb=>?_
   exact ⟨v,_,H6,Inv.forget I1.ok I6 (fun p hp=>List.mem_cons_of_mem _ hp) hn7 sb,rv,z⟩
 cases f with
 | next =>
  obtain ⟨σ1,H1,I1,z⟩:=q
  exact wpAny_pure ⟨σ1,H1,wO I1 fun p hp=>List.mem_append_left _ hp,z⟩
 | brk=>obtain ⟨σ1,H1,I1,z⟩:=q;exact ⟨σ1,H1,wO I1 fun p hp=>List.mem_append_left _ hp,z⟩
 | cont=>obtain ⟨σ1,H1,I1,z⟩:=q;exact ⟨σ1,H1,wO I1 fun p hp=>List.mem_append_left _ hp,z⟩
 | ret u=>obtain ⟨v,σ1,H1,I1,rv,z⟩:=q;exact ⟨v,σ1,H1,wO I1 fun p hp=>List.mem_append_left _ hp,rv,z⟩
end
end L2
namespace L2
open PySem PySem.Spec PyProof.Rows
section
variable {X:Cx} {tg:Expr}
end
end L2
namespace PySem
open L2
section
variable {prog:Program} {w:World} {A:Around} {E:Value→Shared→Prop} {s:Shared}
end
end PySem
namespace PySem
open L2 PyProof.Rows
section
variable {prog:Program} {w:World} {A:Around} {R:Result→Shared→Prop} {I:Addr} {fp wr:List Addr} {G:Array GenState→Array GenState→Prop} {n:Nat} {P:Nat→Value→Prop} {St:Nat→Shared→Prop}
end
section
variable {prog:Program} {w:World} {A:Around} {E:Value→Shared→Prop} {s:Shared}
end
end PySem
namespace PySem
open L2 PyProof.Rows
namespace F
end F
section
variable {prog:Program} {w:World} {A:Around} {E:Value→Shared→Prop} {s:Shared} {I a tp:Addr} {i n ep:Nat} {es:Array (Int×Value)} {t:SetTable}
end
end PySem
namespace PySem
open L2 PyProof.Rows
section
variable {prog:Program} {w:World} {A:Around} {E:Value→Shared→Prop} {s:Shared} {I a tp:Addr} {i n ep:Nat} {es:Array (Int×Value)} {t:SetTable}
end
end PySem
namespace PySem
open L2 PyProof.Rows
section
variable {M:Model} {A:Around} {E:Value→Shared→Prop} {s:Shared}
end
section
variable {prog:Program} {w:World} {A:Around} {E:Value→Shared→Prop} {s:Shared} {I a tp:Addr} {i n ep:Nat} {es:Array (Int×Value)} {t:SetTable}
end
end PySem
namespace PySem
open L2 PyProof.Rows
section
variable {prog:Program} {w:World} {A:Around} {E:Value→Shared→Prop} {s:Shared} {I a tp:Addr} {i n ep:Nat} {es:Array (Int×Value)} {t:SetTable}
end
end PySem
namespace PySem
open L2 PyProof.Rows
section
variable {prog:Program} {w:World} {A:Around} {E:Value→Shared→Prop} {s:Shared} {a:Addr}
end
end PySem
namespace PySem
open L2 PyProof.Rows
section
variable {prog:Program} {w:World} {A:Around} {E:Value→Shared→Prop} {s:Shared} {a:Addr} {zs:List Str}
end
end PySem
namespace L2
open PySem PySem.Spec PyProof.Rows Hw
section
variable {X:Cx}
end
end L2
namespace Hw
open PySem L2
def Gy (z:Str):Bool:=(decide (1≤z.length) && decide (z.length≤8)) && !(decide (z∈eZ))
end Hw
namespace L2
open PySem PySem.Spec PyProof.Rows Hw
section
variable {X:Cx}
end
end L2
namespace Hw
open PySem L2
end Hw
namespace Hw
open PySem L2
end Hw
namespace Hw
open PySem L2
end Hw
namespace L2
open PySem PySem.Spec PyProof.Rows Hw
section
variable {X:Cx}
def tQ:List (Option Expr)→List Expr→Option (List (Str×Str))
 | [],[]=>some []
 | some (.Constant (.str a) _ _)::ks,.Constant (.str b) _ _::vs=>(tQ ks vs).map ((a,b)::·)
 | _,_=>none
def Ub (kvs:List (Str×Str)):List (TE×TE):=kvs.map fun p=>(tC (.str p.1),tC (.str p.2))
theorem Jl {pos:Pos}:∀ {ks:List (Option Expr)} {vs:List Expr} {kvs:List (Str×Str)},tQ ks vs=some kvs→W5 X pos ks vs (Ub kvs)∧ks.all (·.isSome)=true∧ks.length=vs.length∧ks.length=kvs.length:=by
 intro ks
 induction ks with
 | nil =>
  intro vs kvs h
  cases vs with
  | nil=>unfold tQ at h;cases h;exact ⟨MJ,rfl,rfl,rfl⟩
  | cons _ _=>unfold tQ at h;cases h
 | cons k ks ih =>
  intro vs kvs h
  unfold tQ at h
  split at h
  ·rename_i z;cases z
  ·rename_i a j p ks' b j' p' vs' z
   cases z
   cases q:tQ ks vs' with
   | none=>rw [q] at h;cases h
   | some r =>
    rw [q] at h
    cases h
    obtain ⟨h1,h2,h3,h4⟩:=ih q
    refine ⟨Jm aP aP h1,?_,?_,?_⟩
    ·rw [List.all_cons,h2];rfl
    ·rw [List.length_cons,List.length_cons,h3]
    ·rw [List.length_cons,List.length_cons,h4]
  ·cases h
theorem tP {σ:St} {H:Hp}:∀ {kvs:List (Str×Str)} {Q:List (V×V)→Hp→Prop},Q (kvs.map fun p=>(V.str p.1,V.str p.2)) H→yS (Ub kvs) σ H Q
 | [],Q,h=>h
 | p::r,Q,h=>tP (kvs:=r) (Q:=fun ps H3=>Q ((V.str p.1,V.str p.2)::ps) H3) h
def dictOf:Expr→Option (List (Str×Str))
 | .Dict ks vs _=>tQ ks vs
 | _=>none
def Q7 (kvs:List (Str×Str)):List (Key×V):=kvs.map fun p=>(Sum.inr p.1,.str p.2)
def Qe (kvs:List (Str×Str)):TE:=fun _ H Q=>∀ p,H p=none→Q (.ref p) (upd H p (.dK (kM [] (Q7 kvs))))
theorem JF {kvs:List (Str×Str)} (h0:kvs≠[]) (h15:kvs.length≤15):∀ {e:Expr},dictOf e=some kvs→PE X e (Qe kvs)
 | .Dict ks vs pos,h=>by
  obtain ⟨h1,h2,h3,h4⟩:=Jl (X:=X) (pos:=pos) (show tQ ks vs=some kvs from h)
  have hne:ks≠[]:=fun z=>h0 (List.length_eq_zero_iff.mp (by rw [← h4,z];rfl))
  intro pins s σ H Q I q
  refine MN h1 h2 h3 hne (by omega) pins s σ H Q I fun p hp=>tP ⟨ah,Q7 kvs,?_,?_,?_⟩
  ·unfold Q7
   rw [List.map_map]
   rfl
  ·unfold Q7
   rw [List.length_map]
   exact h15
  ·rw [L2.uR]
   exact q p hp
theorem Mx {kvs:List (Str×Str)} {t:Option Expr} {n:Nat} {env:Env}:∀ {e:Expr},dictOf e=some kvs→swapsWith e t n env=pure false
 | .Dict ks vs pos,h=>rfl
def ifB (s:Stmt) (i:Nat):Stmt:=match s with | .If _ b _ _=>b.getD i (.Pass ⟨0,0,0,0⟩) | _=>.Pass ⟨0,0,0,0⟩
end
end L2
namespace Hw
open PySem L2
def EG:List (Str×Str):=[("<",">="),(">=","<"),("<=",">"),(">","<="),("=","!="),("!=","=")]
theorem MS {s:Str} (h:s∈signs):jQ (kM [] (Q7 EG)) (Sum.inr s)=some (V.str (g7 s)):=by
 simp only [signs,List.mem_cons,List.not_mem_nil,or_false] at h
 rcases h with h | h | h | h | h | h <;> subst h <;> decide +kernel
theorem BP {K:PySem.W.Frag} {H:Hp} {r1 r2:Addr} {k:Bool} {us:List V} {cs:List Cd} {Q:VK} (h1:H r1=some (.tup [.str (Au k)])) (h2:H r2=some (.tup us)) (ht:bV H cs us) (hl:us.length≤1000) (q:∀ (v:V) (H':Hp),az H H'→aW H' (.con k cs) v→Q v H'):Jc K (.ref r1) (.ref r2) H Q:=by
 refine ⟨r1,r2,_,_,rfl,rfl,aX.of h1,aX.of h2,(by show 1+us.length≤sizeLine;exact Nat.le_of_lt (line _ (by omega))),(fun z=>by cases z),fun _ z=>?_,fun _ _ r hr=>?_⟩
 ·subst z
  refine q _ H (az.refl _) ?_
  unfold aW
  exact ⟨r1,[],rfl,h1,ht⟩
 ·refine q _ _ (new hr) ?_
  unfold aW
  exact ⟨r,us,rfl,ah,ht.aB (aD.of (new hr))⟩
end Hw
namespace Hw
open PySem L2
def G1 (P:Program) (w:World) (K:PySem.W.Frag) (mg:Str→Option Value) (base:Heap) (C:Addr) (k:Nat) (x:Str) (ps:List Str) (sp:Sp):Prop :=
 ∃ (f:Addr) (fd:FuncData),bF P w K mg base (As P w C) k f fd ps sp∧mg x=some (.ref f)∧PySem.W.keepIn K (.ref f)=true∧Binds K fd ps []
def PM (P:Program) (w:World) (K:PySem.W.Frag) (mg:Str→Option Value) (base:Heap) (C:Addr) (k:Nat) (Z:Cz) (m:Str) (ps:List Str) (sp:Nat→Sp):Prop :=
 ∀ j,j < 4→∃ (f:Addr) (fd:FuncData),bF P w K mg base (As P w C) k f fd ps (sp j)∧Meth K (fJ Z j) m f∧Binds K fd ps []
theorem Dw {P:Program} {w:World} {K:PySem.W.Frag} {mg:Str→Option Value} {base:Heap} {CX:Fv} {k:Nat} {f:Addr} {fd:FuncData} {ps:List Str} {sp:Sp} (h:∀ vs H Q E,¬ sp vs H Q E):bF P w K mg base CX k f fd ps sp :=
 ⟨fun vs H Q E z=>(h vs H Q E z).elim,fun A outer s H args us vs Q E _ _ _ _ z=>(h vs H Q E z).elim⟩
theorem EN {P:Program} {w:World} {K:PySem.W.Frag} {mg:Str→Option Value} {base:Heap} {C:Addr} {Z:Cz} {m:Str} {ps:List Str} {sp:Nat→Nat→Sp} {lv:Nat→Nat} (f:Nat→Addr) (fd:Nat→FuncData)
  (hm:∀ j,j < 4→Meth K (fJ Z j) m (f j)) (hb:∀ j,j < 4→Binds K (fd j) ps []) (h0:∀ j vs H Q E,¬ sp 0 j vs H Q E)
  (hs:∀ n,PM P w K mg base C (lv n) Z m ps (sp n)→∀ j,j < 4→bF P w K mg base (As P w C) (lv (n+1)) (f j) (fd j) ps (sp (n+1) j)):∀ n,PM P w K mg base C (lv n) Z m ps (sp n)
 | 0=>fun j hj=>⟨f j,fd j,Dw (h0 j),hm j hj,hb j hj⟩
 | n+1=>fun j hj=>⟨f j,fd j,hs n (EN f fd hm hb h0 hs n) j hj,hm j hj,hb j hj⟩
structure dJ (K:PySem.W.Frag) (mg:Str→Option Value) (TM W fT fW:Addr) (dN dI:List Value):Prop where
 ct:GU K TM fT dN
 cw:GU K W fW dI
 hin:(Value.ref TM::dN).contains (.ref W)=true
 mgT:mg "TooMany"=some (.ref TM)
 mgW:mg "WritError"=some (.ref W)
 mgV:mg "ValueError"=none
 g1:PySem.W.specialIn K (.ref W) "__getattribute__"=some (some (.builtin "type.__getattribute__"))
 g2:PySem.W.readsIn K W (.type "type")=true
 g3:PySem.W.findCls K (.ref W) (.type "type") "__init__"=some (.val (.ref fW))
 g4:PySem.W.handedIn (.ref fW)=true
 g5:PySem.W.keepIn K (.ref fW)=true
 gv:PySem.W.findCls K (.type "ValueError") (.type "type") "__init__"=some (.val (.builtin "ValueError.__init__"))
end Hw
namespace L2
open PySem PySem.Spec PyProof.Rows Hw
section
variable {X:Cx} {C:Addr} {k:Nat} {m:Str} {pos apos:Pos} {o:Expr} {ta:TE} {Z:Cz} {ps:List Str} {sp:Nat→Sp} {E:XK}
def ZR (Z:Cz) (sp:Nat→Sp) (E:XK) (ta:TE):TE:=fun σ H Q=>ta σ H fun x H1=>∃ p c,x=.ref p∧bw Z H1 c (.ref p)∧sp (IP c) [.ref p] H1 Q E
theorem zm {pl:Sem Bool} (he:PE X o ta) (cl:∀ j,j < 4→Ef X.K (fJ Z j)) (nf:SK m) (M:PM X.prog X.w X.K X.mg X.base C k Z m ps sp) (hr:fM k X.A) (hx:Passes (As X.prog X.w C) X E)
  (ht:eval (.Call (.Attribute o m apos) [] [] pos) X.env=(do
   let ov ← eval o X.env
   standAt apos.atName
   let (f,first) ← holding [ov] (getMethod ov m pl)
   callWith pos f first (backTo pos (starEach [] X.env)) (backToKw pos (keywordEach [] X.env))):=by rfl) :
  PE X (.Call (.Attribute o m apos) [] [] pos) (ZR Z sp E ta):=by
 intro pins s σ H Q I h
 refine PySem.W.methodCall_KW (pl:=pl) (cS (he pins s σ H _ I h) fun u s1 ⟨x,H1,I1,rx,a,c,ex,hc,q⟩=>?_) ht
 subst ex
 obtain rfl:u=Value.ref a:=rx
 obtain ⟨dx,fs,ea,l⟩:=xm hc nf
 obtain ⟨f,fd,F,hm,hb⟩:=M (IP c) (rL c)
 refine kQ I1 ea (cl _ (rL c)) hm l ?_
 exact PySem.W.callWith_K0 (first:=[.ref a]) I1.p8 hm.kp (pB (us:=[.ref a]) (vs:=[.ref a]) F hr hb .nil hx I1 (.cons rfl .nil) q)
theorem MK {K:PySem.W.Frag} {tg l:Expr} {tl:TE} (h:X.K=K) (hl:PE X l tl):PI X tg l (U8 K tl):=h ▸ dD hl
theorem UG {P:Program} {w:World}:Passes (As P w C) X E0:=fun _ _ _ _ _ _ _ ⟨_,_,_,h,_⟩=>h.elim
end
end L2
namespace Hw
open PySem L2
def QW (b:Ps):Ps:=b.map fun p=>(p.1,-p.2)
theorem jY {a ts:Ps} (c:Canon a) (g:p9 a ts):ts=a:=g.1.same c fun f=>g.2 f
def DM (s:Str) (r d:Ps×Int):Cs :=
 if s="<" then [[(r.1,r.2 - 1)]] else if s="<=" then [[r]] else if s=">" then [[(d.1,d.2 - 1)]] else if s=">=" then [[d]] else if s="=" then [[r,d]] else [[(r.1,r.2 - 1)],[(d.1,d.2 - 1)]]
mutual
def gD:Cd→Bool→Cs→Prop
 | .cmp a n s b m,o,cs=>∃ r d,p9 (b++QW a) r∧p9 (a++QW b) d∧cs=DM (if o then g7 s else s) (r,m - n) (d,n - m)
 | .neg c,o,cs=>gD c (!o) cs
 | .con k l,o,cs=>gC l o (if o then !k else k) cs
def gC:List Cd→Bool→Bool→Cs→Prop
 | [],_,t,cs=>cs=if t then [[]] else []
 | c::l,o,t,cs=>∃ A B,gD c o A∧gC l o t B∧cs=if t then bq A B else A++B
end
mutual
theorem gD.one:∀ {c:Cd} {o:Bool} {A B:Cs},gD c o A→gD c o B→A=B
 | .cmp a n s b m,o,A,B,h,g=>by
  unfold gD at h g
  obtain ⟨r,d,g1,g2,rfl⟩:=h
  obtain ⟨r',d',g1',g2',rfl⟩:=g
  rw [g1.same g1' fun _=>rfl,g2.same g2' fun _=>rfl]
 | .neg c,o,A,B,h,g=>by unfold gD at h g;exact gD.one h g
 | .con k l,o,A,B,h,g=>by unfold gD at h g;exact gC.one h g
theorem gC.one:∀ {l:List Cd} {o t:Bool} {A B:Cs},gC l o t A→gC l o t B→A=B
 | [],o,t,A,B,h,g=>by unfold gC at h g;rw [h,g]
 | c::l,o,t,A,B,h,g=>by
  unfold gC at h g
  obtain ⟨a,b,h1,h2,rfl⟩:=h
  obtain ⟨a',b',g1,g2,rfl⟩:=g
  rw [gD.one h1 g1,gC.one h2 g2]
end
theorem yG:∀ A:Cs,bq A [[]]=A
 | []=>rfl
 | a::r=>by
  show [a++[]]++bq r [[]]=_
  rw [yG r,List.append_nil]
  rfl
theorem GJ (A:Cs):bq [[]] A=A:=by
 show A.map (fun x=>[]++x)++[]=A
 rw [List.append_nil]
 exact List.map_id' A
theorem BR (C:Cs):∀ A B:Cs,bq (A++B) C=bq A C++bq B C
 | [],B=>rfl
 | a::r,B=>by
  show C.map (a++·)++bq (r++B) C=(C.map (a++·)++bq r C)++bq B C
  rw [BR C r B,List.append_assoc]
theorem BQ (a:List (Ps×Int)) (C:Cs):∀ B:Cs,bq (B.map (a++·)) C=(bq B C).map (a++·)
 | []=>rfl
 | b::r=>by
  show C.map ((a++b)++·)++bq (r.map (a++·)) C=(C.map (b++·)++bq r C).map (a++·)
  rw [BQ a C r,List.map_append,List.map_map]
  congr 1
  refine List.map_congr_left fun x _=>?_
  show (a++b)++x=a++(b++x)
  rw [List.append_assoc]
theorem xu (B C:Cs):∀ A:Cs,bq (bq A B) C=bq A (bq B C)
 | []=>rfl
 | a::r=>by
  show bq (B.map (a++·)++bq r B) C=(bq B C).map (a++·)++bq r (bq B C)
  rw [BR,BQ,xu B C r]
def jn (t:Bool) (A B:Cs):Cs:=if t then bq A B else A++B
theorem gC.snoc {c:Cd} {o t:Bool} {B:Cs} (q:gD c o B):∀ {l:List Cd} {A:Cs},gC l o t A→gC (l++[c]) o t (jn t A B)
 | [],A,h=>by
  unfold gC at h
  subst h
  show gC [c] o t _
  unfold gC
  refine ⟨B,if t then [[]] else [],q,by unfold gC;rfl,?_⟩
  unfold jn
  cases t
  ·show []++B=B++[]
   rw [List.append_nil];rfl
  ·show bq [[]] B=bq B [[]]
   rw [GJ,yG]
 | a::l,A,h=>by
  unfold gC at h
  obtain ⟨x,y,h1,h2,rfl⟩:=h
  show gC (a::(l++[c])) o t _
  unfold gC
  refine ⟨x,jn t y B,h1,gC.snoc q h2,?_⟩
  unfold jn
  cases t
  ·show (x++y)++B=x++(y++B)
   rw [List.append_assoc]
  ·show bq (bq x y) B=bq x (bq y B)
   rw [xu]
theorem gC.con {k:Bool} {l:List Cd} {A:Cs} (h:gC l false k A):gD (.con k l) false A:=by unfold gD;exact h
mutual
theorem gD.cY:∀ {c:Cd} {o:Bool} {A:Cs},c.ok→gD c.cY o A→gD c (!o) A
 | .cmp a n s b m,o,A,h,q=>by
  unfold Cd.cY at q
  unfold gD at q ⊢
  unfold Cd.ok at h
  have e:g7 (g7 s)=s:=by
   simp only [signs,List.mem_cons,List.not_mem_nil,or_false] at h
   rcases h with h | h | h | h | h | h <;> subst h <;> decide +kernel
  obtain ⟨r,d,g1,g2,rfl⟩:=q
  refine ⟨r,d,g1,g2,?_⟩
  cases o
  ·rfl
  ·show DM (g7 (g7 s)) _ _=DM s _ _
   rw [e]
 | .neg c,o,A,h,q=>by
  unfold Cd.cY at q
  unfold gD
  rw [Bool.not_not]
  exact q
 | .con k l,o,A,h,q=>by
  unfold Cd.cY at q
  unfold Cd.ok at h
  unfold gD at q ⊢
  have z:=gC.cY h q
  cases o <;> cases k <;> exact z
theorem gC.cY:∀ {l:List Cd} {o t:Bool} {A:Cs},oi l→gC (dH l) o t A→gC l (!o) t A
 | [],o,t,A,h,q=>by unfold dH at q;unfold gC at q ⊢;exact q
 | c::l,o,t,A,h,q=>by
  unfold dH at q
  unfold oi at h
  unfold gC at q ⊢
  obtain ⟨x,y,h1,h2,rfl⟩:=q
  exact ⟨x,y,gD.cY h.1 h1,gC.cY h.2 h2,rfl⟩
end
mutual
theorem gD.len:∀ {c:Cd} {o:Bool} {A:Cs},c.ok→gD c o A→A.length=c.cN o
 | .cmp a n s b m,o,A,h,q=>by
  unfold gD at q
  unfold Cd.cN
  unfold Cd.ok at h
  obtain ⟨r,d,_,_,rfl⟩:=q
  simp only [signs,List.mem_cons,List.not_mem_nil,or_false] at h
  cases o <;> (rcases h with h | h | h | h | h | h <;> subst h <;> rfl)
 | .neg c,o,A,h,q=>by
  unfold gD at q
  unfold Cd.ok at h
  unfold Cd.cN
  exact gD.len h q
 | .con k l,o,A,h,q=>by
  unfold gD at q
  unfold Cd.ok at h
  unfold Cd.cN
  have z:=gC.len h q
  revert z
  generalize (if o=true then !k else k)=t
  cases t <;> exact fun z=>z
theorem gC.len:∀ {l:List Cd} {o t:Bool} {A:Cs},oi l→gC l o t A→A.length=if t then kc l o else lR l o
 | [],o,t,A,h,q=>by
  unfold gC at q
  unfold kc lR
  subst q
  cases t <;> rfl
 | c::l,o,t,A,h,q=>by
  unfold gC at q
  unfold oi at h
  obtain ⟨x,y,h1,h2,rfl⟩:=q
  have e1:=gD.len h.1 h1
  have e2:=gC.len h.2 h2
  unfold kc lR
  cases t
  ·show (x++y).length=_
   rw [List.length_append,e1,e2];rfl
  ·show (bq x y).length=_
   rw [dU,e1,e2];rfl
end
mutual
theorem kK:∀ {c:Cd} (o:Bool),c.full→1≤c.cN o
 | .cmp a n s b m,o,h=>by unfold Cd.cN;split <;> split <;> decide
 | .neg c,o,h=>by unfold Cd.full at h;unfold Cd.cN;exact kK _ h
 | .con k l,o,h=>by
  unfold Cd.full at h
  unfold Cd.cN
  have z:=uY o h.2
  generalize (if o=true then !k else k)=t
  cases t with
  | true=>rw [if_pos rfl];exact z.1
  | false=>rw [if_neg (by decide)];exact z.2 h.1
theorem uY:∀ {l:List Cd} (o:Bool),cE l→1≤kc l o∧(1≤l.length→1≤lR l o)
 | [],o,h=>⟨by unfold kc;decide,fun z=>absurd z (by decide)⟩
 | c::l,o,h=>by
  unfold cE at h
  have e:=kK o h.1
  have z:=uY o h.2
  unfold kc lR
  exact ⟨Nat.mul_le_mul e z.1,fun _=>by omega⟩
end
theorem Be {o:Bool}:∀ {l r:List Cd},cE r→kc l o≤kc (l++r) o
 | [],r,h=>by
  show kc [] o≤kc r o
  have e:kc [] o=1:=by unfold kc;rfl
  rw [e];exact (uY o h).1
 | c::l,r,h=>by show c.cN o*kc l o≤c.cN o*kc (l++r) o;exact Nat.mul_le_mul_left _ (Be h)
theorem Bd {o:Bool}:∀ {l r:List Cd},lR l o≤lR (l++r) o
 | [],r=>by
  show lR [] o≤lR r o
  have e:lR [] o=0:=by unfold lR;rfl
  rw [e];exact Nat.zero_le _
 | c::l,r=>by show c.cN o+lR l o≤c.cN o+lR (l++r) o;exact Nat.add_le_add_left Bd _
theorem wV:∀ (i:Nat) {cs:List Cd},cE cs→cE (cs.drop i)
 | 0,cs,h=>h
 | i+1,[],h=>h
 | i+1,c::cs,h=>by
  unfold cE at h
  exact wV i h.2
theorem J5 {o:Bool} {cs:List Cd} (i:Nat) (h:cE cs):kc (cs.take i) o≤kc cs o:=by
 have z:=Be (o:=o) (l:=cs.take i) (wV i h)
 rw [List.take_append_drop] at z
 exact z
theorem J4 {o:Bool} {cs:List Cd} (i:Nat):lR (cs.take i) o≤lR cs o:=by
 have z:=Bd (o:=o) (l:=cs.take i) (r:=cs.drop i)
 rw [List.take_append_drop] at z
 exact z
theorem EJ {o:Bool} {cs:List Cd} {c:Cd} {i:Nat} (h:cE cs) (hi:cs[i]?=some c):kc (cs.take i) o*c.cN o≤kc cs o∧1≤kc (cs.take i) o:=by
 have z:=J5 (o:=o) (i+1) h
 rw [take_snoc hi,wo] at z
 exact ⟨z,(uY o (kR i h)).1⟩
theorem EI {o:Bool} {cs:List Cd} {c:Cd} {i:Nat} (hi:cs[i]?=some c):lR (cs.take i) o+c.cN o≤lR cs o:=by
 have z:=J4 (o:=o) (cs:=cs) (i+1)
 rw [take_snoc hi,wm] at z
 exact z
def nv (C:Addr):Sp:=fun vs H Q _=>∃ a v,vs=[.ref a,v]∧H a=some (Hh C a)∧Q .fL H
def vB (TM:Addr):Sp:=fun vs H Q E=>∃ k:Nat,vs=[.int k]∧(k≤64→Q .fL H)∧(64 < k→∀ H',az H H'→E (.ref TM) none H')
def qk (Z:Cz) (TM:Addr):Sp:=fun vs H Q E=>∃ (o u:Addr) (A B:Cs),vs=[.ref o,.ref u]∧dX Z H o A∧dX Z H u B∧A.length≤64∧B.length≤64∧(∀ a∈A,a.length≤1000)∧(∀ b∈B,b.length≤1000) ∧
 (A.length*B.length≤64→∀ (r:Addr) (H':Hp),az H H'→H r=none→dX Z H' r (bq A B)→Q (.ref r) H')∧(64 < A.length*B.length→∀ H',az H H'→E (.ref TM) none H')
def vF (Z:Cz) (TM:Addr) (n:Nat):Nat→Sp:=fun j vs H Q E=>∃ (p:Addr) (c:Cd),vs=[.ref p]∧IP c=j∧bw Z H c (.ref p)∧c.dep≤n∧c.ok∧c.iT∧c.full∧c.dW≤100 ∧
 (c.cN false≤64→∀ (r:Addr) (cs:Cs) (H':Hp),az H H'→H r=none→dX Z H' r cs→tN c cs→gD c false cs→Q (.ref r) H')∧(64 < c.cN false→∀ H',az H H'→E (.ref TM) none H')
theorem cx0 (Z:Cz) (TM:Addr):∀ j vs H Q E,¬ vF Z TM 0 j vs H Q E:=fun _ _ _ _ _ ⟨_,_,_,_,_,d,_⟩=>DF d
theorem N4 {H:Hp} {a:Addr} {o:HO} (h:H a=none):del (upd H a o) a=H:=by
 funext b
 unfold del
 split
 ·rename_i e;rw [e,h]
 ·rename_i e;exact aM e
end Hw
namespace Hw
open PySem L2
mutual
def Ge (xs:List Str):Cd→Prop
 | .cmp a n s b m=>Gs xs a n∧s∈signs∧Gs xs b m
 | .neg c=>Ge xs c
 | .con _ cs=>cs.length≤8∧jr xs cs
def jr (xs:List Str):List Cd→Prop
 | []=>True
 | c::cs=>Ge xs c∧jr xs cs
end
mutual
theorem Ge.of {xs:List Str}:∀ {c:Cd},Gd xs c→Ge xs c
 | .cmp a n s b m,h=>by unfold Gd at h;unfold Ge;exact h
 | .neg c,h=>by unfold Gd at h;unfold Ge;exact Ge.of h
 | .con k cs,h=>by unfold Gd at h;unfold Ge;exact ⟨by omega,jr.of h.2⟩
theorem jr.of {xs:List Str}:∀ {cs:List Cd},GV xs cs→jr xs cs
 | [],h=>by unfold jr;trivial
 | c::cs,h=>by unfold GV at h;unfold jr;exact ⟨Ge.of h.1,jr.of h.2⟩
end
mutual
theorem Ge.ok {xs:List Str}:∀ {c:Cd},Ge xs c→c.ok
 | .cmp a n s b m,h=>by unfold Ge at h;unfold Cd.ok;exact h.2.1
 | .neg c,h=>by unfold Ge at h;unfold Cd.ok;exact Ge.ok h
 | .con k cs,h=>by unfold Ge at h;unfold Cd.ok;exact jr.ok h.2
theorem jr.ok {xs:List Str}:∀ {cs:List Cd},jr xs cs→oi cs
 | [],h=>by unfold oi;trivial
 | c::cs,h=>by unfold jr at h;unfold oi;exact ⟨Ge.ok h.1,jr.ok h.2⟩
end
mutual
theorem Ge.iT {xs:List Str}:∀ {c:Cd},Ge xs c→c.iT
 | .cmp a n s b m,h=>by
  unfold Ge at h
  unfold Cd.iT
  have h1:=h.1.2.1.1
  have h2:=h.2.2.2.1.1
  exact ⟨by omega,by omega⟩
 | .neg c,h=>by unfold Ge at h;unfold Cd.iT;exact Ge.iT h
 | .con k cs,h=>by unfold Ge at h;unfold Cd.iT;exact jr.iT h.2
theorem jr.iT {xs:List Str}:∀ {cs:List Cd},jr xs cs→mS cs
 | [],h=>by unfold mS;trivial
 | c::cs,h=>by unfold jr at h;unfold mS;exact ⟨Ge.iT h.1,jr.iT h.2⟩
end
mutual
theorem Ge.G7 {xs:List Str}:∀ {c:Cd},Ge xs c→cL xs c
 | .cmp a n s b m,h=>by unfold Ge at h;unfold cL;exact ⟨h.1.2.2.1,h.2.2.2.2.1⟩
 | .neg c,h=>by unfold Ge at h;unfold cL;exact Ge.G7 h
 | .con k cs,h=>by unfold Ge at h;unfold cL;exact jr.G7 h.2
theorem jr.G7 {xs:List Str}:∀ {cs:List Cd},jr xs cs→cJ xs cs
 | [],h=>by unfold cJ;trivial
 | c::cs,h=>by unfold jr at h;unfold cJ;exact ⟨Ge.G7 h.1,jr.G7 h.2⟩
end
theorem ve {xs:List Str} {c:Cd}:∀ {cs:List Cd},jr xs cs→c∈cs→Ge xs c
 | a::r,h,m=>by
  unfold jr at h
  rcases List.mem_cons.mp m with e | e
  ·rw [e];exact h.1
  ·exact ve h.2 e
mutual
theorem gD.oB:∀ {c:Cd} {o:Bool} {A:Cs},gD c o A→∀ k∈A,k.length≤2*c.dW
 | .cmp a n s b m,o,A,q=>by
  unfold gD at q
  unfold Cd.dW
  obtain ⟨r,d,_,_,rfl⟩:=q
  generalize (if o=true then g7 s else s)=s'
  unfold DM
  intro k hk
  repeat' split at hk
  all_goals simp only [List.mem_cons,List.not_mem_nil,or_false] at hk
  all_goals first | (rcases hk with hk | hk <;> (subst hk;show _+1≤2;simp)) | (subst hk;show _+1≤2;simp)
 | .neg c,o,A,q=>by
  unfold gD at q
  unfold Cd.dW
  exact gD.oB q
 | .con k l,o,A,q=>by
  unfold gD at q
  unfold Cd.dW
  exact gC.oB q
theorem gC.oB:∀ {l:List Cd} {o t:Bool} {A:Cs},gC l o t A→∀ k∈A,k.length≤2*uG l
 | [],o,t,A,q=>by
  unfold gC at q
  subst q
  intro k hk
  cases t
  ·exact absurd hk (by show ¬ k∈[];exact List.not_mem_nil)
  ·rw [List.mem_singleton.mp hk];exact Nat.zero_le _
 | c::l,o,t,A,q=>by
  unfold gC at q
  unfold uG
  obtain ⟨x,y,h1,h2,rfl⟩:=q
  have w1:=gD.oB h1
  have w2:=gC.oB h2
  intro k hk
  cases t
  ·have hk:k∈x++y:=hk
   rcases List.mem_append.mp hk with h | h
   ·have:=w1 k h;omega
   ·have:=w2 k h;omega
  ·have hk:k∈bq x y:=hk
   obtain ⟨a,ha,b,hb,rfl⟩:=j8 hk
   have:=w1 a ha
   have:=w2 b hb
   rw [List.length_append]
   omega
end
def iL (H:Hp) (v:V) (c:List (Ps×Int)):Prop:=∃ r us,v=.ref r∧H r=some (.tup us)∧Paired (fun u (q:Ps×Int)=>∃ p,u=V.ref p∧cD H p q.1 q.2) us c
def lG (H:Hp) (r:Addr) (cs:Cs):Prop:=∃ us,H r=some (.lst us)∧Paired (iL H) us cs
theorem iL.aB {H H':Hp} {v:V} {c:List (Ps×Int)} (h:iL H v c) (k:aD H H'):iL H' v c :=
 let ⟨r,us,e,er,p⟩:=h;⟨r,us,e,k.t _ _ er,L2.Paired.cF p fun _ _ ⟨q,e,s⟩=>⟨q,e,s.aB k⟩⟩
theorem lG.same {H H':Hp} {r:Addr} {cs:Cs} (h:lG H r cs) (s:az H H'):lG H' r cs :=
 let ⟨us,e,p⟩:=h;⟨us,s _ _ e,L2.Paired.cF p fun _ _ z=>z.aB (aD.of s)⟩
theorem dX.same {Z:Cz} {H H':Hp} {r:Addr} {cs:Cs} (h:dX Z H r cs) (s:az H H'):dX Z H' r cs :=
 let ⟨us,e,p⟩:=h;⟨us,s _ _ e,L2.Paired.cF p fun _ _ z=>z.aB (aD.of s)⟩
theorem zp {α β:Type} {F:α→β→Prop} {G:α→α→Prop} (h:∀ x y b,F x b→F y b→G x y):∀ {xs ys:List α} {bs:List β},Paired F xs bs→Paired F ys bs→Paired G xs ys
 | _,_,_,.nil,.nil=>.nil
 | _,_,_,.cons a t,.cons b u=>.cons (h _ _ _ a b) (zp h t u)
theorem Di {K:PySem.W.Frag} {H:Hp} {x y:V} {c:List (Ps×Int)} (h:iL H x c) (g:iL H y c):q8 K H 4 x y:=by
 obtain ⟨r,us,rfl,er,p⟩:=h
 obtain ⟨r',us',rfl,sV,p'⟩:=g
 exact .inr ⟨r,r',_,_,rfl,rfl,.inr ⟨aX.of er,aX.of sV⟩,zp (fun _ _ q ⟨a,ea,da⟩ ⟨b,eb,db⟩=>by subst ea;subst eb;exact Lz da db) p p'⟩
theorem qK {K:PySem.W.Frag} {H:Hp} {a b:Addr} {cs:Cs} {Q:VK} {k:Bool} {n:Nat} (hn:4≤n) (h:lG H a cs) (g:lG H b cs) (q:Q (.bl k) H):O1 K n k (.ref a) (.ref b) H Q:=by
 obtain ⟨us,e,p⟩:=h
 obtain ⟨us',e',p'⟩:=g
 refine ⟨a,b,us,us',rfl,rfl,.inl ⟨bC.of e,bC.of e'⟩,zp (F:=iL H) (G:=q8 K H n) (fun x y c x1 y1=>?_) p p',q⟩
 exact Ny (Di x1 y1) hn
def nB (Z:Cz) (n:Nat):Sp:=fun vs H Q _=>∃ (v:V) (c:Cd) (xs:List Str),vs=[v]∧aW H c v∧c.dep≤n∧Ge xs c∧∀ (v':V) (H':Hp),az H H'→bw Z H' c v'→Q v' H'
theorem R0 (Z:Cz):∀ vs H Q E,¬ nB Z 0 vs H Q E:=fun _ _ _ _ ⟨_,_,_,_,_,d,_⟩=>DF d
def zc:Sp:=fun vs H Q _=>∃ (p q:Addr) (a b:Ps) (n m k:Int),vs=[.ref p,.ref q,.int k]∧cD H p a n∧cD H q b m∧a.length+b.length < 64 ∧
 ∀ (r:Addr) (ts:Ps) (H':Hp),az H H'→p9 (a++QW b) ts→cD H' r ts (n - m+k)→Q (.ref r) H'
def jU:Sp:=fun vs H Q _=>∃ (o u:Addr) (A B:Cs),vs=[.ref o,.ref u]∧lG H o A∧lG H u B∧A.length≤64∧B.length≤64∧(∀ a∈A,a.length≤1000)∧(∀ b∈B,b.length≤1000) ∧
 ∀ (r:Addr) (H':Hp),az H H'→lG H' r (bq A B)→Q (.ref r) H'
def zb (Z:Cz):Sp:=fun vs H Q _=>∃ (l:Addr) (cs:Cs),vs=[.ref l]∧dX Z H l cs∧cs.length≤64∧(∀ k∈cs,k.length≤1000)∧∀ (r:Addr) (H':Hp),az H H'→lG H' r cs→Q (.ref r) H'
section
variable {xs:List Str} {H H' H'':Hp} {d l P:Addr} {us:List V} {cs:List Cd}
end
theorem wg:∀ (i:Nat) {cs:List Cd},oi cs→oi (cs.take i)
 | 0,cs,h=>by rw [List.take_zero];unfold oi;trivial
 | i+1,[],h=>by rw [List.take_nil];exact h
 | i+1,c::cs,h=>by
  unfold oi at h
  rw [List.take_succ_cons]
  unfold oi
  exact ⟨h.1,wg i h.2⟩
structure XRf (K:PySem.W.Frag) (mg:Str→Option Value) (TM a1 a2 a3 a4 a5:Addr):Prop where
 xi:PySem.W.TV K TM
 m1:mg "NoText"=some (.ref a1)
 m2:mg "NoSense"=some (.ref a2)
 m3:mg "NoRun"=some (.ref a3)
 m4:mg "Fault"=some (.ref a4)
 m5:mg "TooHard"=some (.ref a5)
 k1:PySem.W.kitAny K (.ref TM) [.ref a1,.ref a2,.ref a3]=some false
 k2:PySem.W.kitAny K (.ref TM) [.ref a4,.ref a5]=some false
 k3:PySem.W.kitOne K (.ref TM) (.ref TM)=some true
 k4:PySem.W.kitOne K (.ref TM) (.type "ValueError")=some true
theorem vV:∀ {as:List Addr} {vs:List Value},Vals (as.map V.ref) vs→vs=as.map Value.ref
 | [],_,.nil=>rfl
 | a::r,_,.cons h t=>by rw [vV t];cases h;rfl
theorem rR:∀ as:List Addr,Vals (as.map V.ref) (as.map Value.ref)
 | []=>.nil
 | a::r=>.cons rfl (rR r)
end Hw
namespace L2
open PySem PySem.Spec PyProof.Rows
def UB (K:PySem.W.Frag) (C a:Addr):List V→Hp→VK→Prop:=fun xs H Q=>∃ c b,xs=[.ref a,c]∧((∃ u,RelV c u∧(∀ v,RelV c v→v=u)∧PySem.W.kitOne K (.ref C) u=some b)∨(∃ t cs us,c=.ref t∧H t=some (.tup cs)∧Vals cs us∧(∀ vs,Vals cs vs→vs=us)∧PySem.W.kitAny K (.ref C) us=some b))∧Q (.bl b) H
theorem kY {X:Cx} {a C:Addr} {oe:Obj} {K:PySem.W.Frag} (h:X.K=K) (Z:PySem.W.TV K C) (hp:(a,oe)∈X.pn) (hc:oe.cls=.ref C) (hd:∃ vs,oe.data=.fields vs) (hn:oe.dict=none):j9 X (.builtin "isinstance") (UB K C a):=by
 subst h
 exact GH Z hp hc hd hn
end L2
namespace L2
open PySem PySem.Spec PyProof.Rows Hw
section
variable {X:Cx}
end
end L2
namespace Hw
open PySem L2
inductive Rw where
 | any (x:Str)
 | lt (x:Str) (a:Ps) (n:Int)
 | hold (c:Cd)
def BW (Z:Cz) (H:Hp) (v:V):Rw→Prop
 | .any x=>∃ p,v=.ref p∧H p=some (.tup [.str "any",.str x])
 | .lt x a n=>∃ p q,v=.ref p∧H p=some (.tup [.str "let",.str x,.ref q])∧cB Z.s H q a n
 | .hold c=>∃ p q,v=.ref p∧H p=some (.tup [.str "hold",.ref q])∧bw Z H c (.ref q)
theorem BW.aB {Z:Cz} {H H':Hp} {v:V} (k:aD H H'):∀ {r:Rw},BW Z H v r→BW Z H' v r
 | .any x,⟨p,e,h⟩=>⟨p,e,k.t _ _ h⟩
 | .lt x a n,⟨p,q,e,h,s⟩=>⟨p,q,e,k.t _ _ h,s.aB k⟩
 | .hold c,⟨p,q,e,h,s⟩=>⟨p,q,e,k.t _ _ h,s.aB k⟩
abbrev tH (Z:Cz) (H:Hp) (us:List V) (rs:List Rw):Prop:=Paired (BW Z H) us rs
theorem tH.aB {Z:Cz} {H H':Hp} {us:List V} {rs:List Rw} (h:tH Z H us rs) (k:aD H H'):tH Z H' us rs:=L2.Paired.cF h fun _ _ x=>x.aB k
def WZ (ks:List Str) (x:Str):List Str:=if x∈ks then ks else ks++[x]
def kn (ks:List Str):List Rw→List Str
 | []=>ks
 | .any x::r=>kn (WZ ks x) r
 | .lt x _ _::r=>kn (WZ ks x) r
 | .hold _::r=>kn ks r
theorem jA {H:Hp} {a b:Addr} {o:HO} (h:upd H a o b=none):H b=none:=by
 by_cases e:b=a
 ·subst e;rw [ah] at h;cases h
 ·rw [aM e] at h;exact h
end Hw
namespace PySem
open Sem (wp)
section
variable {prog:Program} {w:World} {A:Around} {E:Value→Shared→Prop} {s:Shared}
end
end PySem
namespace L2
open PySem PySem.Spec PyProof.Rows Hw
section
variable {X:Cx}
end
section
variable {X:Cx} {l:Expr} {tl:TE} {p pos:Pos}
end
end L2
namespace Hw
open PySem L2
abbrev Sm:=Ps×Int
def W2 (C:Addr) (H:Hp) (v:V) (s:Sm):Prop:=∃ p,v=.ref p∧cB C H p s.1 s.2
theorem W2.aB {C:Addr} {H H':Hp} {v:V} {s:Sm} (h:W2 C H v s) (k:aD H H'):W2 C H' v s:=let ⟨p,e,q⟩:=h;⟨p,e,q.aB k⟩
abbrev PL (C:Addr) (H:Hp):List V→List Sm→Prop:=Paired (W2 C H)
theorem PL.aB {C:Addr} {H H':Hp} {vs:List V} {ss:List Sm} (h:PL C H vs ss) (k:aD H H'):PL C H' vs ss:=Paired.cF h fun _ _ q=>q.aB k
def cY (s:Sm):Sm:=(s.1.map fun p=>(p.1,-p.2),-s.2 - 1)
def s0:Sm:=([],0)
def yW (C:Addr):Sp:=fun vs H Q _=>∃ (p:Addr) (ts:Ps) (n:Int),vs=[.ref p]∧cB C H p ts n∧Q (.bl (ts.isEmpty && decide (n < 0))) H
end Hw
namespace Hw
open PySem L2
end Hw
namespace Hw
open PySem L2
theorem Af {α:Type} {xs:List α} {v:α} (h:0 < xs.length) (e:xs[xs.length - 1]?=some v):xO xs (-1)=some v:=by
 have:xs=xs.dropLast++[v]:=by
  have hn:xs≠[]:=fun z=>by rw [z] at h;cases h
  rw [List.getElem?_eq_getElem (by omega)] at e
  have e':xs.getLast hn=v:=by rw [List.getLast_eq_getElem];exact Option.some.inj e
  rw [← e']
  exact (List.dropLast_concat_getLast hn).symm
 rw [this]
 exact LN _ _
end Hw
namespace Hw
open PySem L2
end Hw
namespace L2
open PySem PySem.Spec PyProof.Rows Hw
end L2
namespace Hw
open PySem L2
end Hw
namespace Hw
open PySem L2
end Hw
namespace Hw
open PySem L2
end Hw
namespace Hw
open PySem L2
end Hw
namespace Hw
open PySem L2
end Hw
namespace Hw
open PySem L2
end Hw
namespace Hw
open PySem L2
def eG (s:Sm):Bool:=s.1.isEmpty && decide (s.2 < 0)
def jc (s:Sm):Bool:=!s.1.isEmpty
def uk (n:Nat):Str:=("?":Str)++(Str.ofString (toString (n:Int)))
def xZ (M:Nat):List Str:=(List.range M).map uk
theorem ID {n M:Nat} (h:n < M):uk n∈xZ M:=List.mem_map.mpr ⟨n,List.mem_range.mpr h,rfl⟩
theorem nk (M:Nat):(xZ M).length=M:=by unfold xZ;rw [List.length_map,List.length_range]
theorem yP {n M:Nat} (h:n≤M) {x:Str} (hx:x∈xZ n):x∈xZ M:=by
 obtain ⟨j,hj,rfl⟩:=List.mem_map.mp hx
 exact ID (Nat.lt_of_lt_of_le (List.mem_range.mp hj) h)
def yM (S:Sb):Prop:=∀ s∈S,s.2.1.length≤20
def vC (C:Addr):Sp:=fun vs H Q _=>∃ (p d:Addr) (ts:Ps) (n:Int) (kvs:List (Key×V)) (S:Sb),vs=[.ref p,.ref d]∧cB C H p ts n∧Rd H d (.dK kvs)∧Rl (LU C H) kvs S∧TZ ts∧yM S ∧
 ∀ (r:Addr) (us:Ps) (H':Hp),az H H'→p9 (jS S ts) us→cB C H' r us (n+gE S ts)→Q (.ref r) H'
def gi (Z:Cz) (n:Nat):Nat→Sp:=fun j vs H Q _=>∃ (p d:Addr) (c:Cd) (kvs:List (Key×V)) (S:Sb),vs=[.ref p,.ref d]∧IP c=j∧bw Z H c (.ref p)∧c.dep≤n∧c.l3∧Rd H d (.dK kvs)∧Rl (LU Z.s H) kvs S∧yM S ∧
 ∀ (v:V) (c':Cd) (H':Hp),az H H'→Pt S c c'→bw Z H' c' v→Q v H'
theorem UD (Z:Cz):∀ j vs H Q E,¬ gi Z 0 j vs H Q E:=fun _ _ _ _ _ ⟨_,_,_,_,_,_,_,_,d,_⟩=>DF d
theorem zI {f g:Str→Int}:∀ {a:Ps},(∀ p∈a,f p.1=g p.1)→bT a f=bT a g
 | [],_=>rfl
 | p::r,h=>by
  show p.2*f p.1+bT r f=p.2*g p.1+bT r g
  rw [h p (List.mem_cons_self ..),zI fun q hq=>h q (List.mem_cons_of_mem _ hq)]
mutual
theorem wR {f g:Str→Int} {xs:List Str} (e:∀ x∈xs,f x=g x):∀ {c:Cd},cL xs c→c.holds f=c.holds g
 | .cmp a n s b m,h=>by
  unfold cL at h
  unfold Cd.holds
  rw [zI (f:=f) (g:=g) fun p hp=>e _ (h.1 p hp),zI (a:=b) (f:=f) (g:=g) fun p hp=>e _ (h.2 p hp)]
 | .neg c,h=>by
  unfold cL at h
  unfold Cd.holds
  rw [wR e h]
 | .con k cs,h=>by
  unfold cL at h
  unfold Cd.holds
  rw [(sR e h).1,(sR e h).2]
theorem sR {f g:Str→Int} {xs:List Str} (e:∀ x∈xs,f x=g x):∀ {cs:List Cd},cJ xs cs→cP f cs=cP g cs∧cO f cs=cO g cs
 | [],_=>⟨by unfold cP;rfl,by unfold cO;rfl⟩
 | c::cs,h=>by
  unfold cJ at h
  have i1:=wR e h.1
  have i2:=sR e h.2
  exact ⟨by unfold cP;rw [i1,i2.1],by unfold cO;rw [i1,i2.2]⟩
end
theorem Kh (S:Sb) (t:Str) (q:Ps×Int) (t':Str):look (fK S t q) t'=if t=t' then some q else look S t':=by
 unfold fK
 by_cases h:t∈kP S
 ·rw [if_pos h]
  induction S with
  | nil=>exact nomatch h
  | cons s r ih =>
   by_cases e:s.1=t
   ·have e1:((s::r).map fun s=>if s.1=t then (s.1,q) else s)=(s.1,q)::r.map fun s=>if s.1=t then (s.1,q) else s:=by rw [List.map_cons,if_pos e]
    rw [e1]
    unfold look
    by_cases z:t=t'
    ·rw [if_pos z,if_pos (e.trans z)]
    ·rw [if_neg z,if_neg (fun y=>z (e.symm.trans y)),if_neg (fun y=>z (e.symm.trans y))]
     by_cases hr:t∈kP r
     ·rw [ih hr,if_neg z]
     ·congr 1
      have:∀ r:Sb,t ∉ kP r→(r.map fun s=>if s.1=t then (s.1,q) else s)=r:=fun r=>by
       induction r with
       | nil=>exact fun _=>rfl
       | cons a b ihb =>
        intro hn
        have h1:a.1≠t:=fun y=>hn (by unfold kP;rw [List.map_cons];exact y ▸ List.mem_cons_self ..)
        have h2:t ∉ kP b:=fun y=>hn (by unfold kP at y ⊢;rw [List.map_cons];exact List.mem_cons_of_mem _ y)
        rw [List.map_cons,if_neg h1,ihb h2]
      exact this r hr
   ·have e1:((s::r).map fun s=>if s.1=t then (s.1,q) else s)=s::r.map fun s=>if s.1=t then (s.1,q) else s:=by rw [List.map_cons,if_neg e]
    have hr:t∈kP r:=by
     unfold kP at h ⊢
     rw [List.map_cons] at h
     rcases List.mem_cons.mp h with y | y
     ·exact absurd y.symm e
     ·exact y
    rw [e1]
    unfold look
    by_cases z:s.1=t'
    ·rw [if_pos z,if_pos z,if_neg (fun y=>e (z.trans y.symm))]
    ·rw [if_neg z,if_neg z]
     exact ih hr
 ·rw [if_neg h,yo]
  by_cases z:t=t'
  ·subst z
   rw [yp h]
  ·cases look S t' <;> simp [z]
theorem NX (S:Sb) (t:Str) (q:Ps×Int) (f:Str→Int) (t':Str):Ci (fK S t q) f t'=if t=t' then q.2+bT q.1 f else Ci S f t':=by
 unfold Ci
 rw [Kh]
 by_cases z:t=t'
 ·rw [if_pos z,if_pos z]
 ·rw [if_neg z,if_neg z]
theorem MG (S:Sb) (t:Str) (q:Ps×Int) (x:Str):x∈kP (fK S t q)↔x∈kP S∨x=t:=by
 rw [FA]
 by_cases h:t∈kP S
 ·rw [if_pos h]
  exact ⟨.inl,fun y=>y.elim id fun e=>e ▸ h⟩
 ·rw [if_neg h,List.mem_append,List.mem_singleton]
theorem Qt (e:Ps) (t:Str) (n:Int) (x:Str):x∈keys (put e t n)↔x∈keys e∨x=t:=by
 rw [wK]
 by_cases h:t∈keys e
 ·rw [if_pos h]
  exact ⟨.inl,fun y=>y.elim id fun e=>e ▸ h⟩
 ·rw [if_neg h,List.mem_append,List.mem_singleton]
def Te:Rw→Option Str
 | .any x=>some x
 | .lt x _ _=>some x
 | .hold _=>none
def gI (l:List Rw):List Str:=l.filterMap Te
theorem eY (l:List Rw) (r:Rw):gI (l++[r])=gI l++(match Te r with | some x=>[x] | none=>[]):=by
 unfold gI
 rw [List.filterMap_append]
 cases h:Te r with
 | none=>rw [List.filterMap_cons_none h];rfl
 | some x=>rw [List.filterMap_cons_some h];rfl
def gx (f:Str→Int) (s:Ps×Nat×Bool):Rw→Ps×Nat×Bool
 | .any x=>(put s.1 x (f (uk s.2.1)),s.2.1+1,s.2.2)
 | .lt x a n=>(put s.1 x (n+bT a (get s.1)),s.2.1,s.2.2)
 | .hold c=>(s.1,s.2.1,s.2.2 && c.holds (get s.1))
def gz (f:Str→Int) (l:List Rw):Ps×Nat×Bool:=l.foldl (gx f) ([],0,true)
theorem zT (f:Str→Int) (l:List Rw) (r:Rw):gz f (l++[r])=gx f (gz f l) r:=by
 unfold gz
 rw [List.foldl_append]
 rfl
def dY:List Rw→Nat
 | []=>0
 | .any _::r=>dY r+1
 | .lt ..::r=>dY r
 | .hold _::r=>dY r
theorem dj:∀ a b:List Rw,dY (a++b)=dY a+dY b
 | [],b=>by show dY b=0+dY b;omega
 | .any _::r,b=>by show dY (r++b)+1=dY r+1+dY b;rw [dj r b];omega
 | .lt ..::r,b=>dj r b
 | .hold _::r,b=>dj r b
theorem nS (i:Nat) (l:List Rw):dY (l.take i)≤dY l:=by
 have h:=dj (l.take i) (l.drop i)
 rw [List.take_append_drop] at h
 omega
theorem vj:∀ l:List Rw,dY l≤l.length
 | []=>Nat.le_refl _
 | .any _::r=>Nat.succ_le_succ (vj r)
 | .lt ..::r=>Nat.le_succ_of_le (vj r)
 | .hold _::r=>Nat.le_succ_of_le (vj r)
def oj:List Rw→Nat
 | []=>1
 | .any _::r=>oj r
 | .lt ..::r=>oj r
 | .hold c::r=>c.cN false*oj r
theorem kL:∀ a b:List Rw,oj (a++b)=oj a*oj b
 | [],b=>by show oj b=1*oj b;rw [Nat.one_mul]
 | .any _::r,b=>kL r b
 | .lt ..::r,b=>kL r b
 | .hold c::r,b=>by show c.cN false*oj (r++b)=c.cN false*oj r*oj b;rw [kL r b,Nat.mul_assoc]
def CP (xs:List Str):Rw→Prop
 | .any _=>True
 | .lt _ a n=>Gs xs a n
 | .hold c=>Ge xs c∧c.full∧c.dep≤3∧c.dW≤8
def lV (l:List Rw):Prop:=∀ i r,l[i]?=some r→CP (gI (l.take i)) r
theorem zC {l:List Rw} (h:∀ c,Rw.hold c∈l→c.full):1≤oj l:=by
 induction l with
 | nil=>exact Nat.le_refl _
 | cons r t ih =>
  have i2:=ih fun c hc=>h c (List.mem_cons_of_mem _ hc)
  cases r with
  | any x=>exact i2
  | lt x a n=>exact i2
  | hold c =>
   have:=kK false (h c (List.mem_cons_self ..))
   exact Nat.mul_pos this i2
theorem lV.full {l:List Rw} (h:lV l):∀ c,Rw.hold c∈l→c.full:=fun c hc=>by
 obtain ⟨i,hi⟩:=List.getElem?_of_mem hc
 exact (h i _ hi).2.1
theorem QX {l:List Rw} (h:lV l) {i:Nat} {c:Cd} (hi:l[i]?=some (.hold c)):oj (l.take i)*c.cN false≤oj l∧1≤oj (l.take i):=by
 have hf:=h.full
 have e:l=l.take i++(.hold c::l.drop (i+1)):=by
  have il:=(List.getElem?_eq_some_iff.mp hi).1
  conv=>lhs;rw [← List.take_append_drop i l]
  rw [List.drop_eq_getElem_cons il,(List.getElem?_eq_some_iff.mp hi).2]
 have p1:1≤oj (l.take i):=zC fun c hc=>hf c (List.mem_of_mem_take hc)
 have p2:1≤oj (l.drop (i+1)):=zC fun c hc=>hf c (List.mem_of_mem_drop hc)
 have e2:oj l=oj (l.take i)*(c.cN false*oj (l.drop (i+1))):=by
  conv=>lhs;rw [e]
  rw [kL]
  rfl
 rw [e2,← Nat.mul_assoc]
 exact ⟨Nat.le_mul_of_pos_right _ p2,p1⟩
open Classical in
noncomputable def gt (a:Ps):Ps:=if h:∃ b,p9 a b then Classical.choose h else []
theorem Pd {a b:Ps} (g:p9 a b):gt a=b:=by
 have h:∃ b,p9 a b:=⟨b,g⟩
 unfold gt
 rw [dif_pos h]
 exact (Classical.choose_spec h).same g fun _=>rfl
open Classical in
noncomputable def EC (S:Sb) (c:Cd):Cd:=if h:∃ d,Pt S c d then Classical.choose h else c
theorem mF {S:Sb} {c d:Cd} (g:Pt S c d):EC S c=d:=by
 have h:∃ d,Pt S c d:=⟨d,g⟩
 unfold EC
 rw [dif_pos h]
 exact vY (Classical.choose_spec h) g
open Classical in
noncomputable def ZC (c:Cd):Cs:=if h:∃ cs,gD c false cs then Classical.choose h else []
theorem LG {c:Cd} {cs:Cs} (g:gD c false cs):ZC c=cs:=by
 have h:∃ cs,gD c false cs:=⟨cs,g⟩
 unfold ZC
 rw [dif_pos h]
 exact (Classical.choose_spec h).one g
def gW (cs:Cs):Cs:=(cs.filter fun k=>!(k.any eG)).map (·.filter jc)
theorem nu (cs:Cs):(gW cs).length≤cs.length:=by unfold gW;rw [List.length_map];exact List.length_filter_le _ _
noncomputable def BL (A:Cs) (c:Cd):Option Cs:=if c.cN false≤64∧A.length*(gW (ZC c)).length≤64 then some (bq A (gW (ZC c))) else none
structure Oz where
 S:Sb
 m:Nat
 A:Cs
noncomputable def ow1 (s:Oz):Rw→Option Oz
 | .any x=>some ⟨fK s.S x ([(uk s.m,1)],0),s.m+1,s.A⟩
 | .lt x a n=>some ⟨fK s.S x (gt (jS s.S a),n+gE s.S a),s.m,s.A⟩
 | .hold c=>(BL s.A (EC s.S c)).map fun A=>⟨s.S,s.m,A⟩
noncomputable def MQ (o:Option Oz) (l:List Rw):Option Oz:=l.foldl (fun o r=>o.bind fun s=>ow1 s r) o
noncomputable def FE (l:List Rw):Option Oz:=MQ (some ⟨[],0,[[]]⟩) l
theorem AZ:∀ l:List Rw,MQ none l=none
 | []=>rfl
 | r::t=>AZ t
theorem qB (l:List Rw) (r:Rw):FE (l++[r])=(FE l).bind fun s=>ow1 s r:=by
 unfold FE MQ
 rw [List.foldl_append]
 rfl
noncomputable def ED (l:List Rw) (c:Cd):Option Cs:=(FE l).bind fun s=>BL s.A (EC s.S c.cY)
theorem AY {l:List Rw} {c d:Cd} {i:Nat} {s:Oz} (h:FE (l.take i)=some s) (hi:l[i]?=some (.hold d)) (n:BL s.A (EC s.S d)=none):ED l c=none:=by
 have e:FE l=none:=by
  have il:=(List.getElem?_eq_some_iff.mp hi).1
  have e1:l=l.take (i+1)++l.drop (i+1):=(List.take_append_drop _ _).symm
  have e2:FE l=MQ (FE (l.take (i+1))) (l.drop (i+1)):=by
   conv=>lhs;rw [e1]
   unfold FE MQ
   rw [List.foldl_append]
  have e3:FE (l.take (i+1))=none:=by
   rw [take_snoc hi,qB,h]
   show (BL s.A (EC s.S d)).map _=none
   rw [n]
   rfl
  rw [e2,e3,AZ]
 unfold ED
 rw [e]
 rfl
end Hw
namespace Hw
open PySem L2
theorem IG {U:List Str} {S:Sb} {p:Str×Int} (hS:Aj U S) (hp:p.1∈kP S):∀ q∈rE S p,q.1∈U:=by
 intro q hq
 unfold rE at hq
 obtain ⟨s,lk⟩:=sE hp
 rw [lk] at hq
 obtain ⟨z,hz,rfl⟩:=List.mem_map.mp hq
 exact hS _ (qI lk) z hz
theorem jR {U:List Str} {S:Sb} (hS:Aj U S) {a:Ps} (ha:∀ p∈a,p.1∈kP S):∀ q∈jS S a,q.1∈U:=by
 intro q hq
 unfold jS at hq
 obtain ⟨l,hl,hql⟩:=List.mem_flatten.mp hq
 obtain ⟨p,hp,rfl⟩:=List.mem_map.mp hl
 exact IG hS (ha p hp) q hql
theorem j7 {U:List Str} {a:Ps} (c:Canon a) (h:∀ p∈a,p.1∈U):a.length≤U.length:=by
 have:=Bb (LJ c) (m:=U) fun t ht=>by
  obtain ⟨p,hp,rfl⟩:=List.mem_map.mp ht
  exact h p hp
 unfold keys at this
 rw [List.length_map] at this
 exact this
mutual
theorem mE {U:List Str} {S:Sb} (hU:U.length≤20) (hS:Aj U S):∀ {c d:Cd},cL (kP S) c→c.ok→c.full→Pt S c d→d.ok∧d.iT∧d.full∧d.dW=c.dW∧d.dep=c.dep∧cL U d∧∀ o,d.cN o=c.cN o
 | .cmp a n s b m,d,h,ho,hu,p=>by
  unfold Pt at p
  unfold cL at h
  obtain ⟨a1,b1,rfl,x1,y1⟩:=p
  have i1:=jL x1 (jR hS h.1)
  have i2:=jL y1 (jR hS h.2)
  refine ⟨?_,?_,?_,?_,?_,?_,fun o=>?_⟩
  ·unfold Cd.ok at ho ⊢;exact ho
  ·unfold Cd.iT
   have:=j7 x1.1 i1
   have:=j7 y1.1 i2
   exact ⟨by omega,by omega⟩
  ·unfold Cd.full;trivial
  ·unfold Cd.dW;rfl
  ·unfold Cd.dep;rfl
  ·unfold cL
   exact ⟨i1,i2⟩
  ·unfold Cd.cN;rfl
 | .neg c,d,h,ho,hu,p=>by
  unfold Pt at p
  unfold cL at h
  unfold Cd.ok at ho
  unfold Cd.full at hu
  obtain ⟨d1,rfl,x1⟩:=p
  obtain ⟨a1,a2,a3,a4,a5,a6,a7⟩:=mE hU hS h ho hu x1
  refine ⟨by unfold Cd.ok;exact a1,by unfold Cd.iT;exact a2,by unfold Cd.full;exact a3,by unfold Cd.dW;exact a4,by unfold Cd.dep;omega,by unfold cL;exact a6,fun o=>by unfold Cd.cN;exact a7 _⟩
 | .con k cs,d,h,ho,hu,p=>by
  unfold Pt at p
  unfold cL at h
  unfold Cd.ok at ho
  unfold Cd.full at hu
  obtain ⟨ds,rfl,x1⟩:=p
  obtain ⟨a1,a2,a3,a4,a5,a6,a7⟩:=yf hU hS h ho hu.2 x1
  have l:=ak (bH.mp x1)
  refine ⟨by unfold Cd.ok;exact a1,by unfold Cd.iT;exact a2,by unfold Cd.full;exact ⟨by omega,a3⟩,by unfold Cd.dW;exact a4,by unfold Cd.dep;omega,by unfold cL;exact a6,fun o=>by unfold Cd.cN;rw [(a7 o).1,(a7 o).2]⟩
theorem yf {U:List Str} {S:Sb} (hU:U.length≤20) (hS:Aj U S):∀ {cs ds:List Cd},cJ (kP S) cs→oi cs→cE cs→nc S cs ds→oi ds∧mS ds∧cE ds∧uG ds=uG cs∧ji ds=ji cs∧cJ U ds∧∀ o,kc ds o=kc cs o∧lR ds o=lR cs o
 | [],ds,h,ho,hu,p=>by
  unfold nc at p
  subst p
  exact ⟨by unfold oi;trivial,by unfold mS;trivial,by unfold cE;trivial,rfl,rfl,by unfold cJ;trivial,fun _=>⟨rfl,rfl⟩⟩
 | c::cs,ds,h,ho,hu,p=>by
  unfold nc at p
  unfold cJ at h
  unfold oi at ho
  unfold cE at hu
  obtain ⟨d,r,rfl,x1,y1⟩:=p
  obtain ⟨a1,a2,a3,a4,a5,a6,a7⟩:=mE hU hS h.1 ho.1 hu.1 x1
  obtain ⟨b1,b2,b3,b4,b5,b6,b7⟩:=yf hU hS h.2 ho.2 hu.2 y1
  exact ⟨by unfold oi;exact ⟨a1,b1⟩,by unfold mS;exact ⟨a2,b2⟩,by unfold cE;exact ⟨a3,b3⟩,by unfold uG;omega,by unfold ji;omega,by unfold cJ;exact ⟨a6,b6⟩,fun o=>⟨by unfold kc;rw [a7 o,(b7 o).1],by unfold lR;rw [a7 o,(b7 o).2]⟩⟩
end
mutual
theorem Ge.mono {xs ys:List Str} (h:∀ x∈xs,x∈ys):∀ {c:Cd},Ge xs c→Ge ys c
 | .cmp a n s b m,g=>by unfold Ge at g ⊢;exact ⟨⟨g.1.1,g.1.2.1,fun p hp=>h _ (g.1.2.2.1 p hp),g.1.2.2.2⟩,g.2.1,⟨g.2.2.1,g.2.2.2.1,fun p hp=>h _ (g.2.2.2.2.1 p hp),g.2.2.2.2.2⟩⟩
 | .neg c,g=>by unfold Ge at g ⊢;exact Ge.mono h g
 | .con k cs,g=>by unfold Ge at g ⊢;exact ⟨g.1,jr.mono h g.2⟩
theorem jr.mono {xs ys:List Str} (h:∀ x∈xs,x∈ys):∀ {cs:List Cd},jr xs cs→jr ys cs
 | [],_=>by unfold jr;trivial
 | c::cs,g=>by unfold jr at g ⊢;exact ⟨Ge.mono h g.1,jr.mono h g.2⟩
end
mutual
theorem Ge.l3 {xs:List Str}:∀ {c:Cd},Ge xs c→c.l3
 | .cmp a n s b m,g=>by unfold Ge at g;unfold Cd.l3;exact ⟨g.1.2.1,g.2.2.2.1⟩
 | .neg c,g=>by unfold Ge at g;unfold Cd.l3;exact Ge.l3 g
 | .con k cs,g=>by unfold Ge at g;unfold Cd.l3;exact jr.l3 g.2
theorem jr.l3 {xs:List Str}:∀ {cs:List Cd},jr xs cs→Kq cs
 | [],_=>by unfold Kq;trivial
 | c::cs,g=>by unfold jr at g;unfold Kq;exact ⟨Ge.l3 g.1,jr.l3 g.2⟩
end
theorem EK (f:Str→Int):∀ cs:Cs,g9 f (gW cs)=g9 f cs
 | []=>rfl
 | k::cs=>by
  have ih:=EK f cs
  have e0:∀ q:Sm,eG q=true→decide (0≤q.2+bT q.1 f)=false:=fun q h=>by
   unfold eG at h
   obtain ⟨a,n⟩:=q
   cases a with
   | nil=>have:=of_decide_eq_true h;exact decide_eq_false (by show ¬ 0≤n+0;have:n < 0:=this;omega)
   | cons x y=>cases h
  have e1:∀ k:List Sm,k.any eG=true→(k.all fun q=>decide (0≤q.2+bT q.1 f))=false:=fun k=>by
   induction k with
   | nil=>intro h;cases h
   | cons q r ihr =>
    intro h
    rw [List.any_cons] at h
    rw [List.all_cons]
    cases hq:eG q with
    | true=>rw [e0 q hq];rfl
    | false=>rw [hq] at h;rw [ihr h,Bool.and_false]
  have e2:∀ k:List Sm,k.any eG=false→((k.filter jc).all fun q=>decide (0≤q.2+bT q.1 f))=(k.all fun q=>decide (0≤q.2+bT q.1 f)):=fun k=>by
   induction k with
   | nil=>intro _;rfl
   | cons q r ihr =>
    intro h
    rw [List.any_cons] at h
    have h1:eG q=false:=by cases z:eG q with | false=>rfl | true=>rw [z] at h;cases h
    have h2:r.any eG=false:=by rw [h1] at h;exact h
    obtain ⟨a,n⟩:=q
    cases a with
    | nil =>
     have hn:decide (0≤n+bT [] f)=true:=by
      unfold eG at h1
      have:=of_decide_eq_false (show decide (n < 0)=false from h1)
      exact decide_eq_true (by show 0≤n+0;omega)
     rw [List.all_cons,hn,Bool.true_and,← ihr h2]
     rfl
    | cons x y =>
     have:(((x::y,n)::r).filter jc)=(x::y,n)::r.filter jc:=rfl
     rw [this,List.all_cons,List.all_cons,ihr h2]
  cases hk:k.any eG with
  | true =>
   have:gW (k::cs)=gW cs:=by unfold gW;rw [List.filter_cons_of_neg (by rw [hk];decide)]
   rw [this,ih]
   show g9 f cs=((k.all fun q=>decide (0≤q.2+bT q.1 f)) || g9 f cs)
   rw [e1 k hk,Bool.false_or]
  | false =>
   have:gW (k::cs)=k.filter jc::gW cs:=by unfold gW;rw [List.filter_cons_of_pos (by rw [hk];rfl)];rfl
   rw [this]
   show (((k.filter jc).all fun q=>decide (0≤q.2+bT q.1 f)) || g9 f (gW cs))=((k.all fun q=>decide (0≤q.2+bT q.1 f)) || g9 f cs)
   rw [e2 k hk,ih]
theorem yQ {cs:Cs} {k:List Sm} (h:k∈gW cs):∃ k0∈cs,k=k0.filter jc:=by
 obtain ⟨k0,h0,rfl⟩:=List.mem_map.mp h
 exact ⟨k0,(List.mem_filter.mp h0).1,rfl⟩
theorem Qv {k:List Sm} {q:Sm} (h:q∈k.filter jc):q.1≠[]:=fun e=>by
 have:=(List.mem_filter.mp h).2
 unfold jc at this
 rw [e] at this
 cases this
structure OI (l:List Rw) (s:Oz):Prop where
 run:FE l=some s
 m:s.m=dY l
 ks:∀ x,x∈kP s.S↔x∈gI l
 u:∀ e∈s.S,Canon e.2.1∧∀ p∈e.2.1,p.1∈xZ s.m
 sem:∀ f,(gz f l).2.1=s.m∧(∀ x,x∈keys (gz f l).1↔x∈gI l)∧(∀ x∈gI l,get (gz f l).1 x=Ci s.S f x)∧(gz f l).2.2=g9 f s.A
 len:s.A.length≤oj l
 O7:s.A.length≤64
 oB:∀ k∈s.A,k.length≤16*l.length∧∀ q∈k,q.1≠[]
 sl:s.S.length≤l.length
 ins:∀ k∈s.A,∀ q∈k,∀ p∈q.1,p.1∈xZ s.m
theorem OI.nil:OI [] ⟨[],0,[[]]⟩:=⟨rfl,rfl,(fun x=>Iff.rfl),(fun e h=>nomatch h),(fun f=>⟨rfl,(fun x=>Iff.rfl),(fun x h=>nomatch h),rfl⟩),Nat.le_refl _,(by show 1≤64;decide),(fun k hk=>by rw [List.mem_singleton.mp hk];exact ⟨Nat.zero_le _,fun q h=>nomatch h⟩),Nat.le_refl _,(fun k hk q hq=>by rw [List.mem_singleton.mp hk] at hq;exact nomatch hq)⟩
theorem OI.few {l:List Rw} {s:Oz} (h:OI l s) (hm:dY l≤20):yM s.S:=fun e he=>by
 have:=j7 (h.u e he).1 (h.u e he).2
 rw [nk] at this
 have:=h.m
 omega
theorem OI.IQ {l:List Rw} {s:Oz} (h:OI l s):Aj (xZ s.m) s.S:=fun e he=>(h.u e he).2
theorem Em {l:List Rw} {S:Sb} {x:Str} {q:Ps×Int} {r:Rw} (hr:Te r=some x) (h:∀ y,y∈kP S↔y∈gI l):∀ y,y∈kP (fK S x q)↔y∈gI (l++[r]):=fun y=>by
 rw [MG,eY,hr,List.mem_append,List.mem_singleton,h]
theorem En {l:List Rw} {e:Ps} {x:Str} {n:Int} {r:Rw} (hr:Te r=some x) (h:∀ y,y∈keys e↔y∈gI l):∀ y,y∈keys (put e x n)↔y∈gI (l++[r]):=fun y=>by
 rw [Qt,eY,hr,List.mem_append,List.mem_singleton,h]
theorem Iz {l:List Rw} {S:Sb} {e:Ps} {x:Str} {q:Ps×Int} {n:Int} {f:Str→Int} {r:Rw} (hr:Te r=some x) (h:∀ y∈gI l,get e y=Ci S f y) (hq:n=q.2+bT q.1 f):∀ y∈gI (l++[r]),get (put e x n) y=Ci (fK S x q) f y:=fun y hy=>by
 rw [NN,NX]
 by_cases z:x=y
 ·rw [if_pos z,if_pos z,hq]
 ·rw [if_neg z,if_neg z]
  rw [eY,hr,List.mem_append,List.mem_singleton] at hy
  exact h y (hy.elim id fun e=>absurd e.symm z)
theorem OI.any {l:List Rw} {s:Oz} (h:OI l s) (x:Str):OI (l++[.any x]) ⟨fK s.S x ([(uk s.m,1)],0),s.m+1,s.A⟩:=by
 have hn:oj (l++[.any x])=oj l:=by rw [kL];exact Nat.mul_one _
 refine ⟨by rw [qB,h.run];rfl,by rw [dj,← h.m];rfl,Em rfl h.ks,fun e he=>?_,fun f=>?_,by rw [hn];exact h.len,h.O7,fun k hk=>?_,?_,(fun k hk q hq p hp=>yP (Nat.le_succ _) (h.ins k hk q hq p hp))⟩
 ·rcases qx he with z | z
  ·exact ⟨(h.u e z).1,fun p hp=>yP (Nat.le_succ _) ((h.u e z).2 p hp)⟩
  ·rw [z]
   refine ⟨⟨.cons (fun _ h=>nomatch h) .nil,fun p hp=>by rw [List.mem_singleton.mp hp];show (1:Int)≠0;decide⟩,fun p hp=>?_⟩
   rw [List.mem_singleton.mp hp]
   exact ID (Nat.lt_succ_self _)
 ·obtain ⟨a1,a2,a3,a4⟩:=h.sem f
  rw [zT]
  refine ⟨by show (gz f l).2.1+1=s.m+1;rw [a1],En rfl a2,Iz rfl a3 ?_,a4⟩
  rw [a1]
  show f (uk s.m)=0+(1*f (uk s.m)+0)
  omega
 ·obtain ⟨b1,b2⟩:=h.oB k hk
  rw [List.length_append]
  exact ⟨by show k.length≤16*(l.length+1);omega,b2⟩
 ·have:=qy s.S x ([(uk s.m,1)],0)
  have:=h.sl
  rw [List.length_append]
  show (fK s.S x ([(uk s.m,1)],0)).length≤l.length+1
  omega
theorem OI.lt {l:List Rw} {s:Oz} (h:OI l s) (x:Str) {a us:Ps} {n:Int} (ha:∀ p∈a,p.1∈gI l) (g:p9 (jS s.S a) us):OI (l++[.lt x a n]) ⟨fK s.S x (us,n+gE s.S a),s.m,s.A⟩:=by
 have hn:oj (l++[.lt x a n])=oj l:=by rw [kL];exact Nat.mul_one _
 refine ⟨by rw [qB,h.run];show some _=some _;rw [Pd g],by rw [dj,← h.m];rfl,Em rfl h.ks,fun e he=>?_,fun f=>?_,by rw [hn];exact h.len,h.O7,fun k hk=>?_,?_,h.ins⟩
 ·rcases qx he with z | z
  ·exact h.u e z
  ·rw [z]
   exact ⟨g.1,jL g (jR h.IQ fun p hp=>(h.ks _).mpr (ha p hp))⟩
 ·obtain ⟨a1,a2,a3,a4⟩:=h.sem f
  rw [zT]
  refine ⟨a1,En rfl a2,Iz rfl a3 ?_,a4⟩
  have e1:=u7 s.S f a
  have e2:bT a (get (gz f l).1)=bT a (Ci s.S f):=zI fun p hp=>a3 _ (ha p hp)
  show n+bT a (get (gz f l).1)=n+gE s.S a+bT us f
  rw [g.2,e2,← e1]
  omega
 ·obtain ⟨b1,b2⟩:=h.oB k hk
  rw [List.length_append]
  exact ⟨by show k.length≤16*(l.length+1);omega,b2⟩
 ·have:=qy s.S x (us,n+gE s.S a)
  have:=h.sl
  rw [List.length_append]
  show (fK s.S x (us,n+gE s.S a)).length≤l.length+1
  omega
theorem OI.more {l:List Rw} {s:Oz} (h:OI l s) {d c':Cd} {cs:Cs} (hd:cL (gI l) d) (ok:tN c' cs) (hp:Pt s.S d c') (f:Str→Int):g9 f (bq s.A (gW cs))=((gz f l).2.2 && d.holds (get (gz f l).1)):=by
 obtain ⟨a1,a2,a3,a4⟩:=h.sem f
 rw [wC,EK,ok.met,qA hp,a4,wR (f:=Ci s.S f) (g:=get (gz f l).1) (fun x hx=>(a3 x hx).symm) hd]
theorem vo {A:Cs} {cs:Cs} {n m:Nat} (hA:∀ k∈A,k.length≤n∧∀ q∈k,q.1≠[]) (hc:∀ k∈cs,k.length≤m):∀ k∈bq A (gW cs),k.length≤n+m∧∀ q∈k,q.1≠[]:=fun k hk=>by
 obtain ⟨a,ha,b,hb,rfl⟩:=j8 hk
 obtain ⟨b0,hb0,rfl⟩:=yQ hb
 have h1:=hA a ha
 have h2:=hc b0 hb0
 have h3:(b0.filter jc).length≤b0.length:=List.length_filter_le _ _
 refine ⟨by rw [List.length_append];have:=h1.1;omega,fun q hq=>?_⟩
 rcases List.mem_append.mp hq with z | z
 ·exact h1.2 q z
 ·exact Qv z
theorem Bt {A cs:Cs} {U:List Str} (hA:∀ k∈A,∀ q∈k,∀ p∈q.1,p.1∈U) (hc:∀ k∈cs,∀ q∈k,∀ p∈q.1,p.1∈U):∀ k∈bq A (gW cs),∀ q∈k,∀ p∈q.1,p.1∈U:=fun k hk q hq=>by
 obtain ⟨a,ha,b,hb,rfl⟩:=j8 hk
 obtain ⟨b0,hb0,rfl⟩:=yQ hb
 rcases List.mem_append.mp hq with z | z
 ·exact hA a ha q z
 ·exact hc b0 hb0 q (List.mem_filter.mp z).1
theorem xh {A:Cs} {c:Cd} {cs:Cs} (e:gD c false cs) (h1:c.cN false≤64) (h2:A.length*(gW cs).length≤64):BL A c=some (bq A (gW cs)):=by
 unfold BL
 rw [LG e,if_pos ⟨h1,h2⟩]
theorem sZ {A:Cs} {c:Cd} (h:64 < c.cN false):BL A c=none:=by
 unfold BL
 rw [if_neg fun z=>by have:=z.1;omega]
theorem sY {A:Cs} {c:Cd} {cs:Cs} (e:gD c false cs) (h:64 < A.length*(gW cs).length):BL A c=none:=by
 unfold BL
 rw [LG e,if_neg fun z=>by have:=z.2;omega]
theorem OI.hold {l:List Rw} {s:Oz} (h:OI l s) {c c':Cd} {cs:Cs} (hg:Ge (gI l) c) (lQ:c.dW≤8) (hp:Pt s.S c c') (hi:cL (xZ s.m) c') (hn:c'.cN false=c.cN false) (hl:c'.dW=c.dW) (ok:tN c' cs) (ce:gD c' false cs) (h1:c'.cN false≤64) (h2:s.A.length*(gW cs).length≤64):OI (l++[.hold c]) ⟨s.S,s.m,bq s.A (gW cs)⟩:=by
 have hN:oj (l++[.hold c])=oj l*c.cN false:=by rw [kL];show oj l*(c.cN false*1)=_;rw [Nat.mul_one]
 have hk:gI (l++[.hold c])=gI l:=by rw [eY];exact List.append_nil _
 refine ⟨?_,by rw [dj,← h.m];rfl,by rw [hk];exact h.ks,h.u,fun f=>?_,?_,by rw [dU];exact h2,fun k hk=>?_,by rw [List.length_append];exact Nat.le_succ_of_le h.sl,Bt h.ins (ok.ins _ hi)⟩
 ·rw [qB,h.run]
  show (BL s.A (EC s.S c)).map _=some _
  rw [mF hp,xh ce h1 h2]
  rfl
 ·obtain ⟨a1,a2,a3,a4⟩:=h.sem f
  rw [zT,hk]
  exact ⟨a1,a2,a3,(h.more (Ge.G7 hg) ok hp f).symm⟩
 ·rw [dU,hN,← hn,← ok.len]
  exact Nat.mul_le_mul h.len (nu cs)
 ·have w:=vo (n:=16*l.length) (m:=16) h.oB (fun k hk=>by have:=ok.oB k hk;omega) k hk
  rw [List.length_append]
  exact ⟨by show k.length≤16*(l.length+1);have:=w.1;omega,w.2⟩
def W3 (l:List Rw) (c:Cd) (F:Cs):Prop:=F.length≤64∧(∀ k∈F,k.length≤16*l.length+16∧∀ q∈k,q.1≠[])∧(∀ k∈F,∀ q∈k,∀ p∈q.1,p.1∈xZ (dY l))∧∀ f,g9 f F=((gz f l).2.2 && !c.holds (get (gz f l).1))
def Bf (l:List Rw) (c:Cd):Nat:=c.cN true*oj l
end Hw
namespace Hw
open PySem L2
structure TX (K:PySem.W.Frag) (mg:Str→Option Value) (Db:Addr):Prop where
 cd:Ef K Db
 nd:∀ x∈(["kind","at","ahead","condition"]:List Str),fN K Db x
 mgD:mg "Debt"=some (.ref Db)
def TU (k:Str) (a:Int) (h:V) (c:V):List (Str×V):=gG "condition" c (gG "ahead" h (gG "at" (.int a) (gG "kind" (.str k) [])))
theorem Gz (k:Str) (a:Int) (h c:V):(TU k a h c).lookup ("ahead":Str)=some h:=by
 unfold TU;rw [bu,if_neg (by decide +kernel),bu,if_pos rfl]
theorem LB (k:Str) (a:Int) (h c:V):(TU k a h c).lookup ("condition":Str)=some c:=by
 unfold TU;rw [bu,if_pos rfl]
def lJ (Z:Cz) (Db:Addr) (H:Hp) (p:Addr) (rs:List Rw) (c:Cd):Prop:=∃ dx k a h us v,H p=some (.ins Db dx (TU k a (.ref h) v))∧H h=some (.tup us)∧tH Z H us rs∧bw Z H c v
theorem lJ.aB {Z:Cz} {Db:Addr} {H H':Hp} {p:Addr} {rs:List Rw} {c:Cd} (h:lJ Z Db H p rs c) (k:aD H H'):lJ Z Db H' p rs c :=
 let ⟨dx,k0,a,t,us,v,e,et,r,q⟩:=h;⟨dx,k0,a,t,us,v,k.i _ _ _ _ e,k.t _ _ et,r.aB k,q.aB k⟩
theorem lJ.same {Z:Cz} {Db:Addr} {H H':Hp} {p:Addr} {rs:List Rw} {c:Cd} (h:lJ Z Db H p rs c) (k:az H H'):lJ Z Db H' p rs c:=h.aB (aD.of k)
def cK (H:Hp) (v:V):Rw→Prop
 | .any x=>∃ p,v=.ref p∧H p=some (.tup [.str "any",.str x])
 | .lt x a n=>∃ p q,v=.ref p∧H p=some (.tup [.str "let",.str x,.ref q])∧cD H q a n
 | .hold c=>∃ p q,v=.ref p∧H p=some (.tup [.str "hold",q])∧aW H c q
theorem cK.aB {H H':Hp} {v:V} (k:aD H H'):∀ {r:Rw},cK H v r→cK H' v r
 | .any x,⟨p,e,h⟩=>⟨p,e,k.t _ _ h⟩
 | .lt x a n,⟨p,q,e,h,s⟩=>⟨p,q,e,k.t _ _ h,s.aB k⟩
 | .hold c,⟨p,q,e,h,s⟩=>⟨p,q,e,k.t _ _ h,s.aB k⟩
abbrev iK (H:Hp) (us:List V) (rs:List Rw):Prop:=Paired (cK H) us rs
theorem aS {H H':Hp} {us:List V} {rs:List Rw} (h:iK H us rs) (k:aD H H'):iK H' us rs:=L2.Paired.cF h fun _ _ x=>x.aB k
theorem I0 {xs ys:List Str} (h:∀ x∈xs,x∈ys):∀ {r:Rw},CP xs r→CP ys r
 | .any _,_=>trivial
 | .lt _ a n,g=>⟨g.1,g.2.1,fun p hp=>h _ (g.2.2.1 p hp),g.2.2.2⟩
 | .hold c,g=>⟨g.1.mono h,g.2⟩
theorem lV.snoc {l:List Rw} {r:Rw} (h:lV l) (g:CP (gI l) r):lV (l++[r]):=fun i x hi=>by
 by_cases e:i < l.length
 ·rw [List.getElem?_append_left e] at hi
  rw [List.take_append_of_le_length (Nat.le_of_lt e)]
  exact h i x hi
 ·have il:=(List.getElem?_eq_some_iff.mp hi).1
  rw [List.length_append] at il
  have il:i < l.length+1:=il
  have e2:i=l.length:=by omega
  subst e2
  rw [List.getElem?_append_right (Nat.le_refl _),Nat.sub_self] at hi
  rw [List.take_append_of_le_length (Nat.le_refl _),List.take_length,← Option.some.inj hi]
  exact g
theorem lV.nil:lV []:=fun i r h=>by simp at h
theorem lV.behind {x:Str}:∀ {n:Nat} {l:List Rw},lV l→lV (List.replicate n (.any x)++l)
 | 0,l,h=>h
 | n+1,l,h=>fun i r hi=>by
  have ih:=lV.behind (x:=x) (n:=n) h
  cases i with
  | zero =>
   have e:Rw.any x=r:=Option.some.inj hi
   rw [← e]
   trivial
  | succ j =>
   have hj:(List.replicate n (Rw.any x)++l)[j]?=some r:=hi
   refine I0 (fun y hy=>?_) (ih j r hj)
   show y∈gI (Rw.any x::(List.replicate n (Rw.any x)++l).take j)
   exact List.mem_cons_of_mem _ hy
theorem Dp {x:Str} {n:Nat} {l:List Rw}:∀ y∈gI l,y∈gI (List.replicate n (.any x)++l):=fun y hy=>by
 unfold gI at hy ⊢
 rw [List.filterMap_append,List.mem_append]
 exact .inr hy
def CJ (C:Addr):Sp:=fun vs H Q _=>∃ x:Str,vs=[.str x]∧∀ (r:Addr) (H':Hp),az H H'→cB C H' r [(x,1)] 0→Q (.ref r) H'
def IK:Sp:=fun vs H Q _=>∃ n0:Nat,vs=[.int (n0:Int)]∧n0 < 20∧Q (.str (uk n0)) H
theorem IC:∀ j:Fin 20,((j.1:Int).natAbs.log2) < 1920:=by decide +kernel
theorem OV:∀ j:Fin 20,("?":Str).length+(Str.ofString (toString (j.1:Int))).length≤1000:=by decide +kernel
def oE (C:Addr):Sp:=fun vs H Q _=>∃ (t:Addr) (us:List V) (ss:List Sm),vs=[.ref t]∧H t=some (.tup us)∧PL C H us ss∧us.length≤20∧∀ H',az H H'→Q (.bl (ss.any eG)) H'
def rG (C:Addr):Sp:=fun vs H Q _=>∃ (t:Addr) (us:List V) (ss:List Sm),vs=[.ref t]∧H t=some (.tup us)∧PL C H us ss∧us.length≤20∧∀ (r:Addr) (ws:List V) (H':Hp),az H H'→H' r=some (.tup ws)→PL C H' ws (ss.filter jc)→Q (.ref r) H'
def IL (Db:Addr):Sp:=fun vs H Q _=>∃ (p dx:Addr) (k:Str) (a:Int) (h c:V),vs=[.ref p,.str k,.int a,h,c]∧H p=some (.ins Db dx [])∧∀ H',bQ p H H'→H' p=some (.ins Db dx (TU k a h c))→Q .fL H'
def yU (Z:Cz) (TM:Addr):Sp:=fun vs H Q E=>∃ (o p:Addr) (A:Cs) (c:Cd),vs=[.ref o,.ref p]∧dX Z H o A∧A.length≤64∧(∀ k∈A,k.length≤900)∧bw Z H c (.ref p)∧c.dep≤3∧c.ok∧c.iT∧c.full∧c.dW≤8 ∧
 (∀ (r:Addr) (cs:Cs) (H':Hp),c.cN false≤64→tN c cs→gD c false cs→A.length*(gW cs).length≤64→az H H'→H r=none→dX Z H' r (bq A (gW cs))→Q (.ref r) H') ∧
 (∀ H',64 < c.cN false→az H H'→E (.ref TM) none H')∧(∀ (cs:Cs) (H':Hp),tN c cs→gD c false cs→64 < A.length*(gW cs).length→az H H'→E (.ref TM) none H')
def uT (Z:Cz) (Db TM:Addr):Sp:=fun vs H Q E=>∃ (p:Addr) (rs:List Rw) (c:Cd),vs=[.ref p]∧lJ Z Db H p rs c∧lV rs∧rs.length≤30∧dY rs≤19∧CP (gI rs) (.hold c) ∧
 (∀ (F:Cs),ED rs c=some F→W3 rs c F→∀ (r:Addr) (H':Hp),az H H'→H r=none→dX Z H' r F→Q (.ref r) H')∧(ED rs c=none→64 < Bf rs c→∀ H',az H H'→E (.ref TM) none H')
def rH:Sp:=fun vs H Q _=>∃ (d l:Addr) (xs:List Str),vs=[.ref d,.ref l]∧Dr H d∧H l=some (.lst (xs.map V.str))∧xs.length≤100∧(∀ x∈xs,x.length≤100) ∧
 ∀ (r:Addr) (ts:Ps) (n:Int) (H':Hp),bQ d H H'→Dr H' d→cD H' r ts n→Canon ts→TZ ts→(∀ p∈ts,p.1∈xs)→Small n→Q (.ref r) H'
def kj (n:Nat):Sp:=fun vs H Q _=>∃ (d l:Addr) (k:Nat) (xs:List Str),vs=[.ref d,.ref l,.int k]∧k < n∧Dr H d∧H l=some (.lst (xs.map V.str))∧xs.length≤100∧(∀ x∈xs,x.length≤100) ∧
 ∀ (v:V) (c:Cd) (H':Hp),bQ d H H'→Dr H' d→aW H' c v→c.dep≤k+1→Gd xs c→c.full→c.dW≤FY k→Q v H'
theorem Qo:∀ vs H Q E,¬ kj 0 vs H Q E:=fun _ _ _ _ ⟨_,_,_,_,_,h,_⟩=>absurd h (by omega)
def vE:Sp:=fun vs H Q _=>∃ (d l:Addr) (xs:List Str),vs=[.ref d,.ref l]∧Dr H d∧H l=some (.lst (xs.map V.str))∧1≤xs.length∧xs.length≤90∧(∀ x∈xs,x.length≤100) ∧
 ∀ (r rw kn:Addr) (us:List V) (rs:List Rw) (ks:List Str) (H':Hp),bQ d H H'→Dr H' d→H r=none→H' r=some (.tup [.ref rw,.ref kn])→H rw=none→H kn=none→H' rw=some (.lst us)→iK H' us rs→lV rs→rs.length≤7→H' kn=some (.lst (ks.map V.str))→1≤ks.length→ks.length≤7→(∀ x∈ks,x∈gI rs∧x.length≤100)→Q (.ref r) H'
def yZ (Z:Cz) (Db:Addr):Sp:=fun vs H Q _=>∃ (a:Addr) (us:List V) (rs:List Rw) (v:V) (c:Cd),vs=[.ref a,v]∧H a=some (.lst us)∧iK H us rs∧lV rs∧rs.length≤30∧aW H c v∧CP (gI rs) (.hold c) ∧
 ∀ (r:Addr) (H':Hp),az H H'→H r=none→lJ Z Db H' r rs c→Q (.ref r) H'
end Hw
namespace Hw
open PySem L2
theorem qe (l:Cs) (k:List Sm):gW (l++[k])=gW l++(if k.any eG=true then [] else [k.filter jc]):=by
 unfold gW
 rw [List.filter_append,List.map_append]
 congr 1
 cases h:k.any eG with
 | true=>rw [List.filter_cons_of_neg (by rw [h];decide)];rfl
 | false=>rw [List.filter_cons_of_pos (by rw [h];rfl)];rfl
theorem OI.fin {l:List Rw} {s:Oz} (h:OI l s) {c c':Cd} {cs:Cs} (hr:lV l) (hc:CP (gI l) (.hold c)) (hp:Pt s.S c.cY c') (hi:cL (xZ s.m) c') (hl:c'.dW=c.cY.dW) (ok:tN c' cs) (ce:gD c' false cs) (h1:c'.cN false≤64) (h2:s.A.length*(gW cs).length≤64):ED l c=some (bq s.A (gW cs))∧W3 l c (bq s.A (gW cs)):=by
 have hok:c.ok:=Ge.ok hc.1
 obtain ⟨a1,a2,a3,a4,a5,a6⟩:=kG hok (Ge.iT hc.1) hc.2.1
 refine ⟨?_,by rw [dU];exact h2,fun k hk=>?_,?_,fun f=>?_⟩
 ·unfold ED
  rw [h.run]
  show BL s.A (EC s.S c.cY)=_
  rw [mF hp,xh ce h1 h2]
 ·have w:=vo (n:=16*l.length) (m:=16) h.oB (fun k hk=>by have:=ok.oB k hk;have:=hc.2.2.2;omega) k hk
  exact w
 ·rw [← h.m]
  exact Bt h.ins (ok.ins _ hi)
 ·rw [h.more (a6 _ (Ge.G7 hc.1)) ok hp f,rW _ hok]
theorem OI.raise {l:List Rw} {s:Oz} {i:Nat} {d c:Cd} (h:OI (l.take i) s) (hr:lV l) (hc:CP (gI l) (.hold c)) (hi:l[i]?=some (.hold d)) (hb:64 < d.cN false∨64 < s.A.length*d.cN false):64 < Bf l c:=by
 have n1:=QX hr hi
 have n2:=kK true hc.2.1
 have n3:=h.len
 have n4:64 < oj l:=by
  rcases hb with z | z
  ·have:=Nat.le_mul_of_pos_left (d.cN false) n1.2
   omega
  ·have:=Nat.mul_le_mul_right (d.cN false) n3
   omega
 unfold Bf
 have:=Nat.le_mul_of_pos_left (oj l) n2
 omega
theorem OI.I9 {l:List Rw} {s:Oz} {c:Cd} (h:OI l s) (hr:lV l) (hc:CP (gI l) (.hold c)) (hb:64 < c.cN true∨64 < s.A.length*c.cN true):64 < Bf l c:=by
 have n2:=kK true hc.2.1
 have n3:=h.len
 have n5:=zC hr.full
 unfold Bf
 rcases hb with z | z
 ·have:=Nat.le_mul_of_pos_right (c.cN true) n5
  omega
 ·have:=Nat.mul_le_mul_right (c.cN true) n3
  rw [Nat.mul_comm] at this
  rw [Nat.mul_comm (oj l)] at this
  rw [Nat.mul_comm] at z
  omega
theorem yg {l:List Rw} {s:Oz} {c:Cd} (h:FE l=some s) (n:BL s.A (EC s.S c.cY)=none):ED l c=none:=by
 unfold ED
 rw [h]
 exact n
end Hw
namespace Hw
open PySem L2
mutual
theorem JI:∀ {c:Cd},c.l3→c.cY.l3
 | .cmp a n s b m,h=>by unfold Cd.cY;unfold Cd.l3 at h ⊢;exact h
 | .neg c,h=>by unfold Cd.cY;unfold Cd.l3 at h;exact h
 | .con k cs,h=>by unfold Cd.cY;unfold Cd.l3 at h ⊢;exact EF h
theorem EF:∀ {cs:List Cd},Kq cs→Kq (dH cs)
 | [],_=>by unfold dH;unfold Kq;trivial
 | c::cs,h=>by unfold dH;unfold Kq at h ⊢;exact ⟨JI h.1,EF h.2⟩
end
end Hw
namespace Hw
open PySem L2
end Hw
namespace Hw
open PySem L2
theorem bQ.was {d p:Addr} {H H':Hp} (b:bQ d H H') (D:Dr H' d) (h:H' p=none):H p=none:=by
 cases hp:H p with
 | none=>rfl
 | some o =>
  by_cases e:p=d
  ·obtain ⟨x,y,q⟩:=D
   rw [e,q] at h
   cases h
  ·rw [b _ _ hp e] at h
   cases h
def lU (ks:List Str) (x:Str):List Str:=if x∈ks then ks else ks++[x]
theorem qZ (ks:List Str) (x:Str):(lU ks x).length≤ks.length+1:=by
 unfold lU
 by_cases h:x∈ks
 ·rw [if_pos h];omega
 ·rw [if_neg h,List.length_append];exact Nat.le_refl _
theorem qY (ks:List Str) (x:Str):1≤(lU ks x).length:=by
 unfold lU
 by_cases h:x∈ks
 ·rw [if_pos h];exact List.length_pos_of_mem h
 ·rw [if_neg h,List.length_append];exact Nat.le_add_left _ _
theorem iw {ks:List Str} {x y:Str} (h:y∈lU ks x):y∈ks∨y=x:=by
 unfold lU at h
 by_cases z:x∈ks
 ·rw [if_pos z] at h;exact .inl h
 ·rw [if_neg z,List.mem_append,List.mem_singleton] at h;exact h
end Hw
namespace Hw
open PySem L2
def Xa (xs:List Str) (a:Ps) (n:Int):Prop:=Canon a∧(a.length≤20∧True)∧(∀ p∈a,p.1∈xs)∧True
mutual
def Gh (xs:List Str):Cd→Prop
 | .cmp a n s b m=>Xa xs a n∧s∈signs∧Xa xs b m
 | .neg c=>Gh xs c
 | .con _ cs=>cs.length≤8∧uy xs cs
def uy (xs:List Str):List Cd→Prop
 | []=>True
 | c::cs=>Gh xs c∧uy xs cs
end
theorem qO {xs:List Str} {c:Cd}:∀ {cs:List Cd},uy xs cs→c∈cs→Gh xs c
 | a::r,h,m=>by
  unfold uy at h
  rcases List.mem_cons.mp m with e | e
  ·rw [e];exact h.1
  ·exact qO h.2 e
mutual
theorem Gh.ok {xs:List Str}:∀ {c:Cd},Gh xs c→c.ok
 | .cmp a n s b m,h=>by unfold Gh at h;unfold Cd.ok;exact h.2.1
 | .neg c,h=>by unfold Gh at h;unfold Cd.ok;exact Gh.ok h
 | .con k cs,h=>by unfold Gh at h;unfold Cd.ok;exact uy.ok h.2
theorem uy.ok {xs:List Str}:∀ {cs:List Cd},uy xs cs→oi cs
 | [],_=>by unfold oi;trivial
 | c::cs,h=>by unfold uy at h;unfold oi;exact ⟨Gh.ok h.1,uy.ok h.2⟩
end
mutual
theorem Gh.iT {xs:List Str}:∀ {c:Cd},Gh xs c→c.iT
 | .cmp a n s b m,h=>by unfold Gh at h;unfold Cd.iT;exact ⟨h.1.2.1.1,h.2.2.2.1.1⟩
 | .neg c,h=>by unfold Gh at h;unfold Cd.iT;exact Gh.iT h
 | .con k cs,h=>by unfold Gh at h;unfold Cd.iT;exact uy.iT h.2
theorem uy.iT {xs:List Str}:∀ {cs:List Cd},uy xs cs→mS cs
 | [],_=>by unfold mS;trivial
 | c::cs,h=>by unfold uy at h;unfold mS;exact ⟨Gh.iT h.1,uy.iT h.2⟩
end
theorem QF {s:Str} (h:s∈signs):g7 s∈signs:=by
 simp only [signs,List.mem_cons,List.not_mem_nil,or_false] at h
 rcases h with e | e | e | e | e | e <;> subst e <;> decide +kernel
mutual
theorem Gh.cY {xs:List Str}:∀ {c:Cd},Gh xs c→Gh xs c.cY
 | .cmp a n s b m,h=>by unfold Cd.cY;unfold Gh at h ⊢;exact ⟨h.1,QF h.2.1,h.2.2⟩
 | .neg c,h=>by unfold Cd.cY;unfold Gh at h;exact h
 | .con k cs,h=>by unfold Cd.cY;unfold Gh at h ⊢;exact ⟨by rw [dP,List.length_map];exact h.1,uy.cY h.2⟩
theorem uy.cY {xs:List Str}:∀ {cs:List Cd},uy xs cs→uy xs (dH cs)
 | [],_=>by unfold dH;unfold uy;trivial
 | c::cs,h=>by unfold dH;unfold uy at h ⊢;exact ⟨Gh.cY h.1,uy.cY h.2⟩
end
mutual
theorem Jg {ys U:List Str} {S:Sb} (hU:U.length≤20) (hS:Aj U S):∀ {c d:Cd},Ge ys c→cL (kP S) c→Pt S c d→Gh U d
 | .cmp a n s b m,d,g,h,p=>by
  unfold Pt at p
  unfold cL at h
  unfold Ge at g
  obtain ⟨a1,b1,rfl,x1,y1⟩:=p
  have i1:=jL x1 (jR hS h.1)
  have i2:=jL y1 (jR hS h.2)
  have l1:=j7 x1.1 i1
  have l2:=j7 y1.1 i2
  unfold Gh
  exact ⟨⟨x1.1,⟨by omega,trivial⟩,i1,trivial⟩,g.2.1,⟨y1.1,⟨by omega,trivial⟩,i2,trivial⟩⟩
 | .neg c,d,g,h,p=>by
  unfold Pt at p
  unfold cL at h
  unfold Ge at g
  obtain ⟨d1,rfl,x1⟩:=p
  unfold Gh
  exact Jg hU hS g h x1
 | .con k cs,d,g,h,p=>by
  unfold Pt at p
  unfold cL at h
  unfold Ge at g
  obtain ⟨ds,rfl,x1⟩:=p
  have l:=ak (bH.mp x1)
  have gl:=g.1
  unfold Gh
  exact ⟨by omega,Jd hU hS g.2 h x1⟩
theorem Jd {ys U:List Str} {S:Sb} (hU:U.length≤20) (hS:Aj U S):∀ {cs ds:List Cd},jr ys cs→cJ (kP S) cs→nc S cs ds→uy U ds
 | [],ds,g,h,p=>by
  unfold nc at p
  subst p
  unfold uy
  trivial
 | c::cs,ds,g,h,p=>by
  unfold nc at p
  unfold cJ at h
  unfold jr at g
  obtain ⟨d,r,rfl,x1,y1⟩:=p
  unfold uy
  exact ⟨Jg hU hS g.1 h.1 x1,Jd hU hS g.2 h.2 y1⟩
end
mutual
theorem Je {S:Sb}:∀ {c d:Cd},Pt S c d→Pt S c.cY d.cY
 | .cmp a n s b m,d,p=>by
  unfold Pt at p
  obtain ⟨a1,b1,rfl,x1,y1⟩:=p
  unfold Cd.cY Pt
  exact ⟨a1,b1,rfl,x1,y1⟩
 | .neg c,d,p=>by
  unfold Pt at p
  obtain ⟨d1,rfl,x1⟩:=p
  unfold Cd.cY
  exact x1
 | .con k cs,d,p=>by
  unfold Pt at p
  obtain ⟨ds,rfl,x1⟩:=p
  unfold Cd.cY Pt
  exact ⟨_,rfl,EB x1⟩
theorem EB {S:Sb}:∀ {cs ds:List Cd},nc S cs ds→nc S (dH cs) (dH ds)
 | [],ds,p=>by
  unfold nc at p
  subst p
  unfold dH nc
  rfl
 | c::cs,ds,p=>by
  unfold nc at p
  obtain ⟨d,r,rfl,x1,y1⟩:=p
  unfold dH nc
  exact ⟨_,_,rfl,Je x1,EB y1⟩
end
noncomputable def Px (s:Sb×Nat×List Cd):Rw→Sb×Nat×List Cd
 | .any x=>(fK s.1 x ([(uk s.2.1,1)],0),s.2.1+1,s.2.2)
 | .lt x a n=>(fK s.1 x (gt (jS s.1 a),n+gE s.1 a),s.2.1,s.2.2)
 | .hold c=>(s.1,s.2.1,s.2.2++[EC s.1 c])
noncomputable def dR (l:List Rw):Sb×Nat×List Cd:=l.foldl Px ([],0,[])
theorem Ab (l:List Rw) (r:Rw):dR (l++[r])=Px (dR l) r:=by
 unfold dR
 rw [List.foldl_append]
 rfl
noncomputable def uK (l:List Cd):Option Cs:=l.foldl (fun o c=>o.bind fun A=>BL A c) (some [[]])
theorem mY (l:List Cd) (c:Cd):uK (l++[c])=(uK l).bind fun A=>BL A c:=by
 unfold uK
 rw [List.foldl_append]
 rfl
theorem zu:∀ (l:List Rw) (s:Sb×Nat×List Cd),MQ ((uK s.2.2).map fun A=>⟨s.1,s.2.1,A⟩) l=(uK (l.foldl Px s).2.2).map fun A=>⟨(l.foldl Px s).1,(l.foldl Px s).2.1,A⟩
 | [],s=>rfl
 | .any x::l,s=>by
  have ih:=zu l (Px s (.any x))
  rw [List.foldl_cons,← ih]
  unfold MQ
  rw [List.foldl_cons]
  congr 1
  show (Option.map _ (uK s.2.2)).bind _=Option.map _ (uK s.2.2)
  cases uK s.2.2 <;> rfl
 | .lt x a n::l,s=>by
  have ih:=zu l (Px s (.lt x a n))
  rw [List.foldl_cons,← ih]
  unfold MQ
  rw [List.foldl_cons]
  congr 1
  show (Option.map _ (uK s.2.2)).bind _=Option.map _ (uK s.2.2)
  cases uK s.2.2 <;> rfl
 | .hold c::l,s=>by
  have ih:=zu l (Px s (.hold c))
  rw [List.foldl_cons,← ih]
  unfold MQ
  rw [List.foldl_cons]
  congr 1
  show (Option.map _ (uK s.2.2)).bind _=Option.map _ (uK (s.2.2++[EC s.1 c]))
  rw [mY]
  cases uK s.2.2 with
  | none=>rfl
  | some A=>rfl
theorem QD (l:List Rw) (c:Cd):ED l c=uK ((dR l).2.2++[EC (dR l).1 c.cY]):=by
 have h:=zu l ([],0,[])
 have e:FE l=(uK (dR l).2.2).map fun A=>⟨(dR l).1,(dR l).2.1,A⟩:=h
 unfold ED
 rw [e,mY]
 cases uK (dR l).2.2 <;> rfl
theorem BN {l:List Cd} {i:Nat} (h:uK (l.take i)=none):uK l=none:=by
 have:∀ (r:List Cd),r.foldl (fun o c=>o.bind fun A=>BL A c) (none:Option Cs)=none:=fun r=>by
  induction r with
  | nil=>rfl
  | cons a b ih=>exact ih
 have e:uK l=(l.drop i).foldl (fun o c=>o.bind fun A=>BL A c) (uK (l.take i)):=by
  unfold uK
  rw [← List.foldl_append,List.take_append_drop]
 rw [e,h,this]
structure OJ (l:List Rw) (S:Sb) (m:Nat):Prop where
 em:m=dY l
 ks:∀ x,x∈kP S↔x∈gI l
 u:∀ e∈S,Canon e.2.1∧∀ p∈e.2.1,p.1∈xZ m
 sl:S.length≤l.length
theorem OJ.nil:OJ [] [] 0:=⟨rfl,(fun x=>Iff.rfl),(fun e h=>nomatch h),Nat.le_refl _⟩
theorem OJ.few {l:List Rw} {S:Sb} {m:Nat} (h:OJ l S m) (hm:dY l≤20):yM S:=fun e he=>by
 have:=j7 (h.u e he).1 (h.u e he).2
 rw [nk] at this
 have:=h.em
 omega
theorem OJ.IQ {l:List Rw} {S:Sb} {m:Nat} (h:OJ l S m):Aj (xZ m) S:=fun e he=>(h.u e he).2
theorem OJ.any {l:List Rw} {S:Sb} {m:Nat} (h:OJ l S m) (x:Str):OJ (l++[.any x]) (fK S x ([(uk m,1)],0)) (m+1):=by
 refine ⟨by rw [dj,← h.em];rfl,Em rfl h.ks,fun e he=>?_,?_⟩
 ·rcases qx he with z | z
  ·exact ⟨(h.u e z).1,fun p hp=>yP (Nat.le_succ _) ((h.u e z).2 p hp)⟩
  ·rw [z]
   refine ⟨⟨.cons (fun _ h=>nomatch h) .nil,fun p hp=>by rw [List.mem_singleton.mp hp];show (1:Int)≠0;decide⟩,fun p hp=>?_⟩
   rw [List.mem_singleton.mp hp]
   exact ID (Nat.lt_succ_self _)
 ·have:=qy S x ([(uk m,1)],0)
  have:=h.sl
  rw [List.length_append]
  show (fK S x ([(uk m,1)],0)).length≤l.length+1
  omega
theorem OJ.lt {l:List Rw} {S:Sb} {m:Nat} (h:OJ l S m) (x:Str) {a us:Ps} {n k:Int} (ha:∀ p∈a,p.1∈gI l) (g:p9 (jS S a) us):OJ (l++[.lt x a n]) (fK S x (us,k)) m:=by
 refine ⟨by rw [dj,← h.em];rfl,Em rfl h.ks,fun e he=>?_,?_⟩
 ·rcases qx he with z | z
  ·exact h.u e z
  ·rw [z]
   exact ⟨g.1,jL g (jR h.IQ fun p hp=>(h.ks _).mpr (ha p hp))⟩
 ·have:=qy S x (us,k)
  have:=h.sl
  rw [List.length_append]
  show (fK S x (us,k)).length≤l.length+1
  omega
theorem OJ.hold {l:List Rw} {S:Sb} {m:Nat} (h:OJ l S m) (c:Cd):OJ (l++[.hold c]) S m:=by
 have hk:gI (l++[.hold c])=gI l:=by rw [eY];exact List.append_nil _
 exact ⟨by rw [dj,← h.em];rfl,by rw [hk];exact h.ks,h.u,by rw [List.length_append];exact Nat.le_succ_of_le h.sl⟩
def mh (n:Nat):Sp:=fun vs H Q _=>∃ (v:V) (c:Cd) (xs:List Str),vs=[v]∧aW H c v∧c.dep≤n∧Gh xs c∧∀ (v':V) (H':Hp),az H H'→aW H' c.cY v'→Q v' H'
theorem Vc:∀ vs H Q E,¬ mh 0 vs H Q E:=fun _ _ _ _ ⟨_,_,_,_,_,d,_⟩=>DF d
def ju:Sp:=fun vs H Q _=>∃ (v:V) (a b:Ps) (n m:Int) (s:Str) (xs:List Str),vs=[v]∧aW H (.cmp a n s b m) v∧Gh xs (.cmp a n s b m) ∧
 ∀ (l:Addr) (cs:Cs) (H':Hp),az H H'→lG H' l cs→gD (.cmp a n s b m) false cs→Q (.ref l) H'
def jT (n:Nat):Sp:=fun vs H Q _=>∃ (v:V) (c:Cd) (xs:List Str),vs=[v]∧aW H c v∧c.dep≤n∧Gh xs c∧c.full∧c.dW≤100 ∧
 (c.cN false≤64→∀ (l:Addr) (cs:Cs) (H':Hp),az H H'→lG H' l cs→gD c false cs→Q (.ref l) H')∧(64 < c.cN false→∀ H',az H H'→Q .fL H')
theorem NL:∀ vs H Q E,¬ jT 0 vs H Q E:=fun _ _ _ _ ⟨_,_,_,_,_,d,_⟩=>DF d
def AD:Sp:=fun vs H Q _=>∃ (p d:Addr) (ts:Ps) (n:Int) (kvs:List (Key×V)) (S:Sb),vs=[.ref p,.ref d]∧cD H p ts n∧Rd H d (.dK kvs)∧Rl (LY H) kvs S∧TZ ts∧(∀ p∈ts,p.1∈kP S)∧yM S ∧
 ∀ (r:Addr) (us:Ps) (H':Hp),az H H'→p9 (jS S ts) us→cD H' r us (n+gE S ts)→Q (.ref r) H'
def rJ (n:Nat):Sp:=fun vs H Q _=>∃ (v:V) (d:Addr) (c:Cd) (xs:List Str) (kvs:List (Key×V)) (S:Sb),vs=[v,.ref d]∧aW H c v∧c.dep≤n∧Ge xs c∧cL (kP S) c∧Rd H d (.dK kvs)∧Rl (LY H) kvs S∧yM S ∧
 ∀ (v':V) (c':Cd) (H':Hp),az H H'→Pt S c c'→aW H' c' v'→Q v' H'
theorem UH:∀ vs H Q E,¬ rJ 0 vs H Q E:=fun _ _ _ _ ⟨_,_,_,_,_,_,_,_,d,_⟩=>DF d
def CG:Sp:=fun vs H Q _=>∃ (v:V) (k:List Sm),vs=[v]∧iL H v k∧k.length≤900 ∧
 (k.any eG=false→∀ (v':V) (H':Hp),az H H'→iL H' v' (k.filter jc)→Q v' H')∧(k.any eG=true→∀ H',az H H'→Q .fL H')
def IJ:Sp:=fun vs H Q _=>∃ (d l:Addr) (xs:List Str),vs=[.ref d,.ref l]∧Dr H d∧H l=some (.lst (xs.map V.str))∧1≤xs.length∧xs.length≤90∧(∀ x∈xs,x.length≤100) ∧
 ∀ (v:V) (c:Cd) (H':Hp),bQ d H H'→Dr H' d→aW H' c v→c.dep≤1→Ge xs c→c.full→c.dW≤1→Q v H'
def yV:Sp:=fun vs H Q _=>∃ (d l:Addr) (xs:List Str),vs=[.ref d,.ref l]∧Dr H d∧H l=some (.lst (xs.map V.str))∧1≤xs.length∧xs.length≤90∧(∀ x∈xs,x.length≤100) ∧
 ∀ (r:Addr) (us:List V) (cs:List Cd) (H':Hp),bQ d H H'→Dr H' d→H r=none→H' r=some (.lst us)→iK H' us (cs.map .hold)→cs.length≤5→(∀ c∈cs,Ge xs c∧c.full∧c.dep≤3∧c.dW≤8)→Q (.ref r) H'
def yY:Sp:=fun vs H Q _=>∃ (a:Addr) (us:List V) (rs:List Rw) (v:V) (c:Cd),vs=[.ref a,v]∧H a=some (.lst us)∧iK H us rs∧lV rs∧rs.length≤30∧dY rs≤19∧aW H c v∧CP (gI rs) (.hold c) ∧
 (∀ F,ED rs c=some F→∀ (r:Addr) (H':Hp),az H H'→lG H' r F→Q (.ref r) H')∧(ED rs c=none→∀ H',az H H'→Q .fL H')
def CH (Z:Cz) (Db:Addr):Sp:=fun vs H Q _=>∃ (p:Addr) (rs:List Rw) (c:Cd),vs=[.ref p]∧lJ Z Db H p rs c∧lV rs∧rs.length≤30∧dY rs≤19∧CP (gI rs) (.hold c)∧ED rs c=none∧∀ H',az H H'→Q (.bl true) H'
end Hw
namespace L2
open PySem PySem.Spec PyProof.Rows
section
variable {X:Cx}
def Ez (K:PySem.W.Frag):R2:=fun x y H Q=>∃ a b xs,x=.ref a∧y=.ref b∧aX K H a xs∧aX K H b []∧Q (.bl (!decide (xs=[]))) H
theorem FF (hu:X.A.units < cLine):ow X (compareOp .NotEq) (Ez X.K):=by
 intro pins s σ H x y v u Q I rx ry h
 obtain ⟨a,b,xs,rfl,rfl,ha,hb,q⟩:=h
 cases rx
 cases ry
 obtain ⟨us,r1,p1,_⟩:=I.tuple ha
 obtain ⟨vs,r2,p2,_⟩:=I.tuple hb
 cases r2
 have l1:=r1.length
 have e:(!((List.range (min us.toArray.size ([]:List Value).toArray.size)).all (fun _=>true) && us.toArray.size == ([]:List Value).toArray.size))=(!decide (xs=[])):=by
  congr 1
  rw [tG,Bool.true_and]
  by_cases hx:xs=[]
  ·subst hx
   cases r1
   simp
  ·rw [decide_eq_false hx]
   have:us≠[]:=fun z=>hx (by rw [z] at l1;exact List.length_eq_zero_iff.mp l1)
   cases us with
   | nil=>exact absurd rfl this
   | cons _ _=>simp
 refine SeqAt.RcNeAt.tuples (A:=X.A) (e:=fun _=>true) (show s.heap.IsTuple a us.toArray from p1) (show s.heap.IsTuple b ([]:List Value).toArray from p2) hu (fun j h1 h2=>absurd h2 (by simp)) _ _ _ _ ?_
 rw [e]
 exact ⟨.bl _,H,I,rfl,q⟩
theorem C0 {K:PySem.W.Frag} (h:X.K=K) (hu:X.A.units < cLine):ow X (compareOp .NotEq) (Ez K):=h ▸ FF hu
theorem FH {K:PySem.W.Frag} (h:X.K=K) (hu:X.A.units < cLine):ow X (compareOp .Eq) (Jb K):=h ▸ JJ hu
end
end L2
namespace Hw
open PySem L2
theorem yR (A B:Cs):gW (A++B)=gW A++gW B:=by
 unfold gW
 rw [List.filter_append,List.map_append]
theorem Ep {a:List Sm} (ha:∀ q∈a,q.1≠[]):∀ cs:Cs,gW (cs.map (a++·))=(gW cs).map (a++·)
 | []=>rfl
 | b::cs=>by
  have n1:a.any eG=false:=by
   rw [List.any_eq_false]
   intro q hq z
   unfold eG at z
   rw [Bool.and_eq_true,List.isEmpty_iff] at z
   exact ha q hq z.1
  have f1:a.filter jc=a:=by
   rw [List.filter_eq_self]
   intro q hq
   unfold jc
   cases h:q.1 with
   | nil=>exact absurd h (ha q hq)
   | cons x y=>rfl
  have ih:=Ep ha cs
  have e1:gW ((b::cs).map (a++·))=gW [a++b]++gW (cs.map (a++·)):=yR [a++b] _
  have e2:gW (b::cs)=gW [b]++gW cs:=yR [b] cs
  rw [e1,e2,ih,List.map_append]
  congr 1
  have e3:=qe [] (a++b)
  have e4:=qe [] b
  rw [List.nil_append] at e3 e4
  rw [e3,e4,List.any_append,n1,Bool.false_or,List.filter_append,f1]
  cases b.any eG <;> rfl
theorem Az:∀ {A:Cs} (cs:Cs),(∀ k∈A,∀ q∈k,q.1≠[])→gW (bq A cs)=bq A (gW cs)
 | [],cs,_=>rfl
 | a::A,cs,h=>by
  have ih:=Az (A:=A) cs fun k hk=>h k (List.mem_cons_of_mem _ hk)
  have e1:bq (a::A) cs=cs.map (a++·)++bq A cs:=rfl
  have e2:bq (a::A) (gW cs)=(gW cs).map (a++·)++bq A (gW cs):=rfl
  rw [e1,e2,yR,ih,Ep (h a (List.mem_cons_self ..))]
def W0 (H:Hp) (v:V) (k:List Sm):Prop:=(k.any eG=true∧v=.fL)∨(k.any eG=false∧iL H v (k.filter jc))
theorem W0.aB {H H':Hp} {v:V} {k:List Sm} (h:W0 H v k) (s:aD H H'):W0 H' v k:=h.imp id fun z=>⟨z.1,z.2.aB s⟩
structure T5 (c:Cd):Prop where
 gh:Gh (xZ 19) c
 fu:c.full
 dp:c.dep≤3
 lv:c.dW≤8
theorem LH {l:List Rw} {S:Sb} {m:Nat} {c c':Cd} (J:OJ l S m) (hm:m≤19) (hg:Ge (gI l) c) (hf:c.full) (hd:c.dep≤3) (hl:c.dW≤8) (p:Pt S c c'):T5 c':=by
 have hin:cL (kP S) c:=gU (fun x hx=>(J.ks x).mpr hx) (Ge.G7 hg)
 have sb:Aj (xZ 19) S:=fun e he p hp=>yP hm ((J.u e he).2 p hp)
 obtain ⟨b1,b2,b3,b4,b5,b6,b7⟩:=mE (U:=xZ 19) (by rw [nk];decide) sb hin (Ge.ok hg) hf p
 exact ⟨Jg (by rw [nk];decide) sb hg hin p,b3,by omega,by omega⟩
theorem T5.cY {c:Cd} (h:T5 c):T5 c.cY:=by
 obtain ⟨a1,a2,a3,a4,a5,a6⟩:=kG h.gh.ok h.gh.iT h.fu
 have:=h.dp
 have:=h.lv
 exact ⟨h.gh.cY,a3,by omega,by omega⟩
end Hw
namespace L2
open PySem
theorem ck {es':List Expr} {x pos} {es:List Expr} {env:Env}:starEach (.Tuple es' x pos::es) env=(false,eval (.Tuple es' x pos) env)::starEach es env:=by rfl
theorem II {es':List Expr} {pos} {es:List Expr} {env:Env}:starEach (.List es' pos::es) env=(false,eval (.List es' pos) env)::starEach es env:=by rfl
theorem jt {f:Expr} {as ks pos} {es:List Expr} {env:Env}:starEach (.Call f as ks pos::es) env=(false,eval (.Call f as ks pos) env)::starEach es env:=by rfl
theorem iV {v s:Expr} {pos} {es:List Expr} {env:Env}:starEach (.Subscript v s pos::es) env=(false,eval (.Subscript v s pos) env)::starEach es env:=by rfl
theorem CF {v s:Expr} {o pos} {es:List Expr} {env:Env}:starEach (.BinOp v o s pos::es) env=(false,eval (.BinOp v o s pos) env)::starEach es env:=by rfl
theorem aU {v k pos} {es:List Expr} {env:Env}:starEach (.Constant v k pos::es) env=(false,eval (.Constant v k pos) env)::starEach es env:=by rfl
theorem bO {x pos} {es:List Expr} {env:Env}:starEach (.Name x pos::es) env=(false,eval (.Name x pos) env)::starEach es env:=by rfl
end L2
namespace L2
open PySem
theorem zj {v s:Expr} {o pos}:Ak (.BinOp v o s pos):=fun _ _=>rfl
theorem fq {v k pos}:Ak (.Constant v k pos):=fun _ _=>rfl
end L2
namespace Hw
open PySem L2
theorem yC {xs:List Str}:∀ {cs:List Cd},(∀ c∈cs,Ge xs c∧c.full∧c.dep≤1∧c.dW≤1)→jr xs cs∧cE cs∧ji cs≤1∧uG cs≤cs.length
 | [],_=>⟨by unfold jr;trivial,by unfold cE;trivial,Nat.zero_le _,Nat.zero_le _⟩
 | c::cs,h=>by
  have h1:=h c (List.mem_cons_self ..)
  have ih:=yC (cs:=cs) fun z hz=>h z (List.mem_cons_of_mem _ hz)
  refine ⟨by unfold jr;exact ⟨h1.1,ih.1⟩,by unfold cE;exact ⟨h1.2.1,ih.2.1⟩,?_,?_⟩
  ·unfold ji
   have:=h1.2.2.1
   have:=ih.2.2.1
   omega
  ·unfold uG
   have:=h1.2.2.2
   have:=ih.2.2.2
   rw [List.length_cons]
   omega
theorem j6 {xs:List Str} {b:Bool} {cs:List Cd} (h:∀ c∈cs,Ge xs c∧c.full∧c.dep≤1∧c.dW≤1) (l1:1≤cs.length) (l8:cs.length≤8):Ge xs (.con b cs)∧(Cd.con b cs).full∧(Cd.con b cs).dep≤3∧(Cd.con b cs).dW≤8:=by
 obtain ⟨a1,a2,a3,a4⟩:=yC h
 refine ⟨by unfold Ge;exact ⟨l8,a1⟩,by unfold Cd.full;exact ⟨l1,a2⟩,by unfold Cd.dep;omega,by unfold Cd.dW;omega⟩
theorem we {xs:List Str} {c:Cd} (h:Ge xs c∧c.full∧c.dep≤1∧c.dW≤1):Ge xs c∧c.full∧c.dep≤3∧c.dW≤8:=⟨h.1,h.2.1,by have:=h.2.2.1;omega,by have:=h.2.2.2;omega⟩
end Hw
namespace Hw
open PySem L2
theorem lV.holds {xs:List Str}:∀ {cs:List Cd} {l:List Rw},lV l→(∀ x∈xs,x∈gI l)→(∀ c∈cs,Ge xs c∧c.full∧c.dep≤3∧c.dW≤8)→lV (l++cs.map .hold)∧gI (l++cs.map .hold)=gI l∧dY (l++cs.map .hold)=dY l
 | [],l,h,_,_=>by rw [List.map_nil,List.append_nil];exact ⟨h,rfl,rfl⟩
 | c::cs,l,h,hx,hc=>by
  have h1:=hc c (List.mem_cons_self ..)
  have hk:gI (l++[.hold c])=gI l:=by rw [eY];exact List.append_nil _
  have ha:dY (l++[.hold c])=dY l:=by rw [dj];rfl
  have r1:lV (l++[.hold c]):=h.snoc ⟨h1.1.mono hx,h1.2⟩
  have ih:=lV.holds (cs:=cs) r1 (fun x hx'=>by rw [hk];exact hx x hx') fun z hz=>hc z (List.mem_cons_of_mem _ hz)
  have e:l++(c::cs).map Rw.hold=(l++[.hold c])++cs.map .hold:=by rw [List.append_assoc];rfl
  rw [e]
  exact ⟨ih.1,ih.2.1.trans hk,ih.2.2.trans ha⟩
theorem AQ {α:Type} (v:α):∀ n:Nat,(List.replicate n [v]).flatten=List.replicate n v
 | 0=>rfl
 | n+1=>by rw [List.replicate_succ,List.flatten_cons,AQ v n];rfl
theorem yc {H:Hp} {v:V} {r:Rw} (h:cK H v r):∀ n:Nat,iK H (List.replicate n v) (List.replicate n r)
 | 0=>.nil
 | n+1=>.cons h (yc h n)
theorem BV (x:Str):∀ n:Nat,dY (List.replicate n (.any x))=n
 | 0=>rfl
 | n+1=>by show dY (List.replicate n (Rw.any x))+1=n+1;rw [BV x n]
end Hw
namespace Hw
open PySem L2
theorem vA {K:PySem.W.Frag} {H H':Hp} {a:Addr} {xs:List V} (s:az H H'):bC K H a xs→bC K H' a xs
 | .inl (.inl h)=>.inl (.inl (s _ _ h))
 | .inl (.inr ⟨o,h⟩)=>.inl (.inr ⟨o,s _ _ h⟩)
 | .inr h=>.inr h
end Hw
set_option maxHeartbeats 8000000
namespace Hw
open PySem L2 PyProof.Rows
def top (i:Nat):Stmt:=PySem.Challenge.pw_holdwright_k40_cases_told.main.body.getD i (.Pass ⟨0,0,0,0⟩)
end Hw
namespace Hw
open PySem L2 PyProof.Rows
section
variable {P:Program} {w:World} {K:PySem.W.Frag} {mg:Str→Option Value} {base:Heap}
abbrev vU:Stmt:=inClass (top 10) 0
theorem xS:aL ["self","terms","number"] ["self","terms","number"] (aq vU):=⟨rfl,rfl,rfl,by decide +kernel,rfl,by decide +kernel,by decide +kernel⟩
theorem Nd {f C:Addr} {fd:FuncData} (F:dO K "__init__" "Sum.__init__" vU f fd) (T:Txt K mg C) :bF P w K mg base fh 1 f fd ["self","terms","number"] (lZ C):=by
 refine F.ok xS (fun vs H Q E h=>?_) (fun cdv A outer s H vs Q E hr h=>?_)
 ·obtain ⟨p,dx,l,n,ps,rfl,hp,hs,hz,k⟩:=h
  rfl
 ·obtain ⟨p,dx,l,n,ps,rfl,hp,hs,hz,k⟩:=h
  have hu:=bD hr
  rw [show ay vU=[_,_] from rfl]
  refine ⟨_,(ao (iD (pv 0) (bB bN (by rfl) T.tuple boot_tuple (aa (bZ (br ["pair"] [] [] rfl (by decide +kernel) (by decide +kernel) (by with_unfolding_all rfl) (by exact trivial) (by rfl) rfl (by rfl)) rfl (CU (pv 1)) (fun _ _ _ _=>(aQ (i:=0) (show List.Nodup (["pair"]:List Str) by decide +kernel) rfl (Or.inl rfl) (Or.inr rfl))) (fun _ _ _ _=>cA) (fun _ _ _ _=>(bB (mZ (K:=K) rfl) (by rfl) T.tuple boot_tuple (aa (pv 0) ai)))) ai)) rfl)
   (au (iD (pv 0) (pv 2) rfl))),?_⟩
  refine ⟨_,rfl,l,rfl,Oe hs (fun i ys H'=>H'=H∧xX H ys (ps.take i)) ⟨rfl,.nil⟩ (fun i ys H' q=>q.1 ▸ Kp.refl) ?_ ?_⟩
  ·rintro i v pr ys H' hi ⟨a,rfl,ha⟩ ⟨rfl,hy⟩
   refine ⟨Ext.one,iH ⟨_,rfl,a,_,rfl,.inr ⟨aX.of ha,?_,rfl,?_⟩⟩⟩
   ·rw [bY hy,List.length_take]
    exact line _ (by omega)
   ·rw [take_snoc hi]
    exact fm hy (fP ⟨a,rfl,ha⟩)
  ·rintro ys H' ⟨rfl,hy⟩ q hq
   rw [List.take_length] at hy
   refine ⟨q,_,rfl,.inl ⟨bC.of ah,fun t ht=>?_⟩⟩
   have npq:p≠q:=av hp hq
   have h1:upd H' q (.lst ys) p=some (.ins C dx []):=by rw [aM npq];exact hp
   have Nl:p≠t:=av h1 ht
   refine ⟨_,rfl,p,C,dx,[],rfl,(by rw [aM Nl];exact h1),T.cl,T.nT,(by show 0 < 1000;decide),?_⟩
   refine ⟨_,rfl,_,rfl,p,C,dx,_,rfl,ah,T.cl,T.nN,(by show 1 < 1000;decide),?_⟩
   have b:bQ p H' (upd (upd (upd (upd H' q (.lst ys)) t (.tup ys)) p (.ins C dx (gG "terms" (.ref t) []))) p (.ins C dx (tR t n))) :=
    (((bQ.of (new hq)).new ht).trans bQ.upd).trans bQ.upd
   refine k _ b ⟨dx,t,ah,⟨ys,?_,hy.keep ?_⟩,hz⟩
   ·rw [aM Nl.symm,aM Nl.symm,ah]
   ·exact (Kp.but b (by intro xs;rw [hp];intro z;cases z) (by intro xs;rw [hp];intro z;cases z)).t
abbrev vO:Stmt:=inClass (top 10) 2
theorem AJ:aL ["self","other"] ["self","other"] (aq vO):=⟨rfl,rfl,rfl,by decide +kernel,rfl,by decide +kernel,by decide +kernel⟩
theorem M1 {f C:Addr} {fd:FuncData} (F:dO K "plus" "Sum.plus" vO f fd) (T:Txt K mg C) (BJ:Dn P w K mg base 3 "sum_of" ["pairs","number"] (qj C)):bF P w K mg base fh 4 f fd ["self","other"] (CI C):=by
 obtain ⟨Pp,Lc,ni,jW,jX,m8⟩:=BJ
 refine F.ok AJ (fun vs H Q E h=>?_) (fun cdv A outer s H vs Q E hr h=>?_)
 ·obtain ⟨p,q,a,b,n,m,rfl,S1,S2,hz,k⟩:=h
  rfl
 ·obtain ⟨p,q,a,b,n,m,rfl,S1,S2,hz,k⟩:=h
  have hu:=bD hr
  rw [show ay vO=[_] from rfl]
  refine ⟨_,(au (aJ (aA ni (hr.mono (by first | decide | omega)) rfl jW jX m8 .nil aE (aa (aZ nF (bJ (pv 0) rfl) (bJ (pv 1) rfl)) (aa (aZ dQ (bJ (pv 0) rfl) (bJ (pv 1) rfl)) ai))))),?_⟩
  obtain ⟨dx,t1,hp,⟨Mq,e1,r1⟩,z1⟩:=id S1
  obtain ⟨TR,t2,hq,⟨Xg,e2,r2⟩,z2⟩:=id S2
  have lz:Mq.length+Xg.length≤sizeLine:=by
   rw [bY r1,bY r2]
   exact Nat.le_of_lt (line _ (by omega))
  have go:∀ (r:Addr) (H':Hp),az H H'→Tp H' r (a++b)→∃ (x:Addr) (nn:Int) (ps:Ps),[V.ref r,V.int (n+m)]=[.ref x,.int nn]∧Sq H' x ps∧ps.length < 64 ∧
    ∀ (r:Addr) (ts:Ps) (H2:Hp),az H' H2→p9 ps ts→ts.length≤ps.length→cB C H2 r ts nn→Q (.ref r) H2:=fun r H' sm tp =>
   ⟨r,n+m,a++b,rfl,.inr tp,by rw [List.length_append];exact hz,fun r2 ts H2 ye g l S=>k r2 ts H2 (sm.trans ye) g (by rw [List.length_append] at l;exact l) S⟩
  refine ⟨_,rfl,p,C,dx,_,_,rfl,hp,T.cl,T.nT,cZ _ _,_,rfl,q,C,TR,_,_,rfl,hq,T.cl,T.nT,cZ _ _,t1,t2,Mq,Xg,rfl,rfl,aX.of e1,aX.of e2,lz,fun h0=>?_,fun _ h0=>?_,fun _ _ r hr'=>?_⟩
  ·subst h0
   cases r1
   refine ⟨_,rfl,p,C,dx,_,_,rfl,hp,T.cl,T.nN,cz _ _,_,rfl,q,C,TR,_,_,rfl,hq,T.cl,T.nN,cz _ _,_,_,rfl,rfl,?_⟩
   exact go t2 H (az.refl _) ⟨Xg,e2,r2⟩
  ·subst h0
   cases r2
   refine ⟨_,rfl,p,C,dx,_,_,rfl,hp,T.cl,T.nN,cz _ _,_,rfl,q,C,TR,_,_,rfl,hq,T.cl,T.nN,cz _ _,_,_,rfl,rfl,?_⟩
   exact go t1 H (az.refl _) ⟨Mq,e1,by rw [List.append_nil];exact r1⟩
  ·have sm:az H (upd H r (.tup (Mq++Xg))):=new hr'
   refine ⟨_,rfl,p,C,dx,_,_,rfl,sm _ _ hp,T.cl,T.nN,cz _ _,_,rfl,q,C,TR,_,_,rfl,sm _ _ hq,T.cl,T.nN,cz _ _,_,_,rfl,rfl,?_⟩
   exact go r _ sm ⟨_,ah,fm (r1.keep fun _ _ z=>sm _ _ z) (r2.keep fun _ _ z=>sm _ _ z)⟩
abbrev oK:Stmt:=inClass (top 10) 4
theorem zh:aL ["self","number"] ["self","number"] (aq oK):=⟨rfl,rfl,rfl,by decide +kernel,rfl,by decide +kernel,by decide +kernel⟩
theorem JN {f C:Addr} {fd:FuncData} (F:dO K "times" "Sum.times" oK f fd) (T:Txt K mg C) (BJ:Dn P w K mg base 3 "sum_of" ["pairs","number"] (qj C)):bF P w K mg base fh 4 f fd ["self","number"] (uS C):=by
 obtain ⟨Pp,Lc,ni,jW,jX,m8⟩:=BJ
 refine F.ok zh (fun vs H Q E h=>?_) (fun cdv A outer s H vs Q E hr h=>?_)
 ·obtain ⟨p,a,n,kk,rfl,S,hz,hk,k⟩:=h
  rfl
 ·obtain ⟨p,a,n,kk,rfl,S,hz,hk,k⟩:=h
  have hu:=bD hr
  rw [show ay oK=[_] from rfl]
  refine ⟨_,(au (aJ (aA ni (hr.mono (by first | decide | omega)) rfl jW jX m8 .nil aE (aa (bZ (br ["thing","weight"] ["number"] [1] rfl (by decide +kernel) (by decide +kernel) (by with_unfolding_all rfl) (by exact ⟨rfl,trivial⟩) (by rfl) rfl (by rfl)) rfl (dD (bJ (pv 0) rfl)) (fun _ _ _ _=>(uW (K:=K) (n:=2) rfl rfl (cH (aQ (i:=0) (show List.Nodup (["thing","weight","number"]:List Str) by decide +kernel) rfl (Or.inl rfl) (Or.inr rfl)) (cH (aQ (i:=1) (show List.Nodup (["thing","weight","number"]:List Str) by decide +kernel) rfl (Or.inl rfl) (Or.inr rfl)) iM)))) (fun _ _ _ _=>cA) (fun _ _ _ _=>(aG (aa (pv 0) (aa (aZ fR (pv 1) (pv 2)) ai))))) (aa (aZ fR (bJ (pv 0) rfl) (pv 1)) ai))))),?_⟩
  obtain ⟨dx,t,hp,ht,hz'⟩:=id S
  have tz:=line _ (show a.length≤100000 by omega)
  refine ⟨_,rfl,p,C,dx,_,_,rfl,hp,T.cl,T.nT,cZ _ _,t,rfl,vg ht (fun i ys H'=>az H H'∧xX H' ys ((a.take i).map fun q=>(q.1,q.2*kk))) ⟨az.refl _,.nil⟩ (fun i ys H' q=>Kp.of q.1) ?_ ?_⟩
  ·rintro i v pr ys H' hi ⟨b,rfl,hb⟩ ⟨sm,py⟩
   have hil:i < a.length:=(List.getElem?_eq_some_iff.mp hi).1
   refine ⟨b,_,rfl,aX.of hb,rfl,_,_,rfl,_,_,rfl,rfl,Ext.two,iH ⟨_,rfl,_,rfl,_,rfl,_,_,rfl,rfl,.inr hk,(szl 2),fun q hq=>⟨?_,az.new sm hq,?_⟩⟩⟩
   ·rw [bY py,List.length_map,List.length_take]
    omega
   ·rw [take_snoc hi,List.map_append]
    exact fm (py.keep fun _ _ z=>new hq _ _ z) (fP ⟨q,rfl,ah⟩)
  ·rintro ys H' ⟨sm,py⟩ q hq
   rw [List.take_length] at py
   have s1:az H (upd H' q (.lst ys)):=az.new sm hq
   refine ⟨_,rfl,p,C,dx,_,_,rfl,s1 _ _ hp,T.cl,T.nN,cz _ _,_,rfl,_,_,rfl,rfl,.inr hk,?_⟩
   refine ⟨q,n*kk,_,rfl,.inl ⟨ys,ah,py.keep fun _ _ z=>new hq _ _ z⟩,by rw [List.length_map];exact hz,fun r ts H2 ye g l S2=>k r ts H2 (s1.trans ye) g (by rw [List.length_map] at l;exact l) S2⟩
abbrev vS:Stmt:=inClass (top 10) 3
theorem AK:aL ["self","other"] ["self","other"] (aq vS):=⟨rfl,rfl,rfl,by decide +kernel,rfl,by decide +kernel,by decide +kernel⟩
theorem Nb {f C:Addr} {fd:FuncData} (F:dO K "less" "Sum.less" vS f fd) (T:Txt K mg C) (Sj:Mt P w K mg base 4 C "plus" ["self","other"] (CI C)) (z8:Mt P w K mg base 4 C "times" ["self","number"] (uS C)):bF P w K mg base fh 5 f fd ["self","other"] (vD C):=by
 obtain ⟨a7f,YG,D8,Q0,DS⟩:=Sj
 obtain ⟨NU,K9,nj,zF,m9⟩:=z8
 refine F.ok AK (fun vs H Q E h=>?_) (fun cdv A outer s H vs Q E hr h=>?_)
 ·obtain ⟨p,q,a,b,n,m,rfl,S1,S2,hz,k⟩:=h
  rfl
 ·obtain ⟨p,q,a,b,n,m,rfl,S1,S2,hz,k⟩:=h
  have hu:=bD hr
  rw [show ay vS=[_] from rfl]
  refine ⟨_,(au (aJ (iN (pv 0) T.cl Q0 D8 (hr.mono (by first | decide | omega)) DS .nil aE (aa (iN (pv 1) T.cl zF nj (hr.mono (by first | decide | omega)) m9 .nil aE (aa (lO iA aj) ai)) ai)))),?_⟩
  obtain ⟨dx,t1,hp,ht1,z1⟩:=id S1
  obtain ⟨TR,t2,hq,um,z2⟩:=id S2
  refine ⟨_,rfl,p,dx,_,rfl,hp,gj _ _ (by decide +kernel) (by decide +kernel),_,rfl,q,TR,_,rfl,hq,gj _ _ (by decide +kernel) (by decide +kernel),_,rfl,?_⟩
  refine ⟨q,b,m,-1,rfl,S2,by omega,⟨by decide,by decide⟩,fun r ts H1 iJ g1 l1 S1'=>?_⟩
  refine ⟨p,r,a,ts,n,m*-1,rfl,S1.same iJ,S1',by omega,fun r2 ts2 H2 ye g2 l2 S2'=>?_⟩
  refine k r2 ts2 H2 (iJ.trans ye) ⟨g2.1,fun f=>?_⟩ (by omega) ?_
  ·rw [g2.2,cI,cI,g1.2,wF,zJ]
   omega
  ·have e:n+m*-1=n - m:=by omega
   rw [← e]
   exact S2'
abbrev oO:Stmt:=inClass (top 10) 5
theorem dB:aL ["self","sums","pairs","number","thing","weight","stands_in"] ["self","sums"] (aq oO):=⟨rfl,rfl,rfl,by decide +kernel,rfl,by decide +kernel,by decide +kernel⟩
theorem FN {f C:Addr} {fd:FuncData} (F:dO K "put_in" "Sum.put_in" oO f fd) (T:Txt K mg C) (z8:Mt P w K mg base 4 C "times" ["self","number"] (uS C)) (BJ:Dn P w K mg base 3 "sum_of" ["pairs","number"] (qj C)):bF P w K mg base fh 5 f fd ["self","sums"] (vC C):=by
 obtain ⟨NU,K9,nj,zF,m9⟩:=z8
 obtain ⟨Pp,Lc,ni,jW,jX,m8⟩:=BJ
 refine F.ok dB (fun vs H Q E h=>?_) (fun cdv A outer s H vs Q E hr h=>?_)
 ·obtain ⟨p,d,ts,n,kvs,S,rfl,S0,rd,rl,h3,hf,k⟩:=h
  rfl
 ·obtain ⟨p,d,ts,n,kvs,S,rfl,S0,rd,rl,h3,hf,k⟩:=h
  have hu:=bD hr
  rw [show ay oO=[_,_,_,_] from rfl]
  refine ⟨_,(ao (aT (i:=2) dB.nd rfl (Or.inl rfl) (bh ai))
   (ao (aT (i:=3) dB.nd rfl (Or.inl rfl) (bJ (pv 0) rfl))
   (ao (eX PassesOwn.never rfl (dD (bJ (pv 0) rfl)) (rV rfl (cH (aQ (i:=4) dB.nd rfl (Or.inl rfl)) (cH (aQ (i:=5) dB.nd rfl (Or.inl rfl)) iM))) (au (bR (Qu (QA hu (pv 4) (pv 1))) (ao (aT (i:=6) dB.nd rfl (Or.inl rfl) (iN (iO hu (pv 1) (pv 4) (fun _ _=>rfl)) T.cl zF nj (hr.mono (by first | decide | omega)) m9 .nil aE (aa (pv 5) ai)))
   (ao (cV (jz PySem.F.plainAttrs_list PySem.F.slot_list_extend PySem.F.type_list_extend C5 (pv 2) (aa (bJ (pv 6) rfl) ai)))
   (au (aT (i:=3) dB.nd rfl (Or.inl rfl) (aZ dQ (pv 3) (bJ (pv 6) rfl)))))) (au (cV (jz PySem.F.plainAttrs_list PySem.F.slot_list_append PySem.F.type_list_append dZ (pv 2) (aa (aG (aa (pv 4) (aa (pv 5) ai))) ai)))))))
   (au (aJ (aA ni (hr.mono (by first | decide | omega)) rfl jW jX m8 .nil aE (aa (pv 2) (aa (pv 3) ai)))))))),?_⟩
  obtain ⟨dx,t,hp,ht,hz⟩:=id S0
  have two:2≤sizeLine:=Nat.le_of_lt (line 2 (by decide))
  have lz:=line 1000 (by decide)
  refine ⟨(Nat.zero_le _),fun P hP=>?_⟩
  have s1:az H (upd H P (.lst [])):=new hP
  refine ⟨_,rfl,p,C,dx,_,_,rfl,s1 _ _ hp,T.cl,T.nN,cz _ _,?_⟩
  refine ⟨_,rfl,p,C,dx,_,_,rfl,s1 _ _ hp,T.cl,T.nT,cZ _ _,t,rfl,E6 (ht.same s1) (fun i σ H'=>∃ (m:Int) (qs:Ps) (a4 a5 a6:Option V),σ=[some (.ref p),some (.ref d),some (.ref P),some (.int m),a4,a5,a6]∧bQ P (upd H P (.lst [])) H'∧Lp H' P qs∧(∀ f,bT qs f=bT (jS S (ts.take i)) f)∧qs.length≤20*i∧m=n+gE S (ts.take i)) ⟨n,[],none,none,none,rfl,fun _ _ e _=>e,⟨[],ah,.nil⟩,fun _=>rfl,Nat.le_refl _,(by show n=n+0;omega)⟩ ?_ ?_ ?_⟩
  ·rintro i σ H' ⟨m,qs,a4,a5,a6,rfl,b,L,lq,ll,em⟩ c xs e
   exact b.tups ah _ _ e
  ·rintro i v pr σ H' hi ⟨c,rfl,hc⟩ ⟨m,qs,a4,a5,a6,rfl,b,L,lq,ll,em⟩
   have hil:i < ts.length:=(List.getElem?_eq_some_iff.mp hi).1
   have hsm:=(h3.2 pr (List.mem_of_getElem? hi)).w
   have sH:az H H':=fun b' o e=>b b' o (s1 _ _ e) (av e hP)
   have Xm:Rd H' d (.dK kvs):=rd.elim (fun z=>.inl (sH _ _ z)) fun ⟨o,z⟩=>.inr ⟨o,sH _ _ z⟩
   have Xl:Rl (LU C H') kvs S:=rl.mono fun u q z=>cB.same z sH
   obtain ⟨vs,eP,rP⟩:=id L
   have vl:=bY rP
   have Yu:=h3.1
   refine ⟨c,_,rfl,aX.of hc,rfl,_,_,rfl,_,_,rfl,rfl,?_⟩
   cases lk:look S pr.1 with
   | none =>
    refine ⟨_,rfl,_,rfl,d,none,rfl,.inl ⟨kvs,Sum.inr pr.1,Xm,rfl,(Xl.none lk).symm⟩,_,rfl,zN ?_⟩
    refine ⟨_,rfl,.inl ⟨rfl,_,bC.of eP⟩,_,rfl,_,rfl,two,fun q hq=>?_⟩
    have eP1:=new (o:=.tup [.str pr.1,.int pr.2]) hq _ _ eP
    refine ⟨P,_,_,rfl,rfl,eP1,(by omega),?_⟩
    refine ⟨m,qs++[pr],_,_,_,rfl,(b.new hq).trans bQ.upd,⟨_,ah,?_⟩,fun f=>?_,?_,?_⟩
    ·have kp:∀ b' xs,upd H' q (.tup [.str pr.1,.int pr.2]) b'=some (.tup xs)→upd (upd H' q (.tup [.str pr.1,.int pr.2])) P (.lst (vs++[.ref q])) b'=some (.tup xs):=fun b' xs e=>by
      rw [aM (mK e eP1 (by intro w;cases w))]
      exact e
     exact fm ((rP.keep fun _ _ z=>new hq _ _ z).keep kp) (fP ⟨q,rfl,kp _ _ ah⟩)
    ·have e:rE S pr=[pr]:=by unfold rE;rw [lk]
     rw [take_snoc hi,rD,cI,cI,lq,e]
    ·rw [List.length_append,List.length_singleton];omega
    ·have e:vv S pr=0:=by unfold vv;rw [lk]
     rw [take_snoc hi,rF,e];omega
   | some sq =>
    obtain ⟨u,eu,Su⟩:=Xl.some lk
    have Su:cB C H' u sq.1 sq.2:=Su
    have sl:sq.1.length≤20:=hf _ (qI lk)
    obtain ⟨du,tu,Mc,_⟩:=id Su
    have dg:nZ H' d (.str pr.1) (some (.ref u)):=.inl ⟨kvs,Sum.inr pr.1,Xm,rfl,eu.symm⟩
    refine ⟨_,rfl,_,rfl,d,some (.ref u),rfl,dg,_,rfl,pQ ?_⟩
    refine ⟨_,rfl,_,rfl,d,_,rfl,dg,u,du,_,rfl,Mc,gj _ _ (by decide +kernel) (by decide +kernel),_,rfl,u,sq.1,sq.2,pr.2,rfl,Su,by omega,hsm,fun r us H2 ye g l Sr=>?_⟩
    obtain ⟨dr,tr,er,⟨vr,etr,rr⟩,_⟩:=id Sr
    have TL:=ye _ _ eP
    have vrl:=bY rr
    refine ⟨_,rfl,.inl ⟨rfl,_,bC.of TL⟩,_,rfl,r,C,dr,_,_,rfl,er,T.cl,T.nT,cZ _ _,P,tr,_,_,rfl,rfl,TL,aX.of etr,(by omega),?_⟩
    refine ⟨_,rfl,_,rfl,r,C,dr,_,_,rfl,(by rw [aM (mK er TL (by intro w;cases w))];exact er),T.cl,T.nN,cz _ _,_,_,rfl,rfl,?_⟩
    have kp:∀ b' xs,H2 b'=some (.tup xs)→upd H2 P (.lst (vs++vr)) b'=some (.tup xs):=fun b' xs e=>by
     rw [aM (mK e TL (by intro w;cases w))]
     exact e
    refine ⟨m+sq.2*pr.2,qs++us,_,_,_,rfl,(b.trans (bQ.of ye)).trans bQ.upd,⟨_,ah,fm ((rP.keep fun _ _ z=>ye _ _ z).keep kp) (rr.keep kp)⟩,fun f=>?_,?_,?_⟩
    ·have e:rE S pr=sq.1.map fun x=>(x.1,pr.2*x.2):=by unfold rE;rw [lk]
     rw [take_snoc hi,rD,cI,cI,lq,e,g.2,wF,wG,Int.mul_comm]
    ·rw [List.length_append];omega
    ·have e:vv S pr=pr.2*sq.2:=by unfold vv;rw [lk]
     rw [take_snoc hi,rF,e,em,Int.mul_comm sq.2];omega
  ·rintro σ H' ⟨m,qs,a4,a5,a6,rfl,b,L,lq,ll,em⟩
   rw [List.take_length] at lq em
   have Yu:=h3.1
   have sH:az H H':=fun b' o e=>b b' o (s1 _ _ e) (av e hP)
   refine ⟨_,rfl,_,rfl,P,m,qs,rfl,.inl L,by omega,fun r us H2 sm g l Sr=>?_⟩
   refine k r us H2 (sH.trans sm) ⟨g.1,fun f=>by rw [g.2,lq]⟩ ?_
   rw [← em]
   exact Sr
abbrev ku:Stmt:=inClass (top 35) 0
theorem vJ:aL ["self","kind","at","ahead","condition"] ["self","kind","at","ahead","condition"] (aq ku):=⟨rfl,rfl,rfl,by decide +kernel,rfl,by decide +kernel,by decide +kernel⟩
theorem FQ {f:Addr} {fd:FuncData} {Z:Cz} {n:Nat} {TM W fT fW:Addr} {dN dI:List Value} (F:dO K "__init__" "Debt.__init__" ku f fd) (T:Txt K mg Z.s) (U:gH K mg Z) (XT:dJ K mg TM W fT fW dN dI) {Db:Addr} (W:TX K mg Db) :bF P w K mg base fh 1 f fd ["self","kind","at","ahead","condition"] (IL Db):=by
 refine F.ok vJ (fun vs H Q E h=>?_) (fun cdv A outer s H vs Q E hr h=>?_)
 ·obtain ⟨p,dx,k0,a,h,c,rfl,hp,k⟩:=h
  rfl
 ·obtain ⟨p,dx,k0,a,h,c,rfl,hp,k⟩:=h
  have hu:=bD hr
  rw [show ay ku=[_,_,_,_] from rfl]
  refine ⟨_,(ao (iD (pv 0) (pv 1) rfl)
   (ao (iD (pv 0) (pv 2) rfl)
   (ao (iD (pv 0) (pv 3) rfl)
   (au (iD (pv 0) (pv 4) rfl))))),?_⟩
  refine ⟨_,rfl,_,rfl,p,_,dx,_,rfl,hp,W.cd,W.nd _ (by decide +kernel),(by show 0 < 1000;decide),?_⟩
  refine ⟨_,rfl,_,rfl,p,_,dx,_,rfl,ah,W.cd,W.nd _ (by decide +kernel),(by show 1 < 1000;decide),?_⟩
  refine ⟨_,rfl,_,rfl,p,_,dx,_,rfl,ah,W.cd,W.nd _ (by decide +kernel),(by show 2 < 1000;decide),?_⟩
  refine ⟨_,rfl,_,rfl,p,_,dx,_,rfl,ah,W.cd,W.nd _ (by decide +kernel),(by show 3 < 1000;decide),?_⟩
  exact k _ (((bQ.upd.trans bQ.upd).trans bQ.upd).trans bQ.upd) ah
abbrev oY:Stmt:=inClass (top 17) 0
theorem qt:aL ["self","one","sign","other"] ["self","one","sign","other"] (aq oY):=⟨rfl,rfl,rfl,by decide +kernel,rfl,by decide +kernel,by decide +kernel⟩
theorem JZ {f:Addr} {fd:FuncData} {Z:Cz} {n:Nat} (F:dO K "__init__" "Compare.__init__" oY f fd) (T:Txt K mg Z.s) (U:gH K mg Z) :bF P w K mg base fh 1 f fd ["self","one","sign","other"] (jv Z):=by
 refine F.ok qt (fun vs H Q E h=>?_) (fun cdv A outer s H vs Q E hr h=>?_)
 ·obtain ⟨p,dx,u,w,s,rfl,hp,k⟩:=h
  rfl
 ·obtain ⟨p,dx,u,w,s,rfl,hp,k⟩:=h
  have hu:=bD hr
  rw [show ay oY=[_,_,_] from rfl]
  refine ⟨_,(ao (iD (pv 0) (pv 1) rfl)
   (ao (iD (pv 0) (pv 2) rfl)
   (au (iD (pv 0) (pv 3) rfl)))),?_⟩
  refine ⟨_,rfl,_,rfl,p,Z.c,dx,_,rfl,hp,U.cl 0 (by decide),U.n1,(by show 0 < 1000;decide),?_⟩
  refine ⟨_,rfl,_,rfl,p,Z.c,dx,_,rfl,ah,U.cl 0 (by decide),U.n2,(by show 1 < 1000;decide),?_⟩
  refine ⟨_,rfl,_,rfl,p,Z.c,dx,_,rfl,ah,U.cl 0 (by decide),U.n3,(by show 2 < 1000;decide),?_⟩
  exact k _ ((bQ.upd.trans bQ.upd).trans bQ.upd) ah
abbrev oM:Stmt:=inClass (top 18) 0
theorem rO:aL ["self","condition"] ["self","condition"] (aq oM):=⟨rfl,rfl,rfl,by decide +kernel,rfl,by decide +kernel,by decide +kernel⟩
theorem JM {f:Addr} {fd:FuncData} {Z:Cz} {n:Nat} (F:dO K "__init__" "Turned.__init__" oM f fd) (T:Txt K mg Z.s) (U:gH K mg Z) :bF P w K mg base fh 1 f fd ["self","condition"] (ny Z):=by
 refine F.ok rO (fun vs H Q E h=>?_) (fun cdv A outer s H vs Q E hr h=>?_)
 ·obtain ⟨p,dx,u,rfl,hp,k⟩:=h
  rfl
 ·obtain ⟨p,dx,u,rfl,hp,k⟩:=h
  have hu:=bD hr
  rw [show ay oM=[_] from rfl]
  refine ⟨_,(au (iD (pv 0) (pv 1) rfl)),?_⟩
  refine ⟨_,rfl,_,rfl,p,Z.t,dx,_,rfl,hp,U.cl 1 (by decide),U.n4,(by show 0 < 1000;decide),?_⟩
  exact k _ bQ.upd ah
abbrev gO:Stmt:=inClass (top 19) 0
theorem jw:aL ["self","conditions"] ["self","conditions"] (aq gO):=⟨rfl,rfl,rfl,by decide +kernel,rfl,by decide +kernel,by decide +kernel⟩
theorem JY {f:Addr} {fd:FuncData} {Z:Cz} {n:Nat} (F:dO K "__init__" "Several.__init__" gO f fd) (T:Txt K mg Z.s) (U:gH K mg Z) :bF P w K mg base fh 1 f fd ["self","conditions"] (dM Z.e):=by
 refine F.ok jw (fun vs H Q E h=>?_) (fun cdv A outer s H vs Q E hr h=>?_)
 ·obtain ⟨p,dx,l,us,rfl,hp,hl,k⟩:=h
  rfl
 ·obtain ⟨p,dx,l,us,rfl,hp,hl,k⟩:=h
  have hu:=bD hr
  rw [show ay gO=[_] from rfl]
  refine ⟨_,(au (iD (pv 0) (bB bN (by rfl) T.tuple boot_tuple (aa (pv 1) ai)) rfl)),?_⟩
  refine ⟨_,rfl,l,_,rfl,.inl ⟨bC.of hl,fun t ht=>?_⟩⟩
  have Nl:p≠t:=av hp ht
  refine ⟨_,rfl,p,Z.e,dx,_,rfl,(by rw [aM Nl];exact hp),U.cl 2 (by decide),U.n5,(by show 0 < 1000;decide),?_⟩
  exact k t _ ((bQ.of (new ht)).trans bQ.upd) ah (by rw [aM Nl.symm];exact ah)
theorem JR {f:Addr} {fd:FuncData} {Z:Cz} {n:Nat} (F:dO K "__init__" "Several.__init__" gO f fd) (T:Txt K mg Z.s) (U:gH K mg Z) :bF P w K mg base fh 1 f fd ["self","conditions"] (dM Z.o):=by
 refine F.ok jw (fun vs H Q E h=>?_) (fun cdv A outer s H vs Q E hr h=>?_)
 ·obtain ⟨p,dx,l,us,rfl,hp,hl,k⟩:=h
  rfl
 ·obtain ⟨p,dx,l,us,rfl,hp,hl,k⟩:=h
  have hu:=bD hr
  rw [show ay gO=[_] from rfl]
  refine ⟨_,(au (iD (pv 0) (bB bN (by rfl) T.tuple boot_tuple (aa (pv 1) ai)) rfl)),?_⟩
  refine ⟨_,rfl,l,_,rfl,.inl ⟨bC.of hl,fun t ht=>?_⟩⟩
  have Nl:p≠t:=av hp ht
  refine ⟨_,rfl,p,Z.o,dx,_,rfl,(by rw [aM Nl];exact hp),U.cl 3 (by decide),U.n6,(by show 0 < 1000;decide),?_⟩
  exact k t _ ((bQ.of (new ht)).trans bQ.upd) ah (by rw [aM Nl.symm];exact ah)
abbrev uc:Stmt:=inClass (top 17) 3
theorem qq:aL ["self","sums"] ["self","sums"] (aq uc):=⟨rfl,rfl,rfl,by decide +kernel,rfl,by decide +kernel,by decide +kernel⟩
theorem Nh {f:Addr} {fd:FuncData} {Z:Cz} {n:Nat} (F:dO K "put_in" "Compare.put_in" uc f fd) (T:Txt K mg Z.s) (U:gH K mg Z) (mW:Mt P w K mg base 5 Z.s "put_in" ["self","sums"] (vC Z.s)) (gu:Mr P w K mg base 1 Z.c ["self","one","sign","other"] (jv Z)):bF P w K mg base fh (n+6) f fd ["self","sums"] (gi Z (n+1) 0):=by
 obtain ⟨Ll,Gu,iS,qH,iQ⟩:=mW
 obtain ⟨VF,Po,ff,ng,e8⟩:=gu
 refine F.ok qq (fun vs H Q E h=>?_) (fun cdv A outer s H vs Q E hr h=>?_)
 ·obtain ⟨p,d,c,kvs,S,rfl,sj,hc,hd,h3,rd,rl,hf,k⟩:=h
  rfl
 ·obtain ⟨p,d,c,kvs,S,rfl,sj,hc,hd,h3,rd,rl,hf,k⟩:=h
  have hu:=bD hr
  rw [show ay uc=[_] from rfl]
  refine ⟨_,(au (aJ (cW ng ff (hr.mono (by first | decide | omega)) rfl U.mgC e8 .nil aE (aa (iN (bJ (pv 0) rfl) T.cl qH iS (hr.mono (by first | decide | omega)) iQ .nil aE (aa (pv 1) ai)) (aa (bJ (pv 0) rfl) (aa (iN (bJ (pv 0) rfl) T.cl qH iS (hr.mono (by first | decide | omega)) iQ .nil aE (aa (pv 1) ai)) ai)))))),?_⟩
  cases c with
  | neg c=>exact absurd sj (by show ¬ (1=0);decide)
  | con b cs=>cases b <;> exact absurd sj (by first | (show ¬ (2=0);decide) | (show ¬ (3=0);decide))
  | cmp a i s b m =>
  unfold bw at hc
  unfold Cd.l3 at h3
  obtain ⟨q,dx,u,w,e,ep,s1,s2⟩:=hc
  cases e
  obtain ⟨du,tu,Mc,_⟩:=id s1
  obtain ⟨dw,tw,hw',_⟩:=id s2
  refine ⟨_,rfl,p,Z.c,dx,_,_,rfl,ep,U.cl 0 (by decide),U.n1,ES _ _ _,u,du,_,rfl,Mc,gj _ _ (by decide +kernel) (by decide +kernel),_,rfl,u,d,a,i,kvs,S,rfl,s1,rd,rl,h3.1,hf,fun r1 P7 H1 iJ g1 S1=>?_⟩
  refine ⟨_,rfl,p,Z.c,dx,_,_,rfl,iJ _ _ ep,U.cl 0 (by decide),U.n2,fH _ _ _,?_⟩
  refine ⟨_,rfl,p,Z.c,dx,_,_,rfl,iJ _ _ ep,U.cl 0 (by decide),U.n3,ER _ _ _,w,dw,_,rfl,iJ _ _ hw',gj _ _ (by decide +kernel) (by decide +kernel),_,rfl,w,d,b,m,kvs,S,rfl,s2.same iJ,Rd.same rd iJ,rl.mono (fun u q z=>cB.same z iJ),h3.2,hf,fun r2 Ua H2 ye g2 S2=>?_⟩
  refine fun x nQ hx hdx ne=>?_
  have h1:=bX (o:=.own x) (o':=.ins Z.c nQ []) hx hdx
  refine ⟨x,nQ,r1,r2,s,rfl,ah,fun H3 but e1=>⟨rfl,?_⟩⟩
  have s3:az H2 H3:=fun b' o z=>but b' o (h1 _ _ z) (av z hx)
  refine k (.ref x) (.cmp P7 (i+gE S a) s Ua (m+gE S b)) H3 ((iJ.trans ye).trans s3) ?_ ?_
  ·unfold Pt;exact ⟨P7,Ua,rfl,g1,g2⟩
  ·unfold bw
   exact ⟨x,nQ,r1,r2,rfl,e1,(S1.same ye).same s3,S2.same s3⟩
abbrev tU:Stmt:=inClass (top 18) 3
theorem rN:aL ["self","sums"] ["self","sums"] (aq tU):=⟨rfl,rfl,rfl,by decide +kernel,rfl,by decide +kernel,by decide +kernel⟩
theorem MW {f:Addr} {fd:FuncData} {Z:Cz} {n:Nat} (F:dO K "put_in" "Turned.put_in" tU f fd) (T:Txt K mg Z.s) (U:gH K mg Z) (gb:M4 P w K mg base (n+5) Z "put_in" ["self","sums"] (gi Z n)) (kW:Mr P w K mg base 1 Z.t ["self","condition"] (ny Z)):bF P w K mg base fh (n+6) f fd ["self","sums"] (gi Z (n+1) 1):=by
 obtain ⟨a7c,Vr,jN,Am,jM⟩:=kW
 refine F.ok rN (fun vs H Q E h=>?_) (fun cdv A outer s H vs Q E hr h=>?_)
 ·obtain ⟨p,d,c,kvs,S,rfl,sj,hc,hd,h3,rd,rl,hf,k⟩:=h
  rfl
 ·obtain ⟨p,d,c,kvs,S,rfl,sj,hc,hd,h3,rd,rl,hf,k⟩:=h
  have hu:=bD hr
  rw [show ay tU=[_] from rfl]
  refine ⟨_,(au (aJ (cW Am jN (hr.mono (by first | decide | omega)) rfl U.mgT jM .nil aE (aa (AV (Z:=Z) (bJ (pv 0) rfl) U.cl jV gb (hr.mono (by first | decide | omega)) aE (aa (pv 1) ai)) ai)))),?_⟩
  cases c with
  | cmp a i s b m=>exact absurd sj (by show ¬ (0=1);decide)
  | con b cs=>cases b <;> exact absurd sj (by first | (show ¬ (2=1);decide) | (show ¬ (3=1);decide))
  | neg c =>
  unfold bw at hc
  unfold Cd.l3 at h3
  obtain ⟨q,dx,u,e,ep,hc⟩:=hc
  cases e
  obtain ⟨pu,rfl⟩:=di hc
  refine ⟨_,rfl,p,Z.t,dx,_,_,rfl,ep,U.cl 1 (by decide),U.n4,Q6 _,pu,c,rfl,hc,_,rfl,pu,d,c,kvs,S,rfl,rfl,hc,(by unfold Cd.dep at hd;omega),h3,rd,rl,hf,fun v c' H1 sm hp hv=>?_⟩
  refine fun x nQ hx hdx ne=>?_
  have h1:=bX (o:=.own x) (o':=.ins Z.t nQ []) hx hdx
  refine ⟨x,nQ,v,rfl,ah,fun H3 but e1=>⟨rfl,?_⟩⟩
  have s3:az H1 H3:=fun b' o z=>but b' o (h1 _ _ z) (av z hx)
  refine k (.ref x) (.neg c') H3 (sm.trans s3) ?_ ?_
  ·unfold Pt;exact ⟨c',rfl,hp⟩
  ·unfold bw
   exact ⟨x,nQ,v,rfl,e1,hv.aB (aD.of s3)⟩
abbrev tZ:Stmt:=inClass (top 20) 1
theorem uC:aL ["self","sums"] ["self","sums"] (aq tZ):=⟨rfl,rfl,rfl,by decide +kernel,rfl,by decide +kernel,by decide +kernel⟩
theorem Nf {f:Addr} {fd:FuncData} {Z:Cz} {n:Nat} (F:dO K "put_in" "Every.put_in" tZ f fd) (T:Txt K mg Z.s) (U:gH K mg Z) (gb:M4 P w K mg base (n+5) Z "put_in" ["self","sums"] (gi Z n)) (gr:Mr P w K mg base 1 Z.e ["self","conditions"] (dM Z.e)):bF P w K mg base fh (n+6) f fd ["self","sums"] (gi Z (n+1) 2):=by
 obtain ⟨VD,Pk,gB,xB,gy⟩:=gr
 refine F.ok uC (fun vs H Q E h=>?_) (fun cdv A outer s H vs Q E hr h=>?_)
 ·obtain ⟨p,d,c,kvs,S,rfl,sj,hc,hd,h3,rd,rl,hf,k⟩:=h
  rfl
 ·obtain ⟨p,d,c,kvs,S,rfl,sj,hc,hd,h3,rd,rl,hf,k⟩:=h
  have hu:=bD hr
  rw [show ay tZ=[_] from rfl]
  refine ⟨_,(au (aJ (cW xB gB (hr.mono (by first | decide | omega)) rfl U.mgE gy .nil aE (aa (bZ (br ["condition"] ["sums"] [1] rfl (by decide +kernel) (by decide +kernel) (by with_unfolding_all rfl) (by exact ⟨rfl,trivial⟩) (by rfl) rfl (by rfl)) rfl (dD (bJ (pv 0) rfl)) (fun _ _ _ _=>(aQ (i:=0) (show List.Nodup (["condition","sums"]:List Str) by decide +kernel) rfl (Or.inl rfl) (Or.inr rfl))) (fun _ _ _ _=>cA) (fun _ _ _ _=>(AV (Z:=Z) (pv 0) U.cl jV gb (hr.mono (by first | decide | omega)) aE (aa (pv 1) ai)))) ai)))),?_⟩
  cases c with
  | cmp a i s b m=>exact absurd sj (by show ¬ (0=2);decide)
  | neg c=>exact absurd sj (by show ¬ (1=2);decide)
  | con b cs =>
  cases b with
  | false=>exact absurd sj (by first | (show ¬ (2=2);decide) | (show ¬ (3=2);decide))
  | true =>
  unfold bw at hc
  obtain ⟨q,dx,t,us,e,ep,et,l,hcs⟩:=hc
  cases e
  have ep:H p=some (.ins Z.e dx (lW t)):=ep
  have Bv:=aR.mp hcs
  have nW:us.length=cs.length:=ak Bv
  unfold Cd.l3 at h3
  refine ⟨_,rfl,p,Z.e,dx,_,_,rfl,ep,U.cl 2 (by decide),U.n5,Ga _,t,rfl,⟨us,aX.of et⟩,cU (xs:=us) (fun i ys H'=>az H H'∧∃ ds,nc S (cs.take i) ds∧cG Z H' ds ys) ⟨fun _ _ z=>z,[],(by unfold nc;rfl),(by unfold cG;rfl)⟩ (fun i ys H' _ q=>aX.of (q.1 _ _ et)) ?_ ?_⟩
  ·rintro i x ys H' hix ⟨sm,ds,hp,ht⟩
   obtain ⟨c,fX,nY⟩:=bg Bv hix
   obtain ⟨pu,rfl⟩:=di nY
   have mV:=nY.aB (aD.of sm)
   have O9:=(List.getElem?_eq_some_iff.mp fX).1
   have iz:=List.mem_of_getElem? fX
   have dd:c.dep≤n:=by
    have z:=eT iz
    unfold Cd.dep at hd
    omega
   have rm:ys.length≤i:=by
    have z:=ak (aR.mp ht)
    have z2:=ak (bH.mp hp)
    rw [List.length_take] at z2
    omega
   refine ⟨Ext.one,iH ⟨_,rfl,pu,c,rfl,mV,_,rfl,pu,d,c,kvs,S,rfl,rfl,mV,dd,zK h3 iz,Rd.same rd sm,rl.mono (fun u q z=>cB.same z sm),hf,fun v c' H1 iJ hp1 hv=>⟨line _ (by omega),sm.trans iJ,ds++[c'],?_,?_⟩⟩⟩
   ·rw [take_snoc fX]
    exact bH.mpr (aH (bH.mp hp) hp1)
   ·exact aR.mpr (aH (aR.mp (ht.aB (aD.of iJ))) hv)
  ·rintro ys H' ⟨sm,ds,hp,ht⟩ q hq
   rw [nW,List.take_length] at hp
   have rm:ys.length=cs.length:=by
    have z:=ak (aR.mp ht)
    have z2:=ak (bH.mp hp)
    omega
   refine fun x nQ hx hdx ne=>?_
   have h1:=bX (o:=.own x) (o':=.ins Z.e nQ []) hx hdx
   refine ⟨x,nQ,q,ys,rfl,ah,h1 _ _ ah,fun t' H2 but e1 e2=>⟨rfl,?_⟩⟩
   have s2:az H' H2:=fun b' o z=>but b' o (h1 _ _ (new hq _ _ z)) (av (new hq _ _ z) hx)
   refine k (.ref x) (.con true ds) H2 (sm.trans s2) ?_ ?_
   ·unfold Pt;exact ⟨ds,rfl,hp⟩
   ·unfold bw
    exact ⟨x,nQ,t',ys,rfl,e1,e2,by omega,ht.aB (aD.of s2)⟩
abbrev tX:Stmt:=inClass (top 21) 1
theorem vI:aL ["self","sums"] ["self","sums"] (aq tX):=⟨rfl,rfl,rfl,by decide +kernel,rfl,by decide +kernel,by decide +kernel⟩
theorem M5 {f:Addr} {fd:FuncData} {Z:Cz} {n:Nat} (F:dO K "put_in" "Some.put_in" tX f fd) (T:Txt K mg Z.s) (U:gH K mg Z) (gb:M4 P w K mg base (n+5) Z "put_in" ["self","sums"] (gi Z n)) (gq:Mr P w K mg base 1 Z.o ["self","conditions"] (dM Z.o)):bF P w K mg base fh (n+6) f fd ["self","sums"] (gi Z (n+1) 3):=by
 obtain ⟨VC,Ph,iy,BX,iu⟩:=gq
 refine F.ok vI (fun vs H Q E h=>?_) (fun cdv A outer s H vs Q E hr h=>?_)
 ·obtain ⟨p,d,c,kvs,S,rfl,sj,hc,hd,h3,rd,rl,hf,k⟩:=h
  rfl
 ·obtain ⟨p,d,c,kvs,S,rfl,sj,hc,hd,h3,rd,rl,hf,k⟩:=h
  have hu:=bD hr
  rw [show ay tX=[_] from rfl]
  refine ⟨_,(au (aJ (cW BX iy (hr.mono (by first | decide | omega)) rfl U.mgO iu .nil aE (aa (bZ (br ["condition"] ["sums"] [1] rfl (by decide +kernel) (by decide +kernel) (by with_unfolding_all rfl) (by exact ⟨rfl,trivial⟩) (by rfl) rfl (by rfl)) rfl (dD (bJ (pv 0) rfl)) (fun _ _ _ _=>(aQ (i:=0) (show List.Nodup (["condition","sums"]:List Str) by decide +kernel) rfl (Or.inl rfl) (Or.inr rfl))) (fun _ _ _ _=>cA) (fun _ _ _ _=>(AV (Z:=Z) (pv 0) U.cl jV gb (hr.mono (by first | decide | omega)) aE (aa (pv 1) ai)))) ai)))),?_⟩
  cases c with
  | cmp a i s b m=>exact absurd sj (by show ¬ (0=3);decide)
  | neg c=>exact absurd sj (by show ¬ (1=3);decide)
  | con b cs =>
  cases b with
  | true=>exact absurd sj (by first | (show ¬ (2=3);decide) | (show ¬ (3=3);decide))
  | false =>
  unfold bw at hc
  obtain ⟨q,dx,t,us,e,ep,et,l,hcs⟩:=hc
  cases e
  have ep:H p=some (.ins Z.o dx (lW t)):=ep
  have Bv:=aR.mp hcs
  have nW:us.length=cs.length:=ak Bv
  unfold Cd.l3 at h3
  refine ⟨_,rfl,p,Z.o,dx,_,_,rfl,ep,U.cl 3 (by decide),U.n6,Ga _,t,rfl,⟨us,aX.of et⟩,cU (xs:=us) (fun i ys H'=>az H H'∧∃ ds,nc S (cs.take i) ds∧cG Z H' ds ys) ⟨fun _ _ z=>z,[],(by unfold nc;rfl),(by unfold cG;rfl)⟩ (fun i ys H' _ q=>aX.of (q.1 _ _ et)) ?_ ?_⟩
  ·rintro i x ys H' hix ⟨sm,ds,hp,ht⟩
   obtain ⟨c,fX,nY⟩:=bg Bv hix
   obtain ⟨pu,rfl⟩:=di nY
   have mV:=nY.aB (aD.of sm)
   have O9:=(List.getElem?_eq_some_iff.mp fX).1
   have iz:=List.mem_of_getElem? fX
   have dd:c.dep≤n:=by
    have z:=eT iz
    unfold Cd.dep at hd
    omega
   have rm:ys.length≤i:=by
    have z:=ak (aR.mp ht)
    have z2:=ak (bH.mp hp)
    rw [List.length_take] at z2
    omega
   refine ⟨Ext.one,iH ⟨_,rfl,pu,c,rfl,mV,_,rfl,pu,d,c,kvs,S,rfl,rfl,mV,dd,zK h3 iz,Rd.same rd sm,rl.mono (fun u q z=>cB.same z sm),hf,fun v c' H1 iJ hp1 hv=>⟨line _ (by omega),sm.trans iJ,ds++[c'],?_,?_⟩⟩⟩
   ·rw [take_snoc fX]
    exact bH.mpr (aH (bH.mp hp) hp1)
   ·exact aR.mpr (aH (aR.mp (ht.aB (aD.of iJ))) hv)
  ·rintro ys H' ⟨sm,ds,hp,ht⟩ q hq
   rw [nW,List.take_length] at hp
   have rm:ys.length=cs.length:=by
    have z:=ak (aR.mp ht)
    have z2:=ak (bH.mp hp)
    omega
   refine fun x nQ hx hdx ne=>?_
   have h1:=bX (o:=.own x) (o':=.ins Z.o nQ []) hx hdx
   refine ⟨x,nQ,q,ys,rfl,ah,h1 _ _ ah,fun t' H2 but e1 e2=>⟨rfl,?_⟩⟩
   have s2:az H' H2:=fun b' o z=>but b' o (h1 _ _ (new hq _ _ z)) (av (new hq _ _ z) hx)
   refine k (.ref x) (.con false ds) H2 (sm.trans s2) ?_ ?_
   ·unfold Pt;exact ⟨ds,rfl,hp⟩
   ·unfold bw
    exact ⟨x,nQ,t',ys,rfl,e1,e2,by omega,ht.aB (aD.of s2)⟩
abbrev ud:Stmt:=inClass (top 17) 5
theorem nV:aL ["self"] ["self"] (aq ud):=⟨rfl,rfl,rfl,by decide +kernel,rfl,by decide +kernel,by decide +kernel⟩
theorem Ni {f:Addr} {fd:FuncData} {Z:Cz} {n:Nat} (F:dO K "opposite" "Compare.opposite" ud f fd) (T:Txt K mg Z.s) (U:gH K mg Z) (gu:Mr P w K mg base 1 Z.c ["self","one","sign","other"] (jv Z)) (DH:Ot P w K mg):bF P w K mg base fh (n+3) f fd ["self"] (iB Z (n+1) 0):=by
 obtain ⟨VF,Po,ff,ng,e8⟩:=gu
 obtain ⟨D,mgD,kd⟩:=DH
 refine F.ok nV (fun vs H Q E h=>?_) (fun cdv A outer s H vs Q E hr h=>?_)
 ·obtain ⟨p,c,rfl,sj,hc,hd,ho,k⟩:=h
  rfl
 ·obtain ⟨p,c,rfl,sj,hc,hd,ho,k⟩:=h
  have hu:=bD hr
  rw [show ay ud=[_] from rfl]
  refine ⟨_,(au (aJ (cW ng ff (hr.mono (by first | decide | omega)) rfl U.mgC e8 .nil aE (aa (bJ (pv 0) rfl) (aa (ML rfl mgD kd (bJ (pv 0) rfl) (fun _ _=>rfl)) (aa (bJ (pv 0) rfl) ai)))))),?_⟩
  cases c with
  | neg c=>exact absurd sj (by show ¬ (1=0);decide)
  | con b cs=>cases b <;> exact absurd sj (by first | (show ¬ (2=0);decide) | (show ¬ (3=0);decide))
  | cmp a i s b m =>
  unfold bw at hc
  unfold Cd.ok at ho
  unfold Cd.cY at k
  obtain ⟨q,dx,u,w,e,ep,s1,s2⟩:=hc
  cases e
  refine ⟨_,rfl,p,Z.c,dx,_,_,rfl,ep,U.cl 0 (by decide),U.n1,ES _ _ _,?_⟩
  refine ⟨_,rfl,p,Z.c,dx,_,_,rfl,ep,U.cl 0 (by decide),U.n2,fH _ _ _,Sum.inr s,_,rfl,MR ho,?_⟩
  refine ⟨_,rfl,p,Z.c,dx,_,_,rfl,ep,U.cl 0 (by decide),U.n3,ER _ _ _,fun x nQ hx hdx ne=>?_⟩
  have h1:=bX (o:=.own x) (o':=.ins Z.c nQ []) hx hdx
  refine ⟨x,nQ,u,w,g7 s,rfl,ah,fun H3 but e1=>⟨rfl,?_⟩⟩
  have s3:az H H3:=fun b' o z=>but b' o (h1 _ _ z) (av z hx)
  refine k (.ref x) H3 s3 ?_
  unfold bw
  exact ⟨x,nQ,u,w,rfl,e1,s1.same s3,s2.same s3⟩
abbrev tV:Stmt:=inClass (top 18) 5
theorem oG:aL ["self"] ["self"] (aq tV):=⟨rfl,rfl,rfl,by decide +kernel,rfl,by decide +kernel,by decide +kernel⟩
theorem MX {f:Addr} {fd:FuncData} {Z:Cz} {n:Nat} (F:dO K "opposite" "Turned.opposite" tV f fd) (T:Txt K mg Z.s) (U:gH K mg Z) :bF P w K mg base fh (n+3) f fd ["self"] (iB Z (n+1) 1):=by
 refine F.ok oG (fun vs H Q E h=>?_) (fun cdv A outer s H vs Q E hr h=>?_)
 ·obtain ⟨p,c,rfl,sj,hc,hd,ho,k⟩:=h
  rfl
 ·obtain ⟨p,c,rfl,sj,hc,hd,ho,k⟩:=h
  have hu:=bD hr
  rw [show ay tV=[_] from rfl]
  refine ⟨_,(au (aJ (bJ (pv 0) rfl))),?_⟩
  cases c with
  | cmp a i s b m=>exact absurd sj (by show ¬ (0=1);decide)
  | con b cs=>cases b <;> exact absurd sj (by first | (show ¬ (2=1);decide) | (show ¬ (3=1);decide))
  | neg c =>
  unfold bw at hc
  unfold Cd.cY at k
  obtain ⟨q,dx,u,e,ep,hc⟩:=hc
  cases e
  exact ⟨_,rfl,p,Z.t,dx,_,_,rfl,ep,U.cl 1 (by decide),U.n4,Q6 _,k _ _ (fun _ _ z=>z) hc⟩
abbrev t9:Stmt:=inClass (top 20) 3
theorem qp:aL ["self"] ["self"] (aq t9):=⟨rfl,rfl,rfl,by decide +kernel,rfl,by decide +kernel,by decide +kernel⟩
theorem Ng {f:Addr} {fd:FuncData} {Z:Cz} {n:Nat} (F:dO K "opposite" "Every.opposite" t9 f fd) (T:Txt K mg Z.s) (U:gH K mg Z) (e9:M4 P w K mg base (n+2) Z "opposite" ["self"] (iB Z n)) (gq:Mr P w K mg base 1 Z.o ["self","conditions"] (dM Z.o)):bF P w K mg base fh (n+3) f fd ["self"] (iB Z (n+1) 2):=by
 obtain ⟨VC,Ph,iy,BX,iu⟩:=gq
 refine F.ok qp (fun vs H Q E h=>?_) (fun cdv A outer s H vs Q E hr h=>?_)
 ·obtain ⟨p,c,rfl,sj,hc,hd,ho,k⟩:=h
  rfl
 ·obtain ⟨p,c,rfl,sj,hc,hd,ho,k⟩:=h
  have hu:=bD hr
  rw [show ay t9=[_] from rfl]
  refine ⟨_,(au (aJ (cW BX iy (hr.mono (by first | decide | omega)) rfl U.mgO iu .nil aE (aa (bZ (br ["condition"] [] [] rfl (by decide +kernel) (by decide +kernel) (by with_unfolding_all rfl) (by exact trivial) (by rfl) rfl (by rfl)) rfl (dD (bJ (pv 0) rfl)) (fun _ _ _ _=>(aQ (i:=0) (show List.Nodup (["condition"]:List Str) by decide +kernel) rfl (Or.inl rfl) (Or.inr rfl))) (fun _ _ _ _=>cA) (fun _ _ _ _=>(zo (Z:=Z) (pv 0) U.cl jB e9 (hr.mono (by first | decide | omega)) aE))) ai)))),?_⟩
  cases c with
  | cmp a i s b m=>exact absurd sj (by show ¬ (0=2);decide)
  | neg c=>exact absurd sj (by show ¬ (1=2);decide)
  | con b cs =>
  cases b with
  | false=>exact absurd sj (by first | (show ¬ (2=2);decide) | (show ¬ (3=2);decide))
  | true =>
  unfold bw at hc
  obtain ⟨q,dx,t,us,e,ep,et,l,hcs⟩:=hc
  cases e
  have ep:H p=some (.ins Z.e dx (lW t)):=ep
  have Bv:=aR.mp hcs
  have nW:us.length=cs.length:=ak Bv
  unfold Cd.ok at ho
  unfold Cd.cY at k
  rw [dP] at k
  refine ⟨_,rfl,p,Z.e,dx,_,_,rfl,ep,U.cl 2 (by decide),U.n5,Ga _,t,rfl,⟨us,aX.of et⟩,cU (xs:=us) (fun i ys H'=>az H H'∧cG Z H' ((cs.take i).map Cd.cY) ys) ⟨fun _ _ z=>z,(by unfold cG;rfl)⟩ (fun i ys H' _ q=>aX.of (q.1 _ _ et)) ?_ ?_⟩
  ·rintro i x ys H' hix ⟨sm,ht⟩
   obtain ⟨c,fX,nY⟩:=bg Bv hix
   obtain ⟨pu,rfl⟩:=di nY
   have mV:=nY.aB (aD.of sm)
   have O9:=(List.getElem?_eq_some_iff.mp fX).1
   have iz:=List.mem_of_getElem? fX
   have dd:c.dep≤n:=by
    have z:=eT iz
    unfold Cd.dep at hd
    omega
   have rm:ys.length≤i:=by
    have z:=ak (aR.mp ht)
    rw [List.length_map,List.length_take] at z
    omega
   refine ⟨Ext.one,iH ⟨_,rfl,pu,c,rfl,mV,pu,c,rfl,rfl,mV,dd,kJ ho iz,fun v H1 iJ hv=>⟨line _ (by omega),sm.trans iJ,?_⟩⟩⟩
   rw [take_snoc fX,List.map_append]
   exact aR.mpr (aH (aR.mp (ht.aB (aD.of iJ))) hv)
  ·rintro ys H' ⟨sm,ht⟩ q hq
   rw [nW,List.take_length] at ht
   have rm:ys.length=cs.length:=by
    have z:=ak (aR.mp ht)
    rw [List.length_map] at z
    exact z
   refine fun x nQ hx hdx ne=>?_
   have h1:=bX (o:=.own x) (o':=.ins Z.o nQ []) hx hdx
   refine ⟨x,nQ,q,ys,rfl,ah,h1 _ _ ah,fun t' H2 but e1 e2=>⟨rfl,?_⟩⟩
   have s2:az H' H2:=fun b' o z=>but b' o (h1 _ _ (new hq _ _ z)) (av (new hq _ _ z) hx)
   refine k (.ref x) H2 (sm.trans s2) ?_
   unfold bw
   exact ⟨x,nQ,t',ys,rfl,e1,e2,by omega,ht.aB (aD.of s2)⟩
abbrev tY:Stmt:=inClass (top 21) 3
theorem rQ:aL ["self"] ["self"] (aq tY):=⟨rfl,rfl,rfl,by decide +kernel,rfl,by decide +kernel,by decide +kernel⟩
theorem M6 {f:Addr} {fd:FuncData} {Z:Cz} {n:Nat} (F:dO K "opposite" "Some.opposite" tY f fd) (T:Txt K mg Z.s) (U:gH K mg Z) (e9:M4 P w K mg base (n+2) Z "opposite" ["self"] (iB Z n)) (gr:Mr P w K mg base 1 Z.e ["self","conditions"] (dM Z.e)):bF P w K mg base fh (n+3) f fd ["self"] (iB Z (n+1) 3):=by
 obtain ⟨VD,Pk,gB,xB,gy⟩:=gr
 refine F.ok rQ (fun vs H Q E h=>?_) (fun cdv A outer s H vs Q E hr h=>?_)
 ·obtain ⟨p,c,rfl,sj,hc,hd,ho,k⟩:=h
  rfl
 ·obtain ⟨p,c,rfl,sj,hc,hd,ho,k⟩:=h
  have hu:=bD hr
  rw [show ay tY=[_] from rfl]
  refine ⟨_,(au (aJ (cW xB gB (hr.mono (by first | decide | omega)) rfl U.mgE gy .nil aE (aa (bZ (br ["condition"] [] [] rfl (by decide +kernel) (by decide +kernel) (by with_unfolding_all rfl) (by exact trivial) (by rfl) rfl (by rfl)) rfl (dD (bJ (pv 0) rfl)) (fun _ _ _ _=>(aQ (i:=0) (show List.Nodup (["condition"]:List Str) by decide +kernel) rfl (Or.inl rfl) (Or.inr rfl))) (fun _ _ _ _=>cA) (fun _ _ _ _=>(zo (Z:=Z) (pv 0) U.cl jB e9 (hr.mono (by first | decide | omega)) aE))) ai)))),?_⟩
  cases c with
  | cmp a i s b m=>exact absurd sj (by show ¬ (0=3);decide)
  | neg c=>exact absurd sj (by show ¬ (1=3);decide)
  | con b cs =>
  cases b with
  | true=>exact absurd sj (by first | (show ¬ (2=3);decide) | (show ¬ (3=3);decide))
  | false =>
  unfold bw at hc
  obtain ⟨q,dx,t,us,e,ep,et,l,hcs⟩:=hc
  cases e
  have ep:H p=some (.ins Z.o dx (lW t)):=ep
  have Bv:=aR.mp hcs
  have nW:us.length=cs.length:=ak Bv
  unfold Cd.ok at ho
  unfold Cd.cY at k
  rw [dP] at k
  refine ⟨_,rfl,p,Z.o,dx,_,_,rfl,ep,U.cl 3 (by decide),U.n6,Ga _,t,rfl,⟨us,aX.of et⟩,cU (xs:=us) (fun i ys H'=>az H H'∧cG Z H' ((cs.take i).map Cd.cY) ys) ⟨fun _ _ z=>z,(by unfold cG;rfl)⟩ (fun i ys H' _ q=>aX.of (q.1 _ _ et)) ?_ ?_⟩
  ·rintro i x ys H' hix ⟨sm,ht⟩
   obtain ⟨c,fX,nY⟩:=bg Bv hix
   obtain ⟨pu,rfl⟩:=di nY
   have mV:=nY.aB (aD.of sm)
   have O9:=(List.getElem?_eq_some_iff.mp fX).1
   have iz:=List.mem_of_getElem? fX
   have dd:c.dep≤n:=by
    have z:=eT iz
    unfold Cd.dep at hd
    omega
   have rm:ys.length≤i:=by
    have z:=ak (aR.mp ht)
    rw [List.length_map,List.length_take] at z
    omega
   refine ⟨Ext.one,iH ⟨_,rfl,pu,c,rfl,mV,pu,c,rfl,rfl,mV,dd,kJ ho iz,fun v H1 iJ hv=>⟨line _ (by omega),sm.trans iJ,?_⟩⟩⟩
   rw [take_snoc fX,List.map_append]
   exact aR.mpr (aH (aR.mp (ht.aB (aD.of iJ))) hv)
  ·rintro ys H' ⟨sm,ht⟩ q hq
   rw [nW,List.take_length] at ht
   have rm:ys.length=cs.length:=by
    have z:=ak (aR.mp ht)
    rw [List.length_map] at z
    exact z
   refine fun x nQ hx hdx ne=>?_
   have h1:=bX (o:=.own x) (o':=.ins Z.e nQ []) hx hdx
   refine ⟨x,nQ,q,ys,rfl,ah,h1 _ _ ah,fun t' H2 but e1 e2=>⟨rfl,?_⟩⟩
   have s2:az H' H2:=fun b' o z=>but b' o (h1 _ _ (new hq _ _ z)) (av (new hq _ _ z) hx)
   refine k (.ref x) H2 (sm.trans s2) ?_
   unfold bw
   exact ⟨x,nQ,t',ys,rfl,e1,e2,by omega,ht.aB (aD.of s2)⟩
abbrev AO:Stmt:=inClass (top 17) 6
theorem gM:aL ["self","rise","drop"] ["self"] (aq AO):=⟨rfl,rfl,rfl,by decide +kernel,rfl,by decide +kernel,by decide +kernel⟩
theorem QO {f:Addr} {fd:FuncData} {Z:Cz} {n:Nat} {TM W fT fW:Addr} {dN dI:List Value} (F:dO K "cases" "Compare.cases" AO f fd) (T:Txt K mg Z.s) (U:gH K mg Z) (XT:dJ K mg TM W fT fW dN dI) (w5:Mt P w K mg base 5 Z.s "less" ["self","other"] (vD Z.s)) (Sn:Dn P w K mg base 6 "less_one" ["total"] (nA Z.s)):bF P w K mg base (As P w TM) (n+7) f fd ["self"] (vF Z TM (n+1) 0):=by
 obtain ⟨RP,NT,lI,zG,lC⟩:=w5
 obtain ⟨RO,Lf,lH,jC,jE,kZ⟩:=Sn
 refine F.O3 gM (fun vs H Q E h=>?_) (fun cdv A outer s H vs Q E hr h=>?_)
 ·obtain ⟨p,c,rfl,sj,hc,hd,ho,yt,hfu,lQ,k1,k2⟩:=h
  rfl
 ·obtain ⟨p,c,rfl,sj,hc,hd,ho,yt,hfu,lQ,k1,k2⟩:=h
  have hu:=bD hr
  rw [show ay AO=[_,_,_,_,_,_,_,_] from rfl]
  refine ⟨_,(ao (aT (i:=1) gM.nd rfl (Or.inl rfl) (iN (bJ (pv 0) rfl) T.cl zG lI (hr.mono (by first | decide | omega)) lC .nil aE (aa (bJ (pv 0) rfl) ai)))
   (ao (aT (i:=2) gM.nd rfl (Or.inl rfl) (iN (bJ (pv 0) rfl) T.cl zG lI (hr.mono (by first | decide | omega)) lC .nil aE (aa (bJ (pv 0) rfl) ai)))
   (ao (bR (aO bW (bJ (pv 0) rfl) aP (aV _)) (au (aJ (bh (aa (aG (aa (aA lH (hr.mono (by first | decide | omega)) rfl jC jE kZ .nil aE (aa (pv 1) ai)) ai)) ai)))) bE)
   (ao (bR (aO bW (bJ (pv 0) rfl) aP (aV _)) (au (aJ (bh (aa (aG (aa (pv 1) ai)) ai)))) bE)
   (ao (bR (aO bW (bJ (pv 0) rfl) aP (aV _)) (au (aJ (bh (aa (aG (aa (aA lH (hr.mono (by first | decide | omega)) rfl jC jE kZ .nil aE (aa (pv 2) ai)) ai)) ai)))) bE)
   (ao (bR (aO bW (bJ (pv 0) rfl) aP (aV _)) (au (aJ (bh (aa (aG (aa (pv 2) ai)) ai)))) bE)
   (ao (bR (aO bW (bJ (pv 0) rfl) aP (aV _)) (au (aJ (bh (aa (aG (aa (pv 1) (aa (pv 2) ai))) ai)))) bE)
   (au (aJ (bh (aa (aG (aa (aA lH (hr.mono (by first | decide | omega)) rfl jC jE kZ .nil aE (aa (pv 1) ai)) ai)) (aa (aG (aa (aA lH (hr.mono (by first | decide | omega)) rfl jC jE kZ .nil aE (aa (pv 2) ai)) ai)) ai)))))))))))),?_⟩
  cases c with
  | neg c=>exact absurd sj (by show ¬ (1=0);decide)
  | con b cs=>cases b <;> exact absurd sj (by first | (show ¬ (2=0);decide) | (show ¬ (3=0);decide))
  | cmp a i s b m =>
  unfold bw at hc
  unfold Cd.ok at ho
  unfold Cd.iT at yt
  obtain ⟨q,dx,u,w,e,ep,s1,s2⟩:=hc
  cases e
  obtain ⟨du,tu,Mc,_⟩:=id s1
  obtain ⟨dw,tw,hw',_⟩:=id s2
  have l1:=yt.1
  have l2:=yt.2
  refine ⟨_,rfl,p,Z.c,dx,_,_,rfl,ep,U.cl 0 (by decide),U.n3,ER _ _ _,w,dw,_,rfl,hw',gj _ _ (by decide +kernel) (by decide +kernel),_,rfl,p,Z.c,dx,_,_,rfl,ep,U.cl 0 (by decide),U.n1,ES _ _ _,w,u,b,a,m,i,rfl,s2,s1,by omega,fun r1 tr H1 iJ g1 lr Sr=>?_⟩
  refine ⟨_,rfl,p,Z.c,dx,_,_,rfl,iJ _ _ ep,U.cl 0 (by decide),U.n1,ES _ _ _,u,du,_,rfl,iJ _ _ Mc,gj _ _ (by decide +kernel) (by decide +kernel),_,rfl,p,Z.c,dx,_,_,rfl,iJ _ _ ep,U.cl 0 (by decide),U.n3,ER _ _ _,u,w,a,b,i,m,rfl,s1.same iJ,s2.same iJ,by omega,fun r2 td H2 ye g2 ld Sd=>?_⟩
  have sA:=iJ.trans ye
  have k:=k1 (by unfold Cd.cN;split <;> split <;> decide)
  have cr:Canon tr:=g1.1
  have cd:Canon td:=g2.1
  have Mb:∀ cs:Cs,cs=DM s (tr,m - i) (td,i - m)→gD (.cmp a i s b m) false cs:=fun cs e=>by unfold gD;exact ⟨tr,td,g1,g2,e⟩
  have Sr:=Sr.same ye
  simp only [signs,List.mem_cons,List.not_mem_nil,or_false] at ho
  rcases ho with hs | hs | hs | hs | hs | hs
  ·subst hs
   refine ⟨_,rfl,p,Z.c,dx,_,_,rfl,sA _ _ ep,U.cl 0 (by decide),U.n2,fH _ _ _,rfl,_,rfl,bG rfl ?_⟩
   refine ⟨_,rfl,r1,tr,m - i,rfl,Sr,by omega,fun r3 t3 H3 s3 g3 S3=>?_⟩
   refine ⟨Nat.le_of_lt (line 1 (by decide)),fun q hq=>⟨Nat.le_of_lt (line 1 (by decide)),fun F hF=>?_⟩⟩
   have sB:=(s3.trans (new (o:=.tup [.ref r3]) hq)).trans (new (o:=.lst [.ref q]) hF)
   have sC:=(new (o:=.tup [.ref r3]) hq).trans (new (o:=.lst [.ref q]) hF)
   refine k F [[(t3,m - i - 1)]] _ (sA.trans sB) (((sA.trans s3).trans (new hq)).free hF) ⟨[.ref q],ah,.cons ⟨q,[.ref r3],rfl,new hF _ _ ah,.cons ⟨r3,rfl,S3.same sC⟩ .nil⟩ .nil⟩ ⟨?_,fun f=>?_,?_,fun xs hx=>?_⟩ (Mb _ ?_)
   ·unfold Cd.cN;rfl
   ·rw [Nu,g3.2,ie g1 f]
    unfold Cd.holds
    have e:ir "<" (i+bT a f) (m+bT b f)=decide ((i+bT a f) < (m+bT b f)):=by unfold ir;rw [if_pos rfl]
    rw [e]
    exact decide_eq_decide.mpr (by constructor <;> intro h <;> omega)
   ·intro k0 hk0;rw [List.mem_singleton.mp hk0];unfold Cd.dW;show 1≤2*1;decide
   ·unfold cL at hx
    intro k0 hk0 z hz
    rw [List.mem_singleton.mp hk0] at hz
    rw [List.mem_singleton.mp hz]
    exact jL g3 (jF g1 hx.2 hx.1)
   ·rw [jY cr g3];rfl
  ·subst hs
   refine ⟨_,rfl,p,Z.c,dx,_,_,rfl,sA _ _ ep,U.cl 0 (by decide),U.n2,fH _ _ _,rfl,_,rfl,bf (bx (by decide +kernel)) ?_⟩
   refine ⟨_,rfl,p,Z.c,dx,_,_,rfl,sA _ _ ep,U.cl 0 (by decide),U.n2,fH _ _ _,rfl,_,rfl,bG rfl ?_⟩
   refine ⟨_,rfl,Nat.le_of_lt (line 1 (by decide)),fun q hq=>⟨Nat.le_of_lt (line 1 (by decide)),fun F hF=>?_⟩⟩
   have sC:=(new (o:=.tup [.ref r1]) hq).trans (new (o:=.lst [.ref q]) hF)
   refine k F [[(tr,m - i)]] _ (sA.trans sC) ((sA.trans (new hq)).free hF) ⟨[.ref q],ah,.cons ⟨q,[.ref r1],rfl,new hF _ _ ah,.cons ⟨r1,rfl,Sr.same sC⟩ .nil⟩ .nil⟩ ⟨?_,fun f=>?_,?_,fun xs hx=>?_⟩ (Mb _ ?_)
   ·unfold Cd.cN;rfl
   ·rw [Nu,ie g1 f]
    unfold Cd.holds
    have e:ir "<=" (i+bT a f) (m+bT b f)=decide ((i+bT a f)≤(m+bT b f)):=by unfold ir;rw [if_neg (by decide +kernel),if_pos rfl]
    rw [e]
    exact decide_eq_decide.mpr (by constructor <;> intro h <;> omega)
   ·intro k0 hk0;rw [List.mem_singleton.mp hk0];unfold Cd.dW;show 1≤2*1;decide
   ·unfold cL at hx
    intro k0 hk0 z hz
    rw [List.mem_singleton.mp hk0] at hz
    rw [List.mem_singleton.mp hz]
    exact jF g1 hx.2 hx.1
   ·rfl
  ·subst hs
   refine ⟨_,rfl,p,Z.c,dx,_,_,rfl,sA _ _ ep,U.cl 0 (by decide),U.n2,fH _ _ _,rfl,_,rfl,bf (bx (by decide +kernel)) ?_⟩
   refine ⟨_,rfl,p,Z.c,dx,_,_,rfl,sA _ _ ep,U.cl 0 (by decide),U.n2,fH _ _ _,rfl,_,rfl,bf (bx (by decide +kernel)) ?_⟩
   refine ⟨_,rfl,p,Z.c,dx,_,_,rfl,sA _ _ ep,U.cl 0 (by decide),U.n2,fH _ _ _,rfl,_,rfl,bf (bx (by decide +kernel)) ?_⟩
   refine ⟨_,rfl,p,Z.c,dx,_,_,rfl,sA _ _ ep,U.cl 0 (by decide),U.n2,fH _ _ _,rfl,_,rfl,bf (bx (by decide +kernel)) ?_⟩
   refine ⟨_,rfl,p,Z.c,dx,_,_,rfl,sA _ _ ep,U.cl 0 (by decide),U.n2,fH _ _ _,rfl,_,rfl,bG rfl ?_⟩
   refine ⟨_,rfl,_,rfl,Nat.le_of_lt (line 2 (by decide)),fun q hq=>⟨Nat.le_of_lt (line 1 (by decide)),fun F hF=>?_⟩⟩
   have sC:=(new (o:=.tup [.ref r1,.ref r2]) hq).trans (new (o:=.lst [.ref q]) hF)
   refine k F [[(tr,m - i),(td,i - m)]] _ (sA.trans sC) ((sA.trans (new hq)).free hF) ⟨[.ref q],ah,.cons ⟨q,[.ref r1,.ref r2],rfl,new hF _ _ ah,.cons ⟨r1,rfl,Sr.same sC⟩ (.cons ⟨r2,rfl,Sd.same sC⟩ .nil)⟩ .nil⟩ ⟨?_,fun f=>?_,?_,fun xs hx=>?_⟩ (Mb _ ?_)
   ·unfold Cd.cN;rfl
   ·rw [a4l,ie g1 f,ie g2 f]
    unfold Cd.holds
    have e:ir "=" (i+bT a f) (m+bT b f)=decide ((i+bT a f)=(m+bT b f)):=by unfold ir;rw [if_neg (by decide +kernel),if_neg (by decide +kernel),if_pos rfl]
    rw [e,← Bool.decide_and]
    exact decide_eq_decide.mpr (by constructor <;> intro h <;> omega)
   ·intro k0 hk0;rw [List.mem_singleton.mp hk0];unfold Cd.dW;show 2≤2*1;decide
   ·unfold cL at hx
    intro k0 hk0 z hz
    rw [List.mem_singleton.mp hk0] at hz
    rcases List.mem_cons.mp hz with h | h
    ·rw [h];exact jF g1 hx.2 hx.1
    ·rw [List.mem_singleton.mp h];exact jF g2 hx.1 hx.2
   ·rfl
  ·subst hs
   refine ⟨_,rfl,p,Z.c,dx,_,_,rfl,sA _ _ ep,U.cl 0 (by decide),U.n2,fH _ _ _,rfl,_,rfl,bf (bx (by decide +kernel)) ?_⟩
   refine ⟨_,rfl,p,Z.c,dx,_,_,rfl,sA _ _ ep,U.cl 0 (by decide),U.n2,fH _ _ _,rfl,_,rfl,bf (bx (by decide +kernel)) ?_⟩
   refine ⟨_,rfl,p,Z.c,dx,_,_,rfl,sA _ _ ep,U.cl 0 (by decide),U.n2,fH _ _ _,rfl,_,rfl,bf (bx (by decide +kernel)) ?_⟩
   refine ⟨_,rfl,p,Z.c,dx,_,_,rfl,sA _ _ ep,U.cl 0 (by decide),U.n2,fH _ _ _,rfl,_,rfl,bf (bx (by decide +kernel)) ?_⟩
   refine ⟨_,rfl,p,Z.c,dx,_,_,rfl,sA _ _ ep,U.cl 0 (by decide),U.n2,fH _ _ _,rfl,_,rfl,bf (bx (by decide +kernel)) ?_⟩
   refine ⟨_,rfl,r1,tr,m - i,rfl,Sr,by omega,fun r3 t3 H3 s3 g3 S3=>⟨Nat.le_of_lt (line 1 (by decide)),fun q hq=>?_⟩⟩
   have s4:=s3.trans (new (o:=.tup [.ref r3]) hq)
   refine ⟨_,rfl,r2,td,i - m,rfl,Sd.same s4,by omega,fun r5 t5 H5 s5 g5 S5=>⟨Nat.le_of_lt (line 1 (by decide)),fun q2 hq2=>?_⟩⟩
   refine ⟨Nat.le_of_lt (line 2 (by decide)),fun F hF=>?_⟩
   have s6:=s5.trans (new (o:=.tup [.ref r5]) hq2)
   have sF:=new (o:=.lst [.ref q,.ref q2]) hF
   refine k F [[(t3,m - i - 1)],[(t5,i - m - 1)]] _ (((sA.trans s4).trans s6).trans sF) (((sA.trans s4).trans s6).free hF) ⟨[.ref q,.ref q2],ah,.cons ⟨q,[.ref r3],rfl,(s6.trans sF) _ _ ah,.cons ⟨r3,rfl,((S3.same (new hq)).same s6).same sF⟩ .nil⟩ (.cons ⟨q2,[.ref r5],rfl,sF _ _ ah,.cons ⟨r5,rfl,(S5.same (new hq2)).same sF⟩ .nil⟩ .nil)⟩ ⟨?_,fun f=>?_,?_,fun xs hx=>?_⟩ (Mb _ ?_)
   ·unfold Cd.cN;rfl
   ·rw [a4k,g3.2,g5.2,ie g1 f,ie g2 f]
    unfold Cd.holds
    have e:ir "!=" (i+bT a f) (m+bT b f)=!decide ((i+bT a f)=(m+bT b f)):=by unfold ir;rw [if_neg (by decide +kernel),if_neg (by decide +kernel),if_neg (by decide +kernel),if_pos rfl]
    rw [e,← Bool.decide_or,← decide_not]
    exact decide_eq_decide.mpr (by constructor <;> intro h <;> omega)
   ·intro k0 hk0
    unfold Cd.dW
    rcases List.mem_cons.mp hk0 with h | h
    ·rw [h];show 1≤2*1;decide
    ·rw [List.mem_singleton.mp h];show 1≤2*1;decide
   ·unfold cL at hx
    intro k0 hk0 z hz
    rcases List.mem_cons.mp hk0 with h | h
    ·rw [h] at hz
     rw [List.mem_singleton.mp hz]
     exact jL g3 (jF g1 hx.2 hx.1)
    ·rw [List.mem_singleton.mp h] at hz
     rw [List.mem_singleton.mp hz]
     exact jL g5 (jF g2 hx.1 hx.2)
   ·rw [jY cr g3,jY cd g5];rfl
  ·subst hs
   refine ⟨_,rfl,p,Z.c,dx,_,_,rfl,sA _ _ ep,U.cl 0 (by decide),U.n2,fH _ _ _,rfl,_,rfl,bf (bx (by decide +kernel)) ?_⟩
   refine ⟨_,rfl,p,Z.c,dx,_,_,rfl,sA _ _ ep,U.cl 0 (by decide),U.n2,fH _ _ _,rfl,_,rfl,bf (bx (by decide +kernel)) ?_⟩
   refine ⟨_,rfl,p,Z.c,dx,_,_,rfl,sA _ _ ep,U.cl 0 (by decide),U.n2,fH _ _ _,rfl,_,rfl,bf (bx (by decide +kernel)) ?_⟩
   refine ⟨_,rfl,p,Z.c,dx,_,_,rfl,sA _ _ ep,U.cl 0 (by decide),U.n2,fH _ _ _,rfl,_,rfl,bG rfl ?_⟩
   refine ⟨_,rfl,Nat.le_of_lt (line 1 (by decide)),fun q hq=>⟨Nat.le_of_lt (line 1 (by decide)),fun F hF=>?_⟩⟩
   have sC:=(new (o:=.tup [.ref r2]) hq).trans (new (o:=.lst [.ref q]) hF)
   refine k F [[(td,i - m)]] _ (sA.trans sC) ((sA.trans (new hq)).free hF) ⟨[.ref q],ah,.cons ⟨q,[.ref r2],rfl,new hF _ _ ah,.cons ⟨r2,rfl,Sd.same sC⟩ .nil⟩ .nil⟩ ⟨?_,fun f=>?_,?_,fun xs hx=>?_⟩ (Mb _ ?_)
   ·unfold Cd.cN;rfl
   ·rw [Nu,ie g2 f]
    unfold Cd.holds
    have e:ir ">=" (i+bT a f) (m+bT b f)=decide ((m+bT b f)≤(i+bT a f)):=by unfold ir;rw [if_neg (by decide +kernel),if_neg (by decide +kernel),if_neg (by decide +kernel),if_neg (by decide +kernel),if_pos rfl]
    rw [e]
    exact decide_eq_decide.mpr (by constructor <;> intro h <;> omega)
   ·intro k0 hk0;rw [List.mem_singleton.mp hk0];unfold Cd.dW;show 1≤2*1;decide
   ·unfold cL at hx
    intro k0 hk0 z hz
    rw [List.mem_singleton.mp hk0] at hz
    rw [List.mem_singleton.mp hz]
    exact jF g2 hx.1 hx.2
   ·rfl
  ·subst hs
   refine ⟨_,rfl,p,Z.c,dx,_,_,rfl,sA _ _ ep,U.cl 0 (by decide),U.n2,fH _ _ _,rfl,_,rfl,bf (bx (by decide +kernel)) ?_⟩
   refine ⟨_,rfl,p,Z.c,dx,_,_,rfl,sA _ _ ep,U.cl 0 (by decide),U.n2,fH _ _ _,rfl,_,rfl,bf (bx (by decide +kernel)) ?_⟩
   refine ⟨_,rfl,p,Z.c,dx,_,_,rfl,sA _ _ ep,U.cl 0 (by decide),U.n2,fH _ _ _,rfl,_,rfl,bG rfl ?_⟩
   refine ⟨_,rfl,r2,td,i - m,rfl,Sd,by omega,fun r3 t3 H3 s3 g3 S3=>?_⟩
   refine ⟨Nat.le_of_lt (line 1 (by decide)),fun q hq=>⟨Nat.le_of_lt (line 1 (by decide)),fun F hF=>?_⟩⟩
   have sB:=(s3.trans (new (o:=.tup [.ref r3]) hq)).trans (new (o:=.lst [.ref q]) hF)
   have sC:=(new (o:=.tup [.ref r3]) hq).trans (new (o:=.lst [.ref q]) hF)
   refine k F [[(t3,i - m - 1)]] _ (sA.trans sB) (((sA.trans s3).trans (new hq)).free hF) ⟨[.ref q],ah,.cons ⟨q,[.ref r3],rfl,new hF _ _ ah,.cons ⟨r3,rfl,S3.same sC⟩ .nil⟩ .nil⟩ ⟨?_,fun f=>?_,?_,fun xs hx=>?_⟩ (Mb _ ?_)
   ·unfold Cd.cN;rfl
   ·rw [Nu,g3.2,ie g2 f]
    unfold Cd.holds
    have e:ir ">" (i+bT a f) (m+bT b f)=decide ((m+bT b f) < (i+bT a f)):=by unfold ir;rw [if_neg (by decide +kernel),if_neg (by decide +kernel),if_neg (by decide +kernel),if_neg (by decide +kernel),if_neg (by decide +kernel)]
    rw [e]
    exact decide_eq_decide.mpr (by constructor <;> intro h <;> omega)
   ·intro k0 hk0;rw [List.mem_singleton.mp hk0];unfold Cd.dW;show 1≤2*1;decide
   ·unfold cL at hx
    intro k0 hk0 z hz
    rw [List.mem_singleton.mp hk0] at hz
    rw [List.mem_singleton.mp hz]
    exact jL g3 (jF g2 hx.1 hx.2)
   ·rw [jY cd g3];rfl
abbrev AL:Stmt:=inClass (top 18) 6
theorem uB:aL ["self"] ["self"] (aq AL):=⟨rfl,rfl,rfl,by decide +kernel,rfl,by decide +kernel,by decide +kernel⟩
theorem QJ {f:Addr} {fd:FuncData} {Z:Cz} {n:Nat} {TM W fT fW:Addr} {dN dI:List Value} (F:dO K "cases" "Turned.cases" AL f fd) (T:Txt K mg Z.s) (U:gH K mg Z) (XT:dJ K mg TM W fT fW dN dI) (e9:M4 P w K mg base (n+2) Z "opposite" ["self"] (iB Z n)) (jm:PM P w K mg base TM (n+6) Z "cases" ["self"] (vF Z TM n)):bF P w K mg base (As P w TM) (n+7) f fd ["self"] (vF Z TM (n+1) 1):=by
 refine F.O3 uB (fun vs H Q E h=>?_) (fun cdv A outer s H vs Q E hr h=>?_)
 ·obtain ⟨p,c,rfl,sj,hc,hd,ho,yt,hfu,lQ,k1,k2⟩:=h
  rfl
 ·obtain ⟨p,c,rfl,sj,hc,hd,ho,yt,hfu,lQ,k1,k2⟩:=h
  have hu:=bD hr
  rw [show ay AL=[_] from rfl]
  refine ⟨_,(au (aJ (zm (Z:=Z) (zo (Z:=Z) (bJ (pv 0) rfl) U.cl jB e9 (hr.mono (by first | decide | omega)) aE) U.cl qD jm (hr.mono (by first | decide | omega)) oh))),?_⟩
  cases c with
  | cmp a i s b m=>exact absurd sj (by show ¬ (0=1);decide)
  | con b cs=>cases b <;> exact absurd sj (by first | (show ¬ (2=1);decide) | (show ¬ (3=1);decide))
  | neg c =>
  unfold bw at hc
  unfold Cd.ok at ho
  unfold Cd.iT at yt
  unfold Cd.full at hfu
  unfold Cd.dW at lQ
  unfold Cd.dep at hd
  obtain ⟨q,dx,u,e,ep,hc⟩:=hc
  cases e
  obtain ⟨pu,rfl⟩:=di hc
  obtain ⟨a1,a2,a3,a4,a5,a6⟩:=kG ho yt hfu
  refine ⟨_,rfl,p,Z.t,dx,_,_,rfl,ep,U.cl 1 (by decide),U.n4,Q6 _,pu,c,rfl,hc,pu,c,rfl,rfl,hc,by omega,ho,fun v H1 sm hv=>?_⟩
  obtain ⟨pv',rfl⟩:=di hv
  have en:c.cY.cN false=(Cd.neg c).cN false:=by
   rw [qE c false ho]
   conv=>rhs;unfold Cd.cN
  rw [← en] at k1 k2
  refine ⟨pv',c.cY,rfl,hv,pv',c.cY,rfl,rfl,hv,by omega,a1,a2,a3,by omega,fun h64 r cs H2 s2 fr hcs ok ce=>?_,fun h64 H2 s2=>k2 h64 H2 (sm.trans s2)⟩
  exact k1 h64 r cs H2 (sm.trans s2) (sm.free fr) hcs (ok.cY ho yt hfu) (by unfold gD;exact gD.cY ho ce)
abbrev AN:Stmt:=inClass (top 20) 4
theorem gk:aL ["self","found","condition"] ["self"] (aq AN):=⟨rfl,rfl,rfl,by decide +kernel,rfl,by decide +kernel,by decide +kernel⟩
theorem QN {f:Addr} {fd:FuncData} {Z:Cz} {n:Nat} {TM W fT fW:Addr} {dN dI:List Value} (F:dO K "cases" "Every.cases" AN f fd) (T:Txt K mg Z.s) (U:gH K mg Z) (XT:dJ K mg TM W fT fW dN dI) (jm:PM P w K mg base TM (n+6) Z "cases" ["self"] (vF Z TM n)) (qS:G1 P w K mg base TM 5 "cases_of_both" ["ones","others"] (qk Z TM)):bF P w K mg base (As P w TM) (n+7) f fd ["self"] (vF Z TM (n+1) 2):=by
 obtain ⟨a7j,Vz,iI,gQ,gR,iG⟩:=qS
 refine F.O3 gk (fun vs H Q E h=>?_) (fun cdv A outer s H vs Q E hr h=>?_)
 ·obtain ⟨p,c,rfl,sj,hc,hd,ho,yt,hfu,lQ,k1,k2⟩:=h
  rfl
 ·obtain ⟨p,c,rfl,sj,hc,hd,ho,yt,hfu,lQ,k1,k2⟩:=h
  have hu:=bD hr
  rw [show ay AN=[_,_,_] from rfl]
  refine ⟨_,(ao (aT (i:=1) gk.nd rfl (Or.inl rfl) (bh (aa (aG ai) ai)))
   (ao (eX PassesOwn.leaving rfl (dD (bJ (pv 0) rfl)) (aQ (i:=2) gk.nd rfl (Or.inl rfl)) (au (aT (i:=1) gk.nd rfl (Or.inl rfl) (aA iI (hr.mono (by first | decide | omega)) rfl gQ gR iG .nil oh (aa (pv 1) (aa (zm (Z:=Z) (pv 2) U.cl qD jm (hr.mono (by first | decide | omega)) oh) ai))))))
   (au (aJ (pv 1))))),?_⟩
  cases c with
  | cmp a i s b m=>exact absurd sj (by show ¬ (0=2);decide)
  | neg c=>exact absurd sj (by show ¬ (1=2);decide)
  | con b cs =>
  cases b with
  | false=>exact absurd sj (by first | (show ¬ (2=2);decide) | (show ¬ (3=2);decide))
  | true =>
  unfold bw at hc
  obtain ⟨q,dx,t,us,e,ep,et,l,hcs⟩:=hc
  cases e
  have ep:H p=some (.ins Z.e dx (lW t)):=ep
  have Bv:=aR.mp hcs
  have nW:us.length=cs.length:=ak Bv
  unfold Cd.ok at ho
  unfold Cd.iT at yt
  unfold Cd.full at hfu
  unfold Cd.dW at lQ
  unfold Cd.dep at hd
  have eN:(Cd.con true cs).cN false=kc cs false:=by
   conv=>lhs;unfold Cd.cN
   rfl
  rw [eN] at k1 k2
  refine ⟨(Nat.zero_le _),fun q0 wQ=>⟨Nat.le_of_lt (line 1 (by decide)),fun F0 G8=>?_⟩⟩
  have s0:=(new (o:=.tup []) wQ).trans (new (o:=.lst [.ref q0]) G8)
  have e0:upd (upd H q0 (.tup [])) F0 (.lst [.ref q0]) q0=some (.tup []):=new G8 _ _ ah
  refine ⟨_,rfl,p,Z.e,dx,_,_,rfl,s0 _ _ ep,U.cl 2 (by decide),U.n5,Ga _,t,rfl,⟨us,aX.of (s0 _ _ et)⟩,kU (xs:=us) (fun i σ H'=>∃ (a2:Option V) (F:Addr) (A1:Cs),σ=[some (.ref p),some (.ref F),a2]∧az (upd (upd H q0 (.tup [])) F0 (.lst [.ref q0])) H'∧dX Z H' F A1∧OP (cs.take i) A1∧gC (cs.take i) false true A1∧A1.length≤64∧H F=none) ⟨none,F0,[[]],rfl,fun _ _ z=>z,⟨[.ref q0],ah,.cons ⟨q0,[],rfl,e0,.nil⟩ .nil⟩,OP.nil,(by rw [List.take_zero];unfold gC;rfl),(by show 1≤64;decide),(new wQ).free G8⟩ ?_ ?_ ?_⟩
  ·rintro i σ H' _ ⟨a2,F,A1,rfl,sm,hF,pA,fA,lA,fF⟩
   exact aX.of (sm _ _ (s0 _ _ et))
  ·rintro i x σ H' hix ⟨a2,F,A1,rfl,sm,hF,pA,fA,lA,fF⟩
   obtain ⟨c,fX,nY⟩:=bg Bv hix
   obtain ⟨pu,rfl⟩:=di nY
   have iz:=List.mem_of_getElem? fX
   have dd:c.dep≤n:=by
    have z:=eT iz
    omega
   have Ti:=jg (i+1) cs
   rw [take_snoc fX,ia] at Ti
   have ft1:=kR (i+1) hfu.2
   rw [take_snoc fX] at ft1
   have sA:=s0.trans sm
   have mV:=nY.aB (aD.of sA)
   have nm:=EJ (o:=false) hfu.2 fX
   have eA:=pA.len
   have two:c.cN false≤kc cs false:=by
    have:=Nat.le_mul_of_pos_left (c.cN false) nm.2
    omega
   have lv8:=jg i cs
   refine ⟨_,rfl,_,rfl,pu,c,rfl,mV,pu,c,rfl,rfl,mV,dd,kJ ho iz,wI yt iz,gS hfu.2 iz,by omega,fun h64 r B H2 s2 fr hB Tg eB=>?_,fun h64 H2 s2=>k2 (by omega) H2 (sA.trans s2)⟩
   have pAB:=pA.snoc Tg
   have lB:=Tg.len
   obtain ⟨yF,eF,pF⟩:=id hF
   refine ⟨F,r,A1,B,rfl,⟨yF,s2 _ _ eF,L2.Paired.cF pF fun _ _ z=>z.aB (aD.of s2)⟩,hB,lA,by omega,(fun a ha=>by have:=pA.oB a ha;omega),(fun b hb=>by have:=Tg.oB b hb;omega),fun hle r2 H3 s3 Pe hC=>?_,fun hgt H3 s3=>k2 (by rw [eA,lB] at hgt;omega) H3 ((sA.trans s2).trans s3)⟩
   refine ⟨some (.ref pu),r2,bq A1 B,rfl,(sm.trans s2).trans s3,hC,?_,?_,by rw [dU];exact hle,(sA.trans s2).free Pe⟩
   ·rw [take_snoc fX]
    exact pAB
   ·rw [take_snoc fX]
    exact gC.snoc eB fA
  ·rintro σ H' ⟨a2,F,A1,rfl,sm,hF,pA,fA,lA,fF⟩
   rw [nW,List.take_length] at pA fA
   have eA:=pA.len
   exact ⟨_,rfl,k1 (by omega) F A1 H' (s0.trans sm) fF hF pA.ok fA.con⟩
abbrev AM:Stmt:=inClass (top 21) 4
theorem jI:aL ["self","found","condition"] ["self"] (aq AM):=⟨rfl,rfl,rfl,by decide +kernel,rfl,by decide +kernel,by decide +kernel⟩
theorem QL {f:Addr} {fd:FuncData} {Z:Cz} {n:Nat} {TM W fT fW:Addr} {dN dI:List Value} (F:dO K "cases" "Some.cases" AM f fd) (T:Txt K mg Z.s) (U:gH K mg Z) (XT:dJ K mg TM W fT fW dN dI) (jm:PM P w K mg base TM (n+6) Z "cases" ["self"] (vF Z TM n)) (wZ:G1 P w K mg base TM 4 "refuse_too_many" ["count"] (vB TM)):bF P w K mg base (As P w TM) (n+7) f fd ["self"] (vF Z TM (n+1) 3):=by
 obtain ⟨a7d,Vs,gA,fU,fV,gw⟩:=wZ
 refine F.O3 jI (fun vs H Q E h=>?_) (fun cdv A outer s H vs Q E hr h=>?_)
 ·obtain ⟨p,c,rfl,sj,hc,hd,ho,yt,hfu,lQ,k1,k2⟩:=h
  rfl
 ·obtain ⟨p,c,rfl,sj,hc,hd,ho,yt,hfu,lQ,k1,k2⟩:=h
  have hu:=bD hr
  rw [show ay AM=[_,_,_] from rfl]
  refine ⟨_,(ao (aT (i:=1) jI.nd rfl (Or.inl rfl) (bh ai))
   (ao (eX PassesOwn.leaving rfl (dD (bJ (pv 0) rfl)) (aQ (i:=2) jI.nd rfl (Or.inl rfl)) (ao (cV (jz PySem.F.plainAttrs_list PySem.F.slot_list_extend PySem.F.type_list_extend ym (pv 1) (aa (zm (Z:=Z) (pv 2) U.cl qD jm (hr.mono (by first | decide | omega)) oh) ai)))
   (au (cV (aA gA (hr.mono (by first | decide | omega)) rfl fU fV gw .nil oh (aa (bS bP (by rfl) T.len PySem.boot_len (aa (pv 1) ai)) ai))))))
   (au (aJ (pv 1))))),?_⟩
  cases c with
  | cmp a i s b m=>exact absurd sj (by show ¬ (0=3);decide)
  | neg c=>exact absurd sj (by show ¬ (1=3);decide)
  | con b cs =>
  cases b with
  | true=>exact absurd sj (by first | (show ¬ (2=3);decide) | (show ¬ (3=3);decide))
  | false =>
  unfold bw at hc
  obtain ⟨q,dx,t,us,e,ep,et,l,hcs⟩:=hc
  cases e
  have ep:H p=some (.ins Z.o dx (lW t)):=ep
  have Bv:=aR.mp hcs
  have nW:us.length=cs.length:=ak Bv
  unfold Cd.ok at ho
  unfold Cd.iT at yt
  unfold Cd.full at hfu
  unfold Cd.dW at lQ
  unfold Cd.dep at hd
  have eN:(Cd.con false cs).cN false=lR cs false:=by
   conv=>lhs;unfold Cd.cN
   rfl
  rw [eN] at k1 k2
  refine ⟨(Nat.zero_le _),fun F G8=>?_⟩
  have s0:=new (o:=.lst []) G8
  refine ⟨_,rfl,p,Z.o,dx,_,_,rfl,s0 _ _ ep,U.cl 3 (by decide),U.n6,Ga _,t,rfl,⟨us,aX.of (s0 _ _ et)⟩,kU (xs:=us) (fun i σ H'=>∃ (a2:Option V) (ys:List V) (A1:Cs),σ=[some (.ref p),some (.ref F),a2]∧bQ F (upd H F (.lst [])) H'∧H' F=some (.lst ys)∧Paired (jO Z H') ys A1∧OO (cs.take i) A1∧gC (cs.take i) false false A1∧A1.length≤64) ⟨none,[],[],rfl,fun _ _ z _=>z,ah,.nil,OO.nil,(by rw [List.take_zero];unfold gC;rfl),(by show 0≤64;decide)⟩ ?_ ?_ ?_⟩
  ·rintro i σ H' _ ⟨a2,ys,A1,rfl,but,eF,pr,pA,fA,lA⟩
   exact aX.of (but _ _ (s0 _ _ et) (av et G8))
  ·rintro i x σ H' hix ⟨a2,ys,A1,rfl,but,eF,pr,pA,fA,lA⟩
   obtain ⟨c,fX,nY⟩:=bg Bv hix
   obtain ⟨pu,rfl⟩:=di nY
   have iz:=List.mem_of_getElem? fX
   have dd:c.dep≤n:=by
    have z:=eT iz
    omega
   have Ti:=jg (i+1) cs
   rw [take_snoc fX,ia] at Ti
   have ft1:=kR (i+1) hfu.2
   rw [take_snoc fX] at ft1
   have sA:az H H':=fun b' o' e=>but b' o' (s0 _ _ e) (av e G8)
   have mV:=nY.aB (aD.of sA)
   have nm:=EI (o:=false) fX
   have eA:=pA.len
   refine ⟨_,rfl,.inl ⟨rfl,_,bC.of eF⟩,_,rfl,pu,c,rfl,mV,pu,c,rfl,rfl,mV,dd,kJ ho iz,wI yt iz,gS hfu.2 iz,by omega,fun h64 r B H2 s2 fr hB Tg eB=>?_,fun h64 H2 s2=>k2 (by omega) H2 (sA.trans s2)⟩
   have pAB:=pA.snoc Tg
   have lB:=Tg.len
   obtain ⟨zs,ez,pz⟩:=id hB
   have l1:=ak pr
   have l2:=ak pz
   have TN:=s2 _ _ eF
   refine ⟨F,r,ys,zs,rfl,rfl,TN,ez,Nat.le_of_lt (line _ (by omega)),?_⟩
   have b3:bQ F H2 (upd H2 F (.lst (ys++zs))):=bQ.upd
   have Pc:aD H2 (upd H2 F (.lst (ys++zs))):=aD.soft b3 TN gJ
   have sF:az H (upd H2 F (.lst (ys++zs))):=fun b' o' e=>b3 b' o' (s2 _ _ (sA _ _ e)) (av e G8)
   refine ⟨_,rfl,F,_,rfl,.inl (bC.of ah),(ys++zs).length,rfl,fun hle=>?_,fun hgt H3 s3=>k2 (by rw [List.length_append] at hgt;omega) H3 (sF.trans s3)⟩
   refine ⟨some (.ref pu),ys++zs,A1++B,rfl,(but.trans (bQ.of s2)).trans b3,ah,?_,?_,?_,?_⟩
   ·exact cT (L2.Paired.cF pr fun _ _ z=>(z.aB (aD.of s2)).aB Pc) (L2.Paired.cF pz fun _ _ z=>z.aB Pc)
   ·rw [take_snoc fX]
    exact pAB
   ·rw [take_snoc fX]
    exact gC.snoc eB fA
   ·rw [List.length_append] at hle ⊢
    omega
  ·rintro σ H' ⟨a2,ys,A1,rfl,but,eF,pr,pA,fA,lA⟩
   have sA:az H H':=fun b' o' e=>but b' o' (s0 _ _ e) (av e G8)
   rw [nW,List.take_length] at pA fA
   have eA:=pA.len
   exact ⟨_,rfl,k1 (by omega) F A1 H' sA G8 ⟨ys,eF,pr⟩ pA.ok fA.con⟩
abbrev oN:Stmt:=top 12
theorem nC:aL ["pairs","number","weights","thing","weight"] ["pairs","number"] (aq oN):=⟨rfl,rfl,rfl,by decide +kernel,rfl,by decide +kernel,by decide +kernel⟩
theorem FL {f C:Addr} {fd:FuncData} (F:dO K "sum_of" "sum_of" oN f fd) (T:Txt K mg C) (d_init:Mr P w K mg base 1 C ["self","terms","number"] (lZ C)):bF P w K mg base fh 3 f fd ["pairs","number"] (qj C):=by
 obtain ⟨zW,vf,dG,M,dF⟩:=d_init
 refine F.ok nC (fun vs H Q E h=>?_) (fun cdv A outer s H vs Q E hr h=>?_)
 ·obtain ⟨a,n,ps,rfl,hs,hz,k⟩:=h
  rfl
 ·obtain ⟨a,n,ps,rfl,hs,hz,k⟩:=h
  have hu:=bD hr
  rw [show ay oN=[_,_,_] from rfl]
  refine ⟨_,(ao (aT (i:=2) nC.nd rfl (Or.inr rfl) mG)
   (ao (eX PassesOwn.never rfl (CU (pv 0)) (rV rfl (cH (aQ (i:=3) nC.nd rfl (Or.inl rfl)) (cH (aQ (i:=4) nC.nd rfl (Or.inl rfl)) iM))) (au (kD hu (pv 2) (pv 3) (aZ dQ (AU hu (pv 2) (pv 3) aj ⟨rfl,rfl,rfl,rfl⟩) (pv 4)) rfl)))
   (au (aJ (cW M dG (hr.mono (by first | decide | omega)) rfl T.sD dF .nil aE (aa (bZ (br ["thing"] ["weights"] [2] rfl (by decide +kernel) (by decide +kernel) (by with_unfolding_all rfl) (by exact ⟨rfl,trivial⟩) (by rfl) rfl (by rfl)) rfl (eK (bS (kX rfl) (by rfl) T.sorted boot_sorted (aa (pv 2) ai))) (fun _ _ _ _=>(aQ (i:=0) (show List.Nodup (["thing","weights"]:List Str) by decide +kernel) rfl (Or.inl rfl) (Or.inr rfl))) (fun _ _ _ _=>(kC (aO O2 (iO hu (pv 1) (pv 0) (fun _ _=>rfl)) aj (aV _)))) (fun _ _ _ _=>(aG (aa (pv 0) (aa (iO hu (pv 1) (pv 0) (fun _ _=>rfl)) ai))))) (aa (pv 1) ai))))))),?_⟩
  intro d hd
  have lz:=line ps.length (by omega)
  refine ⟨_,rfl,a,rfl,K7 (hs.same (new hd)) (fun i σ H'=>∃ e t w,σ=[some (.ref a),some (.int n),some (.ref d),t,w]∧H'=upd H d (.dK (enc e))∧Tab (ps.take i) e) ⟨[],none,none,rfl,rfl,Tab.nil⟩ ?_ ?_ ?_⟩
  ·rintro i σ H' ⟨e,t,w,rfl,rfl,tab⟩
   exact Kp.dict
  ·rintro i v pr σ H' hi ⟨a',rfl,ha'⟩ ⟨e,t,w,rfl,rfl,tab⟩
   have he:(enc e).length < sizeLine:=by
    have h1:=tab.len
    rw [List.length_take] at h1
    rw [nO]
    omega
   refine ⟨a',_,rfl,aX.of ha',rfl,_,_,rfl,_,_,rfl,rfl,?_⟩
   refine ⟨_,rfl,d,rfl,.inl ⟨_,.inl ah⟩,_,rfl,_,nZ.k (k:=Sum.inr pr.1) ah,_,rfl,_,_,BG e pr.1,rfl,_,rfl,_,rfl,d,_,rfl,xM.k (k:=Sum.inr pr.1) ah he,?_⟩
   refine ⟨step e pr,_,_,rfl,?_,?_⟩
   ·rw [uR,z5]
    rfl
   ·rw [take_snoc hi]
    exact tab.step pr
  ·rintro σ H' ⟨e,t,w,rfl,rfl,tab⟩
   rw [List.take_length] at tab
   have el:(enc e).length < 64:=by have:=tab.len;rw [nO];omega
   refine ⟨_,rfl,d,_,keys e,rfl,ah,wW e,el,fun l ys hl hp hso=>⟨l,rfl,⟨_,bC.of ah⟩,?_⟩⟩
   have yl:ys.length≤ps.length:=by
    rw [hp.length_eq]
    unfold keys
    rw [List.length_map]
    exact tab.len
   refine eg (xs:=ys.map V.str) (fun i out H'=>az (upd (upd H d (.dK (enc e))) l (.lst (ys.map V.str))) H'∧xX H' out (outs e (ys.take i))) ⟨az.refl _,.nil⟩ (fun i out H' _ q=>bC.of (q.1 _ _ ah)) ?_ ?_
   ·rintro i v out H' hi ⟨sm,pr⟩
    obtain ⟨y,hy,rfl⟩:∃ y,ys[i]?=some y∧v=V.str y:=by
     rw [List.getElem?_map] at hi
     cases q:ys[i]? with
     | none=>rw [q] at hi;cases hi
     | some y=>rw [q] at hi;cases hi;exact ⟨y,rfl,rfl⟩
    have hm:y∈keys e:=hp.mem_iff.mp (List.mem_of_getElem? hy)
    have Ri:H' d=some (.dK (enc e)):=sm _ _ (by rw [aM (av ah hl)];exact ah)
    have ol:out.length < sizeLine:=by
     rw [bY pr]
     have:=mH e (ys.take i)
     rw [List.length_take] at this
     omega
    refine ⟨Ext.one,_,rfl,_,rfl,d,_,rfl,mJ Ri hm,rfl,_,rfl,?_⟩
    dsimp only
    by_cases g0:get e y=0
    ·rw [if_neg (by simp [g0])]
     refine ⟨sm,?_⟩
     rw [take_snoc hy,nE,if_pos g0,List.append_nil]
     exact pr
    ·rw [if_pos (by simp [g0])]
     refine ⟨_,rfl,_,rfl,_,rfl,d,_,rfl,mJ Ri hm,(szl 2),fun q hq=>⟨ol,az.new sm hq,?_⟩⟩
     rw [take_snoc hy,nE,if_neg g0]
     exact fm (pr.keep fun _ _ z=>new hq _ _ z) (fP ⟨q,rfl,ah⟩)
   ·rintro out H' ⟨sm,pr⟩ q hq
    rw [List.length_map,List.take_length] at pr
    have s0:az H H':=fun b o z=>sm b o (az.new (new hd) hl b o z)
    refine ⟨_,rfl,fun x dx hx hdx ne=>?_⟩
    have h1:az (upd H' q (.lst out)) (upd (upd (upd H' q (.lst out)) dx (.own x)) x (.ins C dx [])):=fun b o z=>by
     rw [aM (av z hx),aM (av z hdx)]
     exact z
    refine ⟨x,dx,q,n,outs e ys,rfl,ah,.inl ⟨out,h1 _ _ ah,pr.keep fun _ _ z=>h1 _ _ (new hq _ _ z)⟩,?_,fun H2 but S=>⟨rfl,?_⟩⟩
    ·have:=mH e ys
     omega
    ·refine k x (outs e ys) H2 (fun b o z=>but b o (h1 _ _ (az.new s0 hq b o z)) (av (az.new s0 hq b o z) hx)) (tab.gat hp hso) ?_ S
     have:=mH e ys
     omega
abbrev oS:Stmt:=top 38
theorem ql:aL ["_law_cell","_law_k","_law_mix"] ["_law_cell","_law_k"] (aq oS):=⟨rfl,rfl,rfl,by decide +kernel,rfl,by decide +kernel,by decide +kernel⟩
theorem JT {f C:Addr} {fd:FuncData} (F:dO K "_law_mixed" "_law_mixed" oS f fd) (T:Txt K mg C) :bF P w K mg base fh 1 f fd ["_law_cell","_law_k"] uU:=by
 refine F.ok ql (fun vs H Q E h=>?_) (fun cdv A outer s H vs Q E hr h=>?_)
 ·obtain ⟨c,kk,rfl,k⟩:=h
  rfl
 ·obtain ⟨c,kk,rfl,k⟩:=h
  have hu:=bD hr
  rw [show ay oS=[_,_] from rfl]
  refine ⟨_,(ao (aT (i:=2) ql.nd rfl (Or.inl rfl) (aZ kH (aZ fR (aZ dQ (aZ dQ (pv 0) (aZ fR aj (pv 1))) aj) aj) aj))
   (au (aJ (aZ kH (aZ dQ (aZ fR (pv 2) (pv 2)) (aZ fR aj (pv 2))) aj)))),?_⟩
  refine ⟨_,rfl,_,rfl,_,_,rfl,rfl,.inl ⟨by decide,by decide⟩,_,_,rfl,rfl,_,_,rfl,rfl,_,_,rfl,rfl,.inr ⟨by decide,by decide⟩,_,_,rfl,rfl,(by show (0:Int) < 2147483647;decide),?_⟩
  have h0:=Int.emod_nonneg ((c+7919*kk+11)*48271) (show (2147483647:Int)≠0 by decide)
  have h1:=Int.emod_lt_of_pos ((c+7919*kk+11)*48271) (show (0:Int) < 2147483647 by decide)
  generalize (c+7919*kk+11)*48271 % 2147483647=mx at h0 h1
  refine ⟨_,rfl,_,rfl,_,_,rfl,rfl,.inl ⟨by omega,by omega⟩,_,rfl,_,_,rfl,rfl,.inl ⟨by decide,by decide⟩,_,_,rfl,rfl,_,_,rfl,rfl,(by show (0:Int) < 2147483399;decide),?_⟩
  exact k _ (Int.emod_nonneg _ (by decide)) (Int.emod_lt_of_pos _ (by decide))
abbrev kB:Stmt:=top 37
theorem iW:aL ["_law_script","_law_k","_law_cell"] ["_law_script","_law_k"] (aq kB):=⟨rfl,rfl,rfl,by decide +kernel,rfl,by decide +kernel,by decide +kernel⟩
theorem C4 {f C:Addr} {fd:FuncData} (F:dO K "_law_cell_at" "_law_cell_at" kB f fd) (T:Txt K mg C) (Aa:Dn P w K mg base 1 "_law_mixed" ["_law_cell","_law_k"] uU):bF P w K mg base fh 2 f fd ["_law_script","_law_k"] (CK K):=by
 obtain ⟨NW,Le,An,wz,wJ,Ae⟩:=Aa
 refine F.ok iW (fun vs H Q E h=>?_) (fun cdv A outer s H vs Q E hr h=>?_)
 ·obtain ⟨a,ns,kk,rfl,hS,k⟩:=h
  rfl
 ·obtain ⟨a,ns,kk,rfl,hS,k⟩:=h
  have hu:=bD hr
  rw [show ay kB=[_,_,_] from rfl]
  refine ⟨_,(ao (aT (i:=2) iW.nd rfl (Or.inl rfl) aj)
   (ao (bR (aO yh (pv 1) (bS bP (by rfl) T.len PySem.boot_len (aa (pv 0) ai)) (aV _)) (au (aT (i:=2) iW.nd rfl (Or.inl rfl) (aF bM (pv 0) (pv 1) (fun _ _=>rfl)))) bE)
   (au (aJ (aA An (hr.mono (by first | decide | omega)) rfl wz wJ Ae .nil aE (aa (pv 2) (aa (aZ dQ aj (pv 1)) ai))))))),?_⟩
  refine ⟨_,rfl,_,rfl,a,_,rfl,.inl hS,_,_,rfl,rfl,_,rfl,?_⟩
  refine Bs (fun hc=>?_) (fun hc=>?_)
  ·have hc:=of_decide_eq_true hc
   rw [List.length_map] at hc
   have hk:(ns.map V.int)[kk]?=some (V.int (ns[kk]'(by omega))):=by rw [List.getElem?_map,List.getElem?_eq_getElem (by omega)];rfl
   refine ⟨_,rfl,_,rfl,a,_,_,_,rfl,rfl,hS,fE hk,?_⟩
   exact ⟨_,rfl,_,rfl,_,_,rfl,rfl,_,_,rfl,fun r _ _=>k r⟩
  ·exact ⟨_,rfl,_,rfl,_,_,rfl,rfl,_,_,rfl,fun r _ _=>k r⟩
abbrev vR:Stmt:=top 39
theorem AG:aL ["_law_draw","_law_size"] ["_law_draw","_law_size"] (aq vR):=⟨rfl,rfl,rfl,by decide +kernel,rfl,by decide +kernel,by decide +kernel⟩
theorem M8 {f C:Addr} {fd:FuncData} (F:dO K "_law_next" "_law_next" vR f fd) (T:Txt K mg C) (Aa:Dn P w K mg base 1 "_law_mixed" ["_law_cell","_law_k"] uU):bF P w K mg base fh 2 f fd ["_law_draw","_law_size"] jH:=by
 obtain ⟨NW,Le,An,wz,wJ,Ae⟩:=Aa
 refine F.ok AG (fun vs H Q E h=>?_) (fun cdv A outer s H vs Q E hr h=>?_)
 ·obtain ⟨d,n,rfl,hd,hn,k⟩:=h
  rfl
 ·obtain ⟨d,n,rfl,hd,hn,k⟩:=h
  have hu:=bD hr
  rw [show ay vR=[_,_] from rfl]
  refine ⟨_,(ao (MI (pv 0) aj K3 aj zP set_list)
   (au (aJ (aZ kH (aZ zy (aA An (hr.mono (by first | decide | omega)) rfl wz wJ Ae .nil aE (aa (aF bM (pv 0) aj (fun _ _=>rfl)) (aa (aF bM (pv 0) aj (fun _ _=>rfl)) ai))) aj) (pv 1))))),?_⟩
  obtain ⟨x,y,hd⟩:=hd
  refine ⟨_,rfl,d,_,1,_,rfl,rfl,bC.of hd,rfl,_,_,rfl,rfl,d,_,_,1,rfl,rfl,hd,rfl,?_⟩
  refine ⟨_,rfl,d,_,_,_,rfl,rfl,bC.of ah,rfl,_,rfl,d,_,_,_,rfl,rfl,bC.of ah,rfl,_,_,rfl,fun r h0 h1=>?_⟩
  refine ⟨_,_,rfl,rfl,⟨by decide,by decide⟩,_,rfl,_,_,rfl,rfl,hn,?_⟩
  have e0:=Int.emod_nonneg (r / 7) (Int.ne_of_gt hn)
  have e1:=Int.emod_lt_of_pos (r / 7) hn
  have e:=Int.toNat_of_nonneg e0
  rw [← e] at e1
  show Q (V.int (r / 7 % n)) _
  rw [← e]
  exact k _ _ e1 bQ.upd ⟨_,_,ah⟩
abbrev qv:Stmt:=top 41
theorem tT:aL ["_law_words"] [] (aq qv):=⟨rfl,rfl,rfl,by decide +kernel,rfl,by decide +kernel,by decide +kernel⟩
abbrev eA:Expr:=SG ((ay qv).getD 0 (.Pass ⟨0,0,0,0⟩))
abbrev eB:Expr:=Qn (a0U ((ay qv).getD 1 (.Pass ⟨0,0,0,0⟩)))
theorem kA1:Bk eA=some Kz:=rfl
theorem kB1:Bk eB=some Ky:=rfl
theorem Nc {f C:Addr} {fd:FuncData} (F:dO K "_law_kept" "_law_kept" qv f fd) (T:Txt K mg C) :bF P w K mg base fh 1 f fd [] y9:=by
 refine F.ok tT (fun vs H Q E h=>?_) (fun cdv A outer s H vs Q E hr h=>?_)
 ·obtain ⟨rfl,k⟩:=h
  rfl
 ·obtain ⟨rfl,k⟩:=h
  have hu:=bD hr
  have ha:=kA1
  have hb:=kB1
  rw [show ay qv=[.Assign [.Name "_law_words" _] eA _,.Return (some (.BinOp (.Name "_law_words" _) .Add eB _)) _] from rfl]
  generalize eA=qa at ha ⊢
  generalize eB=qb at hb ⊢
  refine ⟨_,(ao (aT (i:=0) tT.nd rfl (Or.inl rfl) (zk ha) (Et ha))
   (au (aJ (aZ fS (pv 0) (zk hb))))),?_⟩
  refine ⟨(szl 13),fun l1 n1=>?_⟩
  refine ⟨_,rfl,(szl 8),fun l2 n2=>?_⟩
  have ne:l1≠l2:=av ah n2
  refine ⟨l1,l2,_,_,rfl,rfl,(by rw [aM ne];exact ah),ah,(by show 13+8≤sizeLine;exact Nat.le_of_lt (line 21 (by decide))),fun p hp=>?_⟩
  refine k p _ (az.new (az.new (new n1) n2) hp) ((az.new (new n1) n2).free hp) ?_
  rw [ah]
  rw [show eZ.map V.str=Kz.map V.str++Ky.map V.str from List.map_append]
abbrev mz:Stmt:=top 40
theorem bI:aL ["_law_draw","_law_many","_law_some","_law_size","_law_place","_law_base","_law_shift","_law_kept_here","_law_alike","_law_names_here","_law_k","_law_word","_law_turn"] ["_law_draw","_law_many"] (aq mz):=⟨rfl,rfl,rfl,by decide +kernel,rfl,by decide +kernel,by decide +kernel⟩
abbrev eH:Expr:=SG ((ay mz).getD 5 (.Pass ⟨0,0,0,0⟩))
theorem kH1:Bk eH=some lP:=rfl
theorem JS {f C:Addr} {fd:FuncData} (F:dO K "_law_names" "_law_names" mz f fd) (T:Txt K mg C) (fY:Dn P w K mg base 2 "_law_next" ["_law_draw","_law_size"] jH) (So:Dn P w K mg base 1 "_law_kept" [] y9):bF P w K mg base fh 3 f fd ["_law_draw","_law_many"] yX:=by
 obtain ⟨sS,nM,cy,bK,bL,cu⟩:=fY
 obtain ⟨a7i,YI,SR,Nr,NC,SA⟩:=So
 refine F.ok bI (fun vs H Q E h=>?_) (fun cdv A outer s H vs Q E hr h=>?_)
 ·obtain ⟨d,m,rfl,hd,hm,k⟩:=h
  rfl
 ·obtain ⟨d,m,rfl,hd,hm,k⟩:=h
  have hu:=bD hr
  have hh:=kH1
  rw [show ay mz=[_,_,_,_,_,.Assign [.Name "_law_kept_here" _] eH _,_,_,_,_] from rfl]
  generalize eH=qh at hh ⊢
  refine ⟨_,(ao (aT (i:=2) bI.nd rfl (Or.inr rfl) aP)
   (ao (aT (i:=3) bI.nd rfl (Or.inl rfl) (aZ dQ aj (aA cy (hr.mono (by first | decide | omega)) rfl bK bL cu .nil aE (aa (pv 0) (aa aj ai)))))
   (ao (aT (i:=4) bI.nd rfl (Or.inl rfl) (aA cy (hr.mono (by first | decide | omega)) rfl bK bL cu .nil aE (aa (pv 0) (aa (pv 3) ai))))
   (ao (nD (i:=5) bI.nd rfl (Or.inl rfl) (br ["_law_k"] ["_law_some","_law_draw"] [2,0] rfl (by decide +kernel) (by decide +kernel) (by with_unfolding_all rfl) (by exact ⟨rfl,rfl,trivial⟩) (by rfl) rfl (by rfl)) rfl (fz rfl T.range (aa (pv 3) ai)) (fun _ _ _ _=>(aQ (i:=0) (show List.Nodup (["_law_k","_law_some","_law_draw"]:List Str) by decide +kernel) rfl (Or.inl rfl) (Or.inr rfl))) (fun _ _ _ _=>cA) (fun _ _ _ _=>(aF zM (pv 1) (aA cy (hr.mono (by first | decide | omega)) rfl bK bL cu .nil aE (aa (pv 2) (aa aj ai))) (fun _ _=>rfl))))
   (ao (aT (i:=6) bI.nd rfl (Or.inl rfl) (aA cy (hr.mono (by first | decide | omega)) rfl bK bL cu .nil aE (aa (pv 0) (aa aj ai))))
   (ao (aT (i:=7) bI.nd rfl (Or.inl rfl) (zk hh) (Et hh))
   (ao (aT (i:=8) bI.nd rfl (Or.inl rfl) (eO bW (aA cy (hr.mono (by first | decide | omega)) rfl bK bL cu .nil aE (aa (pv 0) (aa aj ai))) aj (aV _)))
   (ao (aT (i:=9) bI.nd rfl (Or.inl rfl) (bh ai))
   (ao (eX PassesOwn.never rfl (fz rfl T.range (aa (pv 1) ai)) (aQ (i:=10) bI.nd rfl (Or.inl rfl)) (ao (Jj (aF zM (pv 2) (aZ kH (aZ dQ (pv 6) (aZ fR aj (pv 10))) aj) (fun _ _=>rfl)) (Qy (pv 5) (pv 4) set_list))
   (ao (aT (i:=11) bI.nd rfl (Or.inl rfl) (jz PySem.F.plainAttrs_str PySem.F.slot_str_join PySem.F.type_str_join Nn aP (aa (pv 5) ai)))
   (ao (bR (PW.pt (vX (vZ (pv 8)) (qw (aO yh (pv 10) aj (aV _))))) (au (aT (i:=11) bI.nd rfl (Or.inl rfl) (aF bM (pv 7) (aZ kH (aZ dQ (pv 10) (pv 6)) aj) (fun _ _=>rfl)))) bE)
   (ao (aT (i:=12) bI.nd rfl (Or.inl rfl) aj)
   (ao (Jh PassesOwn.never (PW.pt (vW (aO rX (pv 11) (pv 9) (by rfl)) (rS (aO rX (pv 11) (JG SR (hr.mono (by first | decide | omega)) rfl Nr NC SA .nil aE) (by rfl))))) (ao (CS (i:=12) bI.nd rfl (Or.inl rfl) aj zP)
   (au (aT (i:=11) bI.nd rfl (Or.inl rfl) (aZ kI (aZ kI aP (aF zM (pv 2) (aZ kH (pv 12) aj) (fun _ _=>rfl))) (aF zM (pv 2) (aZ kH (aZ dQ (pv 10) (pv 12)) aj) (fun _ _=>rfl)))))))
   (au (cV (jz PySem.F.plainAttrs_list PySem.F.slot_list_append PySem.F.type_list_append dZ (pv 9) (aa (pv 11) ai))))))))))
   (au (aJ (pv 9)))))))))))),?_⟩
  refine ⟨_,rfl,d,8,rfl,hd,(by decide),fun r1 H1 h1 b1 d1=>⟨_,_,rfl,rfl,?_⟩⟩
  refine ⟨_,rfl,_,rfl,d,_,rfl,d1,(by omega),fun r2 H2 h2 b2 d2=>?_⟩
  refine ⟨_,rfl,_,rfl,(by omega),(by omega),jj (n:=(1+(r1:Int)).toNat) (fun i ys H'=>bQ d H2 H'∧Dr H' d∧∃ ss:List Str,ys=ss.map V.str∧ss.length=i∧∀ x∈ss,x.length=1) ⟨fun _ _ e _=>e,d2,[],rfl,rfl,fun _ h=>nomatch h⟩ ?_ ?_⟩
  ·rintro i ys H' hi ⟨b,dr,ss,rfl,hl,hs⟩
   refine ⟨Ext.one,iH ⟨_,rfl,_,rfl,d,26,rfl,dr,(by decide),fun r3 H3 h3 b3 d3=>⟨xP,_,_,rfl,rfl,eU,LR (by omega),?_,b.trans b3,d3,ss++[DN (97+r3)],?_,?_,?_⟩⟩⟩
   ·rw [List.length_map,hl]
    exact line _ (by omega)
   ·rw [List.map_append]
    rfl
   ·rw [List.length_append,hl]
    rfl
   ·intro x hx
    rcases List.mem_append.mp hx with h | h
    ·exact hs x h
    ·rw [List.mem_singleton.mp h]
     rfl
  rintro ys H3 ⟨b3,d3,ss,rfl,hl,hs⟩ B hB
  have d4:Dr (upd H3 B (.lst (ss.map V.str))) d:=d3.same (new hB)
  refine ⟨_,rfl,d,26,rfl,d4,(by decide),fun r4 H5 h4 b5 d5=>?_⟩
  refine ⟨(by rw [List.length_map];exact Nat.le_of_lt (line _ (by decide))),fun kl Yx=>?_⟩
  have d6:Dr (upd H5 kl (.lst (lP.map V.str))) d:=d5.same (new Yx)
  refine ⟨_,rfl,d,3,rfl,d6,(by decide),fun r5 H7 h5 b7 d7=>⟨rfl,?_⟩⟩
  generalize decide (V.int (r5:Int)=V.int 1)=al
  refine ⟨(Nat.zero_le _),fun nl hnl=>?_⟩
  have nBd:B≠d:=d3.ne hB
  have Nm:kl≠d:=d5.ne Yx
  have nnd:nl≠d:=d7.ne hnl
  have f3:bQ d H H3:=(b1.trans b2).trans b3
  have f7:bQ d H H7:=((f3.new hB).trans b5 |>.new Yx).trans b7
  have f8:bQ d H (upd H7 nl (.lst [])):=f7.new hnl
  have hB5:H5 B=some (.lst (ss.map V.str)):=b5 _ _ ah nBd
  have nBk:B≠kl:=av hB5 Yx
  have hB7:H7 B=some (.lst (ss.map V.str)):=b7 _ _ (by rw [aM nBk];exact hB5) nBd
  have Yz:H7 kl=some (.lst (lP.map V.str)):=b7 _ _ ah Nm
  have UX:B≠nl:=av hB7 hnl
  have Th:kl≠nl:=av Yz hnl
  have sz:(1+(r1:Int)).toNat≤8:=by omega
  have pl:r2 < (1+(r1:Int)).toNat:=by omega
  clear hd d1 b1 d2 b2 b3 d3 d4 d6 b5 d5 b7 hB5
  refine ⟨_,rfl,_,rfl,(by omega),(by omega),nL (n:=(m:Int).toNat) (fun i σ H'=>∃ (xs bs:List Str) (kk w t:Option V),σ=[some (.ref d),some (.int m),some (.str xP),some (.int (1+r1)),some (.int r2),some (.ref B),some (.int r4),some (.ref kl),some (.bl al),some (.ref nl),kk,w,t]∧Xd B nl (upd H7 nl (.lst [])) H'∧H' B=some (.lst (bs.map V.str))∧bs.length=(1+(r1:Int)).toNat∧(∀ x∈bs,x.length=1)∧H' nl=some (.lst (xs.map V.str))∧xs.length=i∧∀ x∈xs,x.length≤8)
   ⟨[],ss,none,none,none,rfl,fun _ _ e _ _=>e,(by rw [aM UX];exact hB7),hl,hs,ah,rfl,fun _ h=>nomatch h⟩ ?_ ?_⟩
  ·rintro i σ H' hi ⟨xs,bs,kk,w,t,rfl,bt,eB,lB,sB,eN,lN,sN⟩
   have im:i < 12:=by omega
   refine ⟨_,rfl,_,rfl,_,rfl,_,_,rfl,rfl,.inl ⟨by decide,by decide⟩,_,_,rfl,rfl,_,_,rfl,rfl,(by show (0:Int) < 26;decide),xP,_,_,rfl,rfl,eU,fG _,_,rfl,_,rfl,B,_,_,r2,rfl,rfl,eB,NI (by rw [List.length_map,lB];exact pl),?_⟩
   generalize (97+(((r4:Int)+5*(0+(i:Int))) % 26).toNat)=c
   have TQ:upd H' B (.lst ((bs.map V.str).set r2 (V.str ⟨#[c]⟩))) B=some (.lst ((bs.set r2 (DN c)).map V.str)):=by rw [ah,List.map_set]
   have Sg:upd H' B (.lst ((bs.map V.str).set r2 (V.str ⟨#[c]⟩))) nl=some (.lst (xs.map V.str)):=by rw [aM UX.symm];exact eN
   have Tj:(bs.set r2 (DN c)).length=(1+(r1:Int)).toNat:=by rw [List.length_set];exact lB
   have sB':∀ x∈bs.set r2 (DN c),x.length=1:=fun x hx=>by
    rcases List.mem_or_eq_of_mem_set hx with h | h
    ·exact sB x h
    ·rw [h]
     rfl
   have WV:Xd B nl (upd H7 nl (.lst [])) (upd H' B (.lst ((bs.map V.str).set r2 (V.str ⟨#[c]⟩)))):=fun b o e n1 n2=>by
    rw [aM n1]
    exact bt b o e n1 n2
   have hk':upd H' B (.lst ((bs.map V.str).set r2 (V.str ⟨#[c]⟩))) kl=some (.lst (lP.map V.str)):=WV _ _ (by rw [aM Th];exact Yz) nBk.symm Th
   generalize bs.set r2 (DN c)=cs at TQ Tj sB'
   refine ⟨rfl,_,rfl,_,B,cs,rfl,rfl,TQ,?_,?_⟩
   ·rw [AB cs sB',Tj]
    show _+_*0≤_
    omega
   generalize upd H' B (.lst ((bs.map V.str).set r2 (V.str ⟨#[c]⟩)))=Hb at TQ Sg WV hk'
   have hw0:(Txt.join (Str.ofString "") cs).length≤8:=by rw [KN cs sB',Tj];exact sz
   generalize Txt.join (Str.ofString "") cs=w0 at hw0
   obtain ⟨kx,lS,kat⟩:=Gj (0+(i:Int)+r4)
   refine ⟨_,rfl,_,rfl,?_⟩
   cases al
   ·refine zN (zN ?_)
    refine vp (fun σ H2=>∃ (t:Nat) (wd:Str),σ=[some (.ref d),some (.int m),some (.str xP),some (.int (1+r1)),some (.int r2),some (.ref B),some (.int r4),some (.ref kl),some (.bl false),some (.ref nl), some (.int (0+(i:Int))),some (.str wd),some (.int (t:Int))]∧wd.length≤8∧(1≤t→wd=zt (0+(i:Int)) t)∧(∀ s,s+1 < t→zt (0+(i:Int)) (s+1)∈xs)∧t≤14∧az Hb H2) QY ⟨0,_,rfl,(by first | exact hw0 | exact mU _ lS),fun h=>absurd h (by decide),fun s h=>absurd h (by omega),by decide,az.refl _⟩ ?_ (zD (nG (gm _) (gm _)) (nG (gm _) r9))
    rintro σ H2 ⟨t,wd,rfl,hw,e1,e2,e3,sm⟩
    have turn:∀ H3,az H2 H3→(wd∈xs∨wd∈eZ)→t+1≤14∧∀ s,s+1 < t+1→zt (0+(i:Int)) (s+1)∈xs:=fun H3 s3 hc=>by
     have q:∀ s,s < t→zt (0+(i:Int)) (s+1)∈xs:=fun s hs=>by
      by_cases hs':s+1 < t
      ·exact e2 s hs'
      ·have e:t=s+1:=by omega
       have e':=e1 (by omega)
       rw [e] at e'
       rw [← e']
       rcases hc with h | h
       ·exact h
       ·exact absurd (e' ▸ h) (oz _ _)
     have:=Ck (by omega) q
     exact ⟨by omega,fun s hs=>q s (by omega)⟩
    have i1:(if false=true then !u9 (.str wd) (xs.map V.str) else u9 (.str wd) (xs.map V.str))=decide (wd∈xs):=eS wd xs
    have i2:(if false=true then !u9 (.str wd) (eZ.map V.str) else u9 (.str wd) (eZ.map V.str))=decide (wd∈eZ):=eS wd eZ
    refine ⟨_,rfl,_,rfl,nl,_,rfl,.inl (bC.of (sm _ _ Sg)),rfl,d9 _,decide (wd∈xs),congrArg V.bl i1,?_⟩
    refine Bs (fun hc=>?_) (fun hc=>?_)
    ·obtain ⟨t1,t2⟩:=turn H2 (az.refl _) (.inl (of_decide_eq_true hc))
     refine pQ ?_
     refine ⟨_,rfl,_,_,rfl,rfl,?_⟩
     refine ⟨_,rfl,_,rfl,_,_,rfl,rfl,(by show (0:Int) < 26;decide),xP,_,_,rfl,rfl,eU,fG _,_,_,rfl,rfl,(by show 1+1≤sizeLine;exact Nat.le_of_lt (line 2 (by decide))),?_⟩
     refine ⟨_,rfl,_,rfl,_,rfl,_,_,rfl,rfl,_,_,rfl,rfl,(by show (0:Int) < 26;decide),xP,_,_,rfl,rfl,eU,fG _,_,_,rfl,rfl,(by rw [jG];show 1+1+1≤sizeLine;exact Nat.le_of_lt (line 3 (by decide))),?_⟩
     refine ⟨⟨t+1,zt (0+(i:Int)) (t+1),rfl,(by unfold zt;rw [rA];decide),fun _=>rfl,t2,t1,sm.trans (az.refl _)⟩,?_⟩
     show 20 - (((t:Int)+1).toNat) < 20 - ((t:Int)).toNat
     omega
    refine ⟨_,rfl,rfl,fun l H3 s3 n3 VR=>⟨l,_,rfl,.inl (bC.of VR),rfl,d9 _,decide (wd∈eZ),congrArg V.bl i2,?_⟩⟩
    refine Bs (fun hc2=>?_) (fun hc2=>?_)
    ·obtain ⟨t1,t2⟩:=turn H3 s3 (.inr (of_decide_eq_true hc2))
     refine ⟨_,rfl,_,_,rfl,rfl,?_⟩
     refine ⟨_,rfl,_,rfl,_,_,rfl,rfl,(by show (0:Int) < 26;decide),xP,_,_,rfl,rfl,eU,fG _,_,_,rfl,rfl,(by show 1+1≤sizeLine;exact Nat.le_of_lt (line 2 (by decide))),?_⟩
     refine ⟨_,rfl,_,rfl,_,rfl,_,_,rfl,rfl,_,_,rfl,rfl,(by show (0:Int) < 26;decide),xP,_,_,rfl,rfl,eU,fG _,_,_,rfl,rfl,(by rw [jG];show 1+1+1≤sizeLine;exact Nat.le_of_lt (line 3 (by decide))),?_⟩
     refine ⟨⟨t+1,zt (0+(i:Int)) (t+1),rfl,(by unfold zt;rw [rA];decide),fun _=>rfl,t2,t1,sm.trans (s3)⟩,?_⟩
     show 20 - (((t:Int)+1).toNat) < 20 - ((t:Int)).toNat
     omega
    have Pu:H3 nl=some (.lst (xs.map V.str)):=s3 _ _ (sm _ _ Sg)
    refine ⟨_,rfl,.inl ⟨rfl,_,bC.of Pu⟩,_,rfl,nl,_,_,rfl,rfl,Pu,(by rw [List.length_map,lN];exact line _ (by omega)),?_⟩
    refine ⟨xs++[wd],cs,_,_,_,rfl,fun b o e n1 n2=>by rw [aM n2];exact s3 _ _ (sm _ _ (WV b o e n1 n2)),(by rw [aM UX];exact s3 _ _ (sm _ _ TQ)),Tj,sB',(by rw [ah,List.map_append];rfl),(by rw [List.length_append,lN];rfl),fun x hx=>?_⟩
    rcases List.mem_append.mp hx with h | h
    ·exact sN x h
    ·rw [List.mem_singleton.mp h]
     exact hw
   ·refine pQ ⟨_,rfl,_,_,rfl,rfl,_,rfl,Bs (fun hk=>?_) fun hk=>?_⟩
    ·refine ⟨_,rfl,_,rfl,_,rfl,_,_,rfl,rfl,_,_,rfl,rfl,(by show (0:Int) < 12;decide),kl,_,_,_,rfl,rfl,bC.of hk',kat,?_⟩
     refine vp (fun σ H2=>∃ (t:Nat) (wd:Str),σ=[some (.ref d),some (.int m),some (.str xP),some (.int (1+r1)),some (.int r2),some (.ref B),some (.int r4),some (.ref kl),some (.bl true),some (.ref nl), some (.int (0+(i:Int))),some (.str wd),some (.int (t:Int))]∧wd.length≤8∧(1≤t→wd=zt (0+(i:Int)) t)∧(∀ s,s+1 < t→zt (0+(i:Int)) (s+1)∈xs)∧t≤14∧az Hb H2) QY ⟨0,_,rfl,(by first | exact hw0 | exact mU _ lS),fun h=>absurd h (by decide),fun s h=>absurd h (by omega),by decide,az.refl _⟩ ?_ (zD (nG (gm _) (gm _)) (nG (gm _) r9))
     rintro σ H2 ⟨t,wd,rfl,hw,e1,e2,e3,sm⟩
     have turn:∀ H3,az H2 H3→(wd∈xs∨wd∈eZ)→t+1≤14∧∀ s,s+1 < t+1→zt (0+(i:Int)) (s+1)∈xs:=fun H3 s3 hc=>by
      have q:∀ s,s < t→zt (0+(i:Int)) (s+1)∈xs:=fun s hs=>by
       by_cases hs':s+1 < t
       ·exact e2 s hs'
       ·have e:t=s+1:=by omega
        have e':=e1 (by omega)
        rw [e] at e'
        rw [← e']
        rcases hc with h | h
        ·exact h
        ·exact absurd (e' ▸ h) (oz _ _)
      have:=Ck (by omega) q
      exact ⟨by omega,fun s hs=>q s (by omega)⟩
     have i1:(if false=true then !u9 (.str wd) (xs.map V.str) else u9 (.str wd) (xs.map V.str))=decide (wd∈xs):=eS wd xs
     have i2:(if false=true then !u9 (.str wd) (eZ.map V.str) else u9 (.str wd) (eZ.map V.str))=decide (wd∈eZ):=eS wd eZ
     refine ⟨_,rfl,_,rfl,nl,_,rfl,.inl (bC.of (sm _ _ Sg)),rfl,d9 _,decide (wd∈xs),congrArg V.bl i1,?_⟩
     refine Bs (fun hc=>?_) (fun hc=>?_)
     ·obtain ⟨t1,t2⟩:=turn H2 (az.refl _) (.inl (of_decide_eq_true hc))
      refine pQ ?_
      refine ⟨_,rfl,_,_,rfl,rfl,?_⟩
      refine ⟨_,rfl,_,rfl,_,_,rfl,rfl,(by show (0:Int) < 26;decide),xP,_,_,rfl,rfl,eU,fG _,_,_,rfl,rfl,(by show 1+1≤sizeLine;exact Nat.le_of_lt (line 2 (by decide))),?_⟩
      refine ⟨_,rfl,_,rfl,_,rfl,_,_,rfl,rfl,_,_,rfl,rfl,(by show (0:Int) < 26;decide),xP,_,_,rfl,rfl,eU,fG _,_,_,rfl,rfl,(by rw [jG];show 1+1+1≤sizeLine;exact Nat.le_of_lt (line 3 (by decide))),?_⟩
      refine ⟨⟨t+1,zt (0+(i:Int)) (t+1),rfl,(by unfold zt;rw [rA];decide),fun _=>rfl,t2,t1,sm.trans (az.refl _)⟩,?_⟩
      show 20 - (((t:Int)+1).toNat) < 20 - ((t:Int)).toNat
      omega
     refine ⟨_,rfl,rfl,fun l H3 s3 n3 VR=>⟨l,_,rfl,.inl (bC.of VR),rfl,d9 _,decide (wd∈eZ),congrArg V.bl i2,?_⟩⟩
     refine Bs (fun hc2=>?_) (fun hc2=>?_)
     ·obtain ⟨t1,t2⟩:=turn H3 s3 (.inr (of_decide_eq_true hc2))
      refine ⟨_,rfl,_,_,rfl,rfl,?_⟩
      refine ⟨_,rfl,_,rfl,_,_,rfl,rfl,(by show (0:Int) < 26;decide),xP,_,_,rfl,rfl,eU,fG _,_,_,rfl,rfl,(by show 1+1≤sizeLine;exact Nat.le_of_lt (line 2 (by decide))),?_⟩
      refine ⟨_,rfl,_,rfl,_,rfl,_,_,rfl,rfl,_,_,rfl,rfl,(by show (0:Int) < 26;decide),xP,_,_,rfl,rfl,eU,fG _,_,_,rfl,rfl,(by rw [jG];show 1+1+1≤sizeLine;exact Nat.le_of_lt (line 3 (by decide))),?_⟩
      refine ⟨⟨t+1,zt (0+(i:Int)) (t+1),rfl,(by unfold zt;rw [rA];decide),fun _=>rfl,t2,t1,sm.trans (s3)⟩,?_⟩
      show 20 - (((t:Int)+1).toNat) < 20 - ((t:Int)).toNat
      omega
     have Pu:H3 nl=some (.lst (xs.map V.str)):=s3 _ _ (sm _ _ Sg)
     refine ⟨_,rfl,.inl ⟨rfl,_,bC.of Pu⟩,_,rfl,nl,_,_,rfl,rfl,Pu,(by rw [List.length_map,lN];exact line _ (by omega)),?_⟩
     refine ⟨xs++[wd],cs,_,_,_,rfl,fun b o e n1 n2=>by rw [aM n2];exact s3 _ _ (sm _ _ (WV b o e n1 n2)),(by rw [aM UX];exact s3 _ _ (sm _ _ TQ)),Tj,sB',(by rw [ah,List.map_append];rfl),(by rw [List.length_append,lN];rfl),fun x hx=>?_⟩
     rcases List.mem_append.mp hx with h | h
     ·exact sN x h
     ·rw [List.mem_singleton.mp h]
      exact hw
    ·refine vp (fun σ H2=>∃ (t:Nat) (wd:Str),σ=[some (.ref d),some (.int m),some (.str xP),some (.int (1+r1)),some (.int r2),some (.ref B),some (.int r4),some (.ref kl),some (.bl true),some (.ref nl), some (.int (0+(i:Int))),some (.str wd),some (.int (t:Int))]∧wd.length≤8∧(1≤t→wd=zt (0+(i:Int)) t)∧(∀ s,s+1 < t→zt (0+(i:Int)) (s+1)∈xs)∧t≤14∧az Hb H2) QY ⟨0,_,rfl,(by first | exact hw0 | exact mU _ lS),fun h=>absurd h (by decide),fun s h=>absurd h (by omega),by decide,az.refl _⟩ ?_ (zD (nG (gm _) (gm _)) (nG (gm _) r9))
     rintro σ H2 ⟨t,wd,rfl,hw,e1,e2,e3,sm⟩
     have turn:∀ H3,az H2 H3→(wd∈xs∨wd∈eZ)→t+1≤14∧∀ s,s+1 < t+1→zt (0+(i:Int)) (s+1)∈xs:=fun H3 s3 hc=>by
      have q:∀ s,s < t→zt (0+(i:Int)) (s+1)∈xs:=fun s hs=>by
       by_cases hs':s+1 < t
       ·exact e2 s hs'
       ·have e:t=s+1:=by omega
        have e':=e1 (by omega)
        rw [e] at e'
        rw [← e']
        rcases hc with h | h
        ·exact h
        ·exact absurd (e' ▸ h) (oz _ _)
      have:=Ck (by omega) q
      exact ⟨by omega,fun s hs=>q s (by omega)⟩
     have i1:(if false=true then !u9 (.str wd) (xs.map V.str) else u9 (.str wd) (xs.map V.str))=decide (wd∈xs):=eS wd xs
     have i2:(if false=true then !u9 (.str wd) (eZ.map V.str) else u9 (.str wd) (eZ.map V.str))=decide (wd∈eZ):=eS wd eZ
     refine ⟨_,rfl,_,rfl,nl,_,rfl,.inl (bC.of (sm _ _ Sg)),rfl,d9 _,decide (wd∈xs),congrArg V.bl i1,?_⟩
     refine Bs (fun hc=>?_) (fun hc=>?_)
     ·obtain ⟨t1,t2⟩:=turn H2 (az.refl _) (.inl (of_decide_eq_true hc))
      refine pQ ?_
      refine ⟨_,rfl,_,_,rfl,rfl,?_⟩
      refine ⟨_,rfl,_,rfl,_,_,rfl,rfl,(by show (0:Int) < 26;decide),xP,_,_,rfl,rfl,eU,fG _,_,_,rfl,rfl,(by show 1+1≤sizeLine;exact Nat.le_of_lt (line 2 (by decide))),?_⟩
      refine ⟨_,rfl,_,rfl,_,rfl,_,_,rfl,rfl,_,_,rfl,rfl,(by show (0:Int) < 26;decide),xP,_,_,rfl,rfl,eU,fG _,_,_,rfl,rfl,(by rw [jG];show 1+1+1≤sizeLine;exact Nat.le_of_lt (line 3 (by decide))),?_⟩
      refine ⟨⟨t+1,zt (0+(i:Int)) (t+1),rfl,(by unfold zt;rw [rA];decide),fun _=>rfl,t2,t1,sm.trans (az.refl _)⟩,?_⟩
      show 20 - (((t:Int)+1).toNat) < 20 - ((t:Int)).toNat
      omega
     refine ⟨_,rfl,rfl,fun l H3 s3 n3 VR=>⟨l,_,rfl,.inl (bC.of VR),rfl,d9 _,decide (wd∈eZ),congrArg V.bl i2,?_⟩⟩
     refine Bs (fun hc2=>?_) (fun hc2=>?_)
     ·obtain ⟨t1,t2⟩:=turn H3 s3 (.inr (of_decide_eq_true hc2))
      refine ⟨_,rfl,_,_,rfl,rfl,?_⟩
      refine ⟨_,rfl,_,rfl,_,_,rfl,rfl,(by show (0:Int) < 26;decide),xP,_,_,rfl,rfl,eU,fG _,_,_,rfl,rfl,(by show 1+1≤sizeLine;exact Nat.le_of_lt (line 2 (by decide))),?_⟩
      refine ⟨_,rfl,_,rfl,_,rfl,_,_,rfl,rfl,_,_,rfl,rfl,(by show (0:Int) < 26;decide),xP,_,_,rfl,rfl,eU,fG _,_,_,rfl,rfl,(by rw [jG];show 1+1+1≤sizeLine;exact Nat.le_of_lt (line 3 (by decide))),?_⟩
      refine ⟨⟨t+1,zt (0+(i:Int)) (t+1),rfl,(by unfold zt;rw [rA];decide),fun _=>rfl,t2,t1,sm.trans (s3)⟩,?_⟩
      show 20 - (((t:Int)+1).toNat) < 20 - ((t:Int)).toNat
      omega
     have Pu:H3 nl=some (.lst (xs.map V.str)):=s3 _ _ (sm _ _ Sg)
     refine ⟨_,rfl,.inl ⟨rfl,_,bC.of Pu⟩,_,rfl,nl,_,_,rfl,rfl,Pu,(by rw [List.length_map,lN];exact line _ (by omega)),?_⟩
     refine ⟨xs++[wd],cs,_,_,_,rfl,fun b o e n1 n2=>by rw [aM n2];exact s3 _ _ (sm _ _ (WV b o e n1 n2)),(by rw [aM UX];exact s3 _ _ (sm _ _ TQ)),Tj,sB',(by rw [ah,List.map_append];rfl),(by rw [List.length_append,lN];rfl),fun x hx=>?_⟩
     rcases List.mem_append.mp hx with h | h
     ·exact sN x h
     ·rw [List.mem_singleton.mp h]
      exact hw
  ·rintro σ H' ⟨xs,bs,kk,w,t,rfl,bt,eB,lB,sB,eN,lN,sN⟩
   obtain ⟨x7,y7,e7⟩:=d7
   refine ⟨_,rfl,k nl xs H' (fun b o e n=>bt b o (f8 b o e n) (av (f3 b o e n) hB) (av (f7 b o e n) hnl)) ⟨x7,y7,bt d _ (by rw [aM nnd.symm];exact e7) nBd.symm nnd.symm⟩ (f7.free hnl nnd) eN (by rw [lN];rfl) sN⟩
abbrev gP:Stmt:=top 45
theorem fO:aL ["_law_pairs","_law_number","_law_found","_law_thing","_law_times"] ["_law_pairs","_law_number"] (aq gP):=⟨rfl,rfl,rfl,by decide +kernel,rfl,by decide +kernel,by decide +kernel⟩
theorem A8 {f C:Addr} {fd:FuncData} (F:dO K "_law_gathered" "_law_gathered" gP f fd) (T:Txt K mg C) :bF P w K mg base fh 1 f fd ["_law_pairs","_law_number"] za:=by
 refine F.ok fO (fun vs H Q E h=>?_) (fun cdv A outer s H vs Q E hr h=>?_)
 ·obtain ⟨a,n,ps,rfl,hs,hz,k⟩:=h
  rfl
 ·obtain ⟨a,n,ps,rfl,hs,hz,k⟩:=h
  have hu:=bD hr
  rw [show ay gP=[_,_,_] from rfl]
  refine ⟨_,(ao (aT (i:=2) fO.nd rfl (Or.inr rfl) mG)
   (ao (eX PassesOwn.never rfl (CU (pv 0)) (rV rfl (cH (aQ (i:=3) fO.nd rfl (Or.inl rfl)) (cH (aQ (i:=4) fO.nd rfl (Or.inl rfl)) iM))) (au (kD hu (pv 2) (pv 3) (aZ dQ (AU hu (pv 2) (pv 3) aj ⟨rfl,rfl,rfl,rfl⟩) (pv 4)) rfl)))
   (au (aJ (aG (aa (bB bN (by rfl) T.tuple boot_tuple (aa (bZ (br ["_law_thing"] ["_law_found"] [2] rfl (by decide +kernel) (by decide +kernel) (by with_unfolding_all rfl) (by exact ⟨rfl,trivial⟩) (by rfl) rfl (by rfl)) rfl (eK (bS (kX rfl) (by rfl) T.sorted boot_sorted (aa (pv 2) ai))) (fun _ _ _ _=>(aQ (i:=0) (show List.Nodup (["_law_thing","_law_found"]:List Str) by decide +kernel) rfl (Or.inl rfl) (Or.inr rfl))) (fun _ _ _ _=>(kC (aO O2 (iO hu (pv 1) (pv 0) (fun _ _=>rfl)) aj (aV _)))) (fun _ _ _ _=>(aG (aa (pv 0) (aa (iO hu (pv 1) (pv 0) (fun _ _=>rfl)) ai))))) ai)) (aa (pv 1) ai))))))),?_⟩
  intro d hd
  have lz:=line ps.length (by omega)
  refine ⟨_,rfl,a,rfl,K7 (hs.same (new hd)) (fun i σ H'=>∃ e t w,σ=[some (.ref a),some (.int n),some (.ref d),t,w]∧H'=upd H d (.dK (enc e))∧Tab (ps.take i) e) ⟨[],none,none,rfl,rfl,Tab.nil⟩ ?_ ?_ ?_⟩
  ·rintro i σ H' ⟨e,t,w,rfl,rfl,tab⟩
   exact Kp.dict
  ·rintro i v pr σ H' hi ⟨a',rfl,ha'⟩ ⟨e,t,w,rfl,rfl,tab⟩
   have he:(enc e).length < sizeLine:=by
    have h1:=tab.len
    rw [List.length_take] at h1
    rw [nO]
    omega
   refine ⟨a',_,rfl,aX.of ha',rfl,_,_,rfl,_,_,rfl,rfl,?_⟩
   refine ⟨_,rfl,d,rfl,.inl ⟨_,.inl ah⟩,_,rfl,_,nZ.k (k:=Sum.inr pr.1) ah,_,rfl,_,_,BG e pr.1,rfl,_,rfl,_,rfl,d,_,rfl,xM.k (k:=Sum.inr pr.1) ah he,?_⟩
   refine ⟨step e pr,_,_,rfl,?_,?_⟩
   ·rw [uR,z5]
    rfl
   ·rw [take_snoc hi]
    exact tab.step pr
  ·rintro σ H' ⟨e,t,w,rfl,rfl,tab⟩
   rw [List.take_length] at tab
   have el:(enc e).length < 64:=by have:=tab.len;rw [nO];omega
   refine ⟨_,rfl,d,_,keys e,rfl,ah,wW e,el,fun l ys hl hp hso=>⟨l,rfl,⟨_,bC.of ah⟩,?_⟩⟩
   have yl:ys.length≤ps.length:=by
    rw [hp.length_eq]
    unfold keys
    rw [List.length_map]
    exact tab.len
   refine eg (xs:=ys.map V.str) (fun i out H'=>az (upd (upd H d (.dK (enc e))) l (.lst (ys.map V.str))) H'∧xX H' out (outs e (ys.take i))) ⟨az.refl _,.nil⟩ (fun i out H' _ q=>bC.of (q.1 _ _ ah)) ?_ ?_
   ·rintro i v out H' hi ⟨sm,pr⟩
    obtain ⟨y,hy,rfl⟩:∃ y,ys[i]?=some y∧v=V.str y:=by
     rw [List.getElem?_map] at hi
     cases q:ys[i]? with
     | none=>rw [q] at hi;cases hi
     | some y=>rw [q] at hi;cases hi;exact ⟨y,rfl,rfl⟩
    have hm:y∈keys e:=hp.mem_iff.mp (List.mem_of_getElem? hy)
    have Ri:H' d=some (.dK (enc e)):=sm _ _ (by rw [aM (av ah hl)];exact ah)
    have ol:out.length < sizeLine:=by
     rw [bY pr]
     have:=mH e (ys.take i)
     rw [List.length_take] at this
     omega
    refine ⟨Ext.one,_,rfl,_,rfl,d,_,rfl,mJ Ri hm,rfl,_,rfl,?_⟩
    dsimp only
    by_cases g0:get e y=0
    ·rw [if_neg (by simp [g0])]
     refine ⟨sm,?_⟩
     rw [take_snoc hy,nE,if_pos g0,List.append_nil]
     exact pr
    ·rw [if_pos (by simp [g0])]
     refine ⟨_,rfl,_,rfl,_,rfl,d,_,rfl,mJ Ri hm,(szl 2),fun q hq=>⟨ol,az.new sm hq,?_⟩⟩
     rw [take_snoc hy,nE,if_neg g0]
     exact fm (pr.keep fun _ _ z=>new hq _ _ z) (fP ⟨q,rfl,ah⟩)
   ·rintro out H' ⟨sm,pr⟩ q hq
    rw [List.length_map,List.take_length] at pr
    have s0:az H H':=fun b o z=>sm b o (az.new (new hd) hl b o z)
    refine ⟨q,_,rfl,.inl ⟨bC.of ah,fun t ht=>?_⟩⟩
    refine ⟨_,rfl,(szl 2),fun r hr'=>?_⟩
    have s1:=az.new (o:=.lst out) s0 hq
    have s2:=az.new (o:=.tup out) s1 ht
    refine k r (outs e ys) _ (az.new s2 hr') (tab.gat hp hso) ?_ ⟨t,ah,out,?_,pr.keep fun _ _ z=>new hr' _ _ (new ht _ _ (new hq _ _ z))⟩
    ·have:=mH e ys
     omega
    ·rw [aM (av ah hr')]
     exact ah
abbrev i0:Stmt:=top 23
theorem AE:aL ["total"] ["total"] (aq i0):=⟨rfl,rfl,rfl,by decide +kernel,rfl,by decide +kernel,by decide +kernel⟩
theorem C3 {f:Addr} {fd:FuncData} {Z:Cz} {n:Nat} (F:dO K "less_one" "less_one" i0 f fd) (T:Txt K mg Z.s) (U:gH K mg Z) (d_init:Mr P w K mg base 1 Z.s ["self","terms","number"] (lZ Z.s)) (w5:Mt P w K mg base 5 Z.s "less" ["self","other"] (vD Z.s)):bF P w K mg base fh 6 f fd ["total"] (nA Z.s):=by
 obtain ⟨zW,vf,dG,M,dF⟩:=d_init
 obtain ⟨RP,NT,lI,zG,lC⟩:=w5
 refine F.ok AE (fun vs H Q E h=>?_) (fun cdv A outer s H vs Q E hr h=>?_)
 ·obtain ⟨p,a,m,rfl,S0,hl,k⟩:=h
  rfl
 ·obtain ⟨p,a,m,rfl,S0,hl,k⟩:=h
  have hu:=bD hr
  rw [show ay i0=[_] from rfl]
  refine ⟨_,(au (aJ (iN (pv 0) T.cl zG lI (hr.mono (by first | decide | omega)) lC .nil aE (aa (cW M dG (hr.mono (by first | decide | omega)) rfl T.sD dF .nil aE (aa (aG ai) (aa aj ai))) ai)))),?_⟩
  obtain ⟨dx,t,hp,_⟩:=id S0
  refine ⟨_,rfl,p,dx,_,rfl,hp,gj _ _ (by decide +kernel) (by decide +kernel),?_⟩
  refine ⟨(Nat.zero_le _),fun q hq=>?_⟩
  refine fun x nQ hx hdx ne=>?_
  have h1:=bX (o:=.own x) (o':=.ins Z.s nQ []) hx hdx
  have sq:=new (o:=.tup []) hq
  refine ⟨x,nQ,q,1,[],rfl,ah,.inr ⟨[],h1 _ _ ah,.nil⟩,(by show 0≤1000;decide),fun H1 but S1=>⟨rfl,?_⟩⟩
  have s1:az H H1:=fun b' o z=>but b' o (h1 _ _ (sq _ _ z)) (av (sq _ _ z) hx)
  refine ⟨p,x,a,[],m,1,rfl,S0.same s1,S1,(by show a.length+0 < 64;omega),fun r ts H2 s2 g l Sr=>?_⟩
  refine k r ts H2 (s1.trans s2) ?_ Sr
  have e:a++([]:Ps).map (fun p=>(p.1,-p.2))=a:=List.append_nil a
  rw [e] at g
  exact g
abbrev oZ:Stmt:=top 24
theorem gK:aL ["ones","others","found","one"] ["ones","others"] (aq oZ):=⟨rfl,rfl,rfl,by decide +kernel,rfl,by decide +kernel,by decide +kernel⟩
theorem J0 {f:Addr} {fd:FuncData} {Z:Cz} {n:Nat} {TM W fT fW:Addr} {dN dI:List Value} (F:dO K "cases_of_both" "cases_of_both" oZ f fd) (T:Txt K mg Z.s) (U:gH K mg Z) (XT:dJ K mg TM W fT fW dN dI) (wZ:G1 P w K mg base TM 4 "refuse_too_many" ["count"] (vB TM)):bF P w K mg base (As P w TM) 5 f fd ["ones","others"] (qk Z TM):=by
 obtain ⟨a7d,Vs,gA,fU,fV,gw⟩:=wZ
 refine F.O3 gK (fun vs H Q E h=>?_) (fun cdv A outer s H vs Q E hr h=>?_)
 ·obtain ⟨o,u,A0,B,rfl,hA,hB,lA,lB,wA,wB,k1,k2⟩:=h
  rfl
 ·obtain ⟨o,u,A0,B,rfl,hA,hB,lA,lB,wA,wB,k1,k2⟩:=h
  have hu:=bD hr
  rw [show ay oZ=[_,_,_,_] from rfl]
  refine ⟨_,(ao (cV (aA gA (hr.mono (by first | decide | omega)) rfl fU fV gw .nil oh (aa (aZ fR (bS bP (by rfl) T.len PySem.boot_len (aa (pv 0) ai)) (bS bP (by rfl) T.len PySem.boot_len (aa (pv 1) ai))) ai)))
   (ao (aT (i:=2) gK.nd rfl (Or.inl rfl) (bh ai))
   (ao (eX PassesOwn.leaving rfl (eK (pv 0)) (aQ (i:=3) gK.nd rfl (Or.inr rfl)) (au (cV (jz PySem.F.plainAttrs_list PySem.F.slot_list_extend PySem.F.type_list_extend ym (pv 2) (aa (bZ (br ["other"] ["one"] [3] rfl (by decide +kernel) (by decide +kernel) (by with_unfolding_all rfl) (by exact ⟨rfl,trivial⟩) (by rfl) rfl (by rfl)) rfl (eK (pv 1)) (fun _ _ _ _=>(aQ (i:=0) (show List.Nodup (["other","one"]:List Str) by decide +kernel) rfl (Or.inl rfl) (Or.inr rfl))) (fun _ _ _ _=>cA) (fun _ _ _ _=>(aZ (A3 (K:=K) rfl) (pv 1) (pv 0)))) ai)))))
   (au (aJ (pv 2)))))),?_⟩
  obtain ⟨uo,eo,po⟩:=id hA
  obtain ⟨uu,eu,pu⟩:=id hB
  have lo:=ak po
  have lu:=ak pu
  refine ⟨_,rfl,o,_,rfl,.inl (bC.of eo),_,rfl,u,_,rfl,.inl (bC.of eu),_,_,rfl,rfl,.inl ⟨by omega,by omega⟩,A0.length*B.length,?_,fun hle=>?_,k2⟩
  ·show [V.int ((uo.length:Int)*(uu.length:Int))]=_
   rw [lo,lu,Int.natCast_mul]
  have k:=k1 hle
  refine ⟨(Nat.zero_le _),fun F hF=>?_⟩
  have s1:=new (o:=.lst []) hF
  refine ⟨_,rfl,o,rfl,⟨uo,bC.of (s1 _ _ eo)⟩,jZ (xs:=uo) (fun i σ H'=>∃ (a3:Option V) (ys:List V),σ=[some (.ref o),some (.ref u),some (.ref F),a3]∧bQ F (upd H F (.lst [])) H'∧H' F=some (.lst ys)∧Paired (jO Z H') ys (bq (A0.take i) B)) ⟨none,[],rfl,fun _ _ e _=>e,ah,.nil⟩ ?_ ?_ ?_⟩
  ·rintro i σ H' _ ⟨a3,ys,rfl,but,eF,pr⟩
   exact bC.of (but _ _ (s1 _ _ eo) (av eo hF))
  ·rintro i x σ H' hi ⟨a3,ys,rfl,but,eF,pr⟩
   have sH:az H H':=fun b' o' e=>but b' o' (s1 _ _ e) (av e hF)
   obtain ⟨a,hai,hx⟩:=bg po hi
   obtain ⟨ra,va,rfl,era,pa⟩:=hx.aB (aD.of sH)
   have lva:va.length≤1000:=by rw [ak pa];exact wA _ (List.mem_of_getElem? hai)
   have rm:ys.length≤64*64:=by
    rw [ak pr,dU]
    exact Nat.mul_le_mul (by rw [List.length_take];omega) lB
   refine ⟨_,rfl,.inl ⟨rfl,_,bC.of eF⟩,_,rfl,u,rfl,⟨uu,bC.of (sH _ _ eu)⟩,eg (xs:=uu) (fun j zs H2=>az H' H2∧Paired (jO Z H2) zs ((B.take j).map (a++·))) ⟨fun _ _ z=>z,.nil⟩ (fun j zs H2 _ q=>bC.of (q.1 _ _ (sH _ _ eu))) ?_ ?_⟩
   ·rintro j y zs H2 hj ⟨sm,pz⟩
    obtain ⟨b,Vi,hy⟩:=bg pu hj
    obtain ⟨rb,vb,rfl,VN,pb⟩:=hy.aB (aD.of (sH.trans sm))
    have QB:=L2.Paired.cF pa fun _ _ ⟨q,e,s⟩=>(⟨q,e,s.same sm⟩:∃ p,_=V.ref p∧cB Z.s H2 p _ _)
    have Lu:=sm _ _ era
    have lvb:vb.length≤1000:=by rw [ak pb];exact wB _ (List.mem_of_getElem? Vi)
    have Nv:zs.length≤64:=by
     rw [ak pz,List.length_map,List.length_take]
     omega
    have step:∀ (v:V) (H3:Hp),az H2 H3→jO Z H3 v (a++b)→(zs.length < sizeLine∧az H' H3∧Paired (jO Z H3) (zs++[v]) ((B.take (j+1)).map (a++·))):=fun v H3 s3 hc=>by
     refine ⟨line _ (by omega),sm.trans s3,?_⟩
     rw [take_snoc Vi,List.map_append]
     exact aH (L2.Paired.cF pz fun _ _ z=>z.aB (aD.of s3)) hc
    refine ⟨Ext.one,iH ⟨_,rfl,_,rfl,ra,rb,_,_,rfl,rfl,aX.of Lu,aX.of VN,Nat.le_of_lt (line _ (by omega)),?_,?_,?_⟩⟩
    ·intro z
     subst z
     have ea:a=[]:=by cases QB;rfl
     subst ea
     exact step _ _ (fun _ _ z=>z) ⟨rb,vb,rfl,VN,pb⟩
    ·intro _ z
     subst z
     have eb:b=[]:=by cases pb;rfl
     subst eb
     exact step _ _ (fun _ _ z=>z) ⟨ra,va,rfl,Lu,by rw [List.append_nil];exact QB⟩
    ·intro _ _ q hq
     refine step _ _ (new hq) ⟨q,va++vb,rfl,ah,?_⟩
     exact cT (L2.Paired.cF QB fun _ _ ⟨q',e,s⟩=>⟨q',e,s.same (new hq)⟩) (L2.Paired.cF pb fun _ _ ⟨q',e,s⟩=>⟨q',e,s.same (new hq)⟩)
   ·rintro zs H2 ⟨sm,pz⟩ q hq
    have Nv:zs.length≤64:=by
     rw [ak pz,List.length_map,List.length_take]
     omega
    have TN:=new (o:=.lst zs) hq _ _ (sm _ _ eF)
    rw [lu,List.take_length] at pz
    refine ⟨F,q,ys,zs,rfl,rfl,TN,ah,Nat.le_of_lt (line _ (by omega)),?_⟩
    have b2:bQ F H' (upd (upd H2 q (.lst zs)) F (.lst (ys++zs))):=((bQ.of (sm.trans (new hq))).trans bQ.upd)
    have hd2:aD H' (upd (upd H2 q (.lst zs)) F (.lst (ys++zs))):=aD.soft b2 eF gJ
    have b3:bQ F H2 (upd (upd H2 q (.lst zs)) F (.lst (ys++zs))):=(bQ.of (new hq)).trans bQ.upd
    have Pc:aD H2 (upd (upd H2 q (.lst zs)) F (.lst (ys++zs))):=aD.soft b3 (sm _ _ eF) gJ
    refine ⟨some (.ref ra),ys++zs,rfl,but.trans b2,ah,?_⟩
    rw [take_snoc hai,yE]
    exact cT (L2.Paired.cF pr fun _ _ z=>z.aB hd2) (L2.Paired.cF pz fun _ _ z=>z.aB Pc)
  ·rintro σ H' ⟨a3,ys,rfl,but,eF,pr⟩
   have sH:az H H':=fun b' o' e=>but b' o' (s1 _ _ e) (av e hF)
   rw [lo,List.take_length] at pr
   exact ⟨_,rfl,k F H' sH hF ⟨ys,eF,pr⟩⟩
abbrev vL:Stmt:=top 25
theorem oF:aL ["count"] ["count"] (aq vL):=⟨rfl,rfl,rfl,by decide +kernel,rfl,by decide +kernel,by decide +kernel⟩
theorem MY {f:Addr} {fd:FuncData} {Z:Cz} {n:Nat} {TM W fT fW:Addr} {dN dI:List Value} (F:dO K "refuse_too_many" "refuse_too_many" vL f fd) (T:Txt K mg Z.s) (U:gH K mg Z) (XT:dJ K mg TM W fT fW dN dI) (Sl:∃ t,mg "MOST_CASES"=some (.int 64 t)) (LD:∃ fd,bF P w K mg base fh 2 fT fd ["self","words"] (nv TM)∧Binds K fd ["self","words"] []):bF P w K mg base (As P w TM) 4 f fd ["count"] (vB TM):=by
 obtain ⟨tM,mgM⟩:=Sl
 obtain ⟨b6C,LX,LM⟩:=LD
 refine F.O3 oF (fun vs H Q E h=>?_) (fun cdv A outer s H vs Q E hr h=>?_)
 ·obtain ⟨k0,rfl,k1,k2⟩:=h
  rfl
 ·obtain ⟨k0,rfl,k1,k2⟩:=h
  have hu:=bD hr
  rw [show ay vL=[_] from rfl]
  refine ⟨_,(au (bR (aO yi (pv 0) (jy (v:=.int 64) rfl mgM ⟨_,rfl⟩) (aV _)) (au (Ji XT.ct LX (hr.mono (by decide)) rfl XT.mgT LM Qp (aa (MM (Ju (Qw (jy (v:=.int 64) rfl mgM ⟨_,rfl⟩) (Ju Qx)))) ai))) bE)),?_⟩
  refine ⟨_,rfl,_,_,rfl,rfl,_,rfl,?_⟩
  by_cases hk:k0≤64
  ·exact bf (by omega) (k1 hk)
  ·refine bG (by omega) ?_
   have L:∀ z:Str,z.length≤100000→z.length≤sizeLine:=fun z h=>Nat.le_of_lt (line _ h)
   refine ⟨L _ (by decide +kernel),.inl ⟨64,rfl,by decide +kernel,L _ (by decide +kernel),L _ (by decide +kernel),L _ (by decide +kernel),?_⟩⟩
   refine ⟨(szl 1),fun a ha=>⟨a,_,rfl,ah,rfl,ah,?_⟩⟩
   rw [N4 ha]
   exact k2 (by omega) _ fun _ _ z=>z
abbrev vN:Stmt:=top 42
theorem kq:aL ["_law_draw","_law_things","_law_found","_law_k","_law_number"] ["_law_draw","_law_things"] (aq vN):=⟨rfl,rfl,rfl,by decide +kernel,rfl,by decide +kernel,by decide +kernel⟩
theorem M0 {f:Addr} {fd:FuncData} {Z:Cz} {n:Nat} {TM W fT fW:Addr} {dN dI:List Value} (F:dO K "_law_sum" "_law_sum" vN f fd) (T:Txt K mg Z.s) (U:gH K mg Z) (XT:dJ K mg TM W fT fW dN dI) (fY:Dn P w K mg base 2 "_law_next" ["_law_draw","_law_size"] jH):bF P w K mg base fh 3 f fd ["_law_draw","_law_things"] rH:=by
 obtain ⟨sS,nM,cy,bK,bL,cu⟩:=fY
 refine F.ok kq (fun vs H Q E h=>?_) (fun cdv A outer s H vs Q E hr h=>?_)
 ·obtain ⟨d,l,xs,rfl,hd,hl,hx,zR,k⟩:=h
  rfl
 ·obtain ⟨d,l,xs,rfl,hd,hl,hx,zR,k⟩:=h
  have hu:=bD hr
  rw [show ay vN=[_,_,_,_] from rfl]
  refine ⟨_,(ao (aT (i:=2) kq.nd rfl (Or.inr rfl) mG)
   (ao (eX PassesOwn.never rfl (fz rfl T.range (aa (aZ fR (aF bM (bh (aa aj (aa aj (aa aj (aa aj (aa aj (aa aj (aa aj ai)))))))) (aA cy (hr.mono (by first | decide | omega)) rfl bK bL cu .nil aE (aa (pv 0) (aa aj ai))) (fun _ _=>rfl)) (bB eE (by rfl) T.int boot_int (aa (eO (v9 (uN hr)) (pv 1) (bh ai) (aV _)) ai))) ai)) (aQ (i:=3) kq.nd rfl (Or.inl rfl)) (au (kD hu (pv 2) (aF bM (pv 1) (aA cy (hr.mono (by first | decide | omega)) rfl bK bL cu .nil aE (aa (pv 0) (aa (bS bP (by rfl) T.len PySem.boot_len (aa (pv 1) ai)) ai))) (fun _ _=>rfl)) (aF bM (bh (aa aj (aa aj (aa aj (aa (lO iA aj) (aa (lO iA aj) (aa aj (aa (lO iA aj) (aa aj ai))))))))) (aA cy (hr.mono (by first | decide | omega)) rfl bK bL cu .nil aE (aa (pv 0) (aa aj ai))) (fun _ _=>rfl)) rfl)))
   (ao (aT (i:=4) kq.nd rfl (Or.inl rfl) (aF bM (bh (aa aj (aa aj (aa aj (aa (lO iA aj) (aa (aZ zx (aA cy (hr.mono (by first | decide | omega)) rfl bK bL cu .nil aE (aa (pv 0) (aa aj ai))) aj) (aa (aA cy (hr.mono (by first | decide | omega)) rfl bK bL cu .nil aE (aa (pv 0) (aa aj ai))) ai))))))) (aZ kH (aA cy (hr.mono (by first | decide | omega)) rfl bK bL cu .nil aE (aa (pv 0) (aa aj ai))) aj) (fun _ _=>rfl)))
   (au (aJ (aG (aa (bB bN (by rfl) T.tuple boot_tuple (aa (bZ (br ["_law_thing"] ["_law_found"] [2] rfl (by decide +kernel) (by decide +kernel) (by with_unfolding_all rfl) (by exact ⟨rfl,trivial⟩) (by rfl) rfl (by rfl)) rfl (eK (bS (kX rfl) (by rfl) T.sorted boot_sorted (aa (pv 2) ai))) (fun _ _ _ _=>(aQ (i:=0) (show List.Nodup (["_law_thing","_law_found"]:List Str) by decide +kernel) rfl (Or.inl rfl) (Or.inr rfl))) (fun _ _ _ _=>cA) (fun _ _ _ _=>(aG (aa (pv 0) (aa (iO hu (pv 1) (pv 0) (fun _ _=>rfl)) ai))))) ai)) (aa (pv 4) ai)))))))),?_⟩
  have two:2≤sizeLine:=Nat.le_of_lt (line 2 (by decide))
  have yk:l≠d:=by
   obtain ⟨x,y,ed⟩:=hd
   refine mK hl ed fun z=>?_
   cases xs with
   | nil=>cases z
   | cons a b=>cases z
  intro fd hfd
  have QV:fd≠d:=hd.ne hfd
  have d1:Dr (upd H fd (.dK [])) d:=hd.same (new hfd)
  refine ⟨(szl 7),fun q0 wQ=>?_⟩
  have UQ:q0≠d:=d1.ne wQ
  refine ⟨_,rfl,d,7,rfl,d1.same (new wQ),(by decide),fun r0 H1 h0 b1 d2=>?_⟩
  obtain ⟨w0,hw0,w1,w2⟩:=Qk (r:=r0) (by omega)
  refine ⟨q0,_,_,_,rfl,rfl,bC.of (b1 _ _ ah UQ),fE hw0,?_⟩
  have R3:H1 l=some (.lst (xs.map V.str)):=b1 _ _ (new wQ _ _ (new hfd _ _ hl)) yk
  have ef1:H1 fd=some (.dK (enc [])):=b1 _ _ (new wQ _ _ ah) QV
  have F1:bQ d H H1:=(((bQ.of (new hfd)).new wQ).trans b1)
  refine ⟨_,rfl,(Nat.zero_le _),fun e0 uq=>?_⟩
  refine ⟨l,e0,_,rfl,rfl,bC.of (new uq _ _ R3),bC.of ah,?_⟩
  generalize hb:(!decide (xs.map V.str=[]))=bb
  refine .inr ⟨bb,rfl,_,_,rfl,rfl,.inl ⟨by omega,by omega⟩,?_⟩
  obtain ⟨w9,e01,w9a,w9b,w9c⟩:∃ w9:Int,w0*(if bb=true then 1 else 0)=w9∧0≤w9∧w9≤3∧(0 < w9→1≤xs.length):=by
   cases bb
   ·exact ⟨0,by simp,by decide,by decide,fun h=>absurd h (by decide)⟩
   ·refine ⟨w0,by simp,by omega,by omega,fun _=>?_⟩
    cases xs with
    | nil=>cases hb
    | cons a b=>show 1≤b.length+1;omega
  refine ⟨w9,congrArg (fun z=>[V.int z]) e01,by omega,by omega,nL (n:=w9.toNat) (fun i σ H'=>∃ (e:Ps) (k:Option V),σ=[some (.ref d),some (.ref l),some (.ref fd),k,none]∧bQ d H H'∧Dr H' d∧H' l=some (.lst (xs.map V.str))∧H' fd=some (.dK (enc e))∧e.length≤i∧Tb e∧∀ p∈e,p.1∈xs) ⟨[],none,rfl,F1.new uq,d2.same (new uq),new uq _ _ R3,new uq _ _ ef1,Nat.le_refl _,Tb.nil,fun _ h=>nomatch h⟩ ?_ ?_⟩
  ·rintro i σ H3 hi ⟨e,k3,rfl,F,D,en,ef,el,tb,em⟩
   have lz:(xs.map V.str).length=xs.length:=List.length_map ..
   have hx1:1≤xs.length:=w9c (by omega)
   refine ⟨_,rfl,_,rfl,_,rfl,(szl 8),fun q2 hq2=>?_⟩
   have nq2:q2≠d:=D.ne hq2
   refine ⟨_,rfl,d,8,rfl,D.same (new hq2),(by decide),fun r2 H5 h2 b5 d5=>?_⟩
   obtain ⟨w,hw,w0',ws⟩:=Sf (r:=r2) (by omega)
   refine ⟨q2,_,_,_,rfl,rfl,bC.of (b5 _ _ ah nq2),fE hw,?_⟩
   have Zy:H5 l=some (.lst (xs.map V.str)):=b5 _ _ (new hq2 _ _ en) yk
   have ef5:H5 fd=some (.dK (enc e)):=b5 _ _ (new hq2 _ _ ef) QV
   refine ⟨_,rfl,_,rfl,_,rfl,_,rfl,l,_,rfl,.inl (bC.of Zy),d,_,rfl,d5,(by rw [lz];omega),fun r3 H6 h3 b6 d6=>?_⟩
   have hr3:r3 < xs.length:=by omega
   have el6:H6 l=some (.lst (xs.map V.str)):=b6 _ _ Zy yk
   have ef6:H6 fd=some (.dK (enc e)):=b6 _ _ ef5 QV
   have hmx:xs[r3]∈xs:=List.getElem_mem hr3
   refine ⟨l,_,_,_,rfl,rfl,bC.of el6,fE (Mz hr3),fd,_,rfl,xM.k (k:=Sum.inr xs[r3]) ef6 (by rw [nO];exact line _ (by omega)),?_⟩
   have F6:bQ d H H6:=((F.new hq2).trans b5).trans b6
   have hlx:xs[r3].length≤100:=zR _ hmx
   refine ⟨put e xs[r3] w,_,rfl,fun b o z n=>?_,?_,?_,?_,?_,tb.put w0' ws hlx,fun p hp=>(EA hp).elim (em p) fun z=>z ▸ hmx⟩
   ·rw [aM (av z hfd)]
    exact F6 b o z n
   ·obtain ⟨x5,y5,e5⟩:=d6
    exact ⟨x5,y5,by rw [aM QV.symm];exact e5⟩
   ·rw [aM (mK el6 ef6 (by intro w;cases w))]
    exact el6
   ·rw [ah]
    exact congrArg (fun z=>some (HO.dK z)) (z5 e _ _)
   ·have:=EU e xs[r3] w
    omega
  rintro σ H3 ⟨e,k3,rfl,F,D,en,ef,el,tb,em⟩
  have VP:e.length≤3:=by omega
  refine ⟨_,rfl,_,rfl,d,19,rfl,D,(by decide),fun r4 H4 h4 b4 d4=>⟨_,_,rfl,rfl,?_⟩⟩
  refine ⟨_,rfl,d,999999999,rfl,d4,(by decide),fun r5 H5 h5 b5 d5=>⟨(szl 6),fun q hq=>?_⟩⟩
  have nq:q≠d:=d5.ne hq
  refine ⟨_,rfl,d,12,rfl,d5.same (new hq),(by decide),fun r6 H6 h6 b6 d6=>⟨_,_,rfl,rfl,(by show (0:Int) < 6;decide),?_⟩⟩
  obtain ⟨z,hz,zs⟩:=a0O (a:=(r4:Int) - 9) (b:=(r5:Int)) ⟨by omega,by omega⟩ ⟨by omega,by omega⟩ (r6:Int)
  refine ⟨q,_,_,_,rfl,rfl,bC.of (b6 _ _ ah nq),hz,?_⟩
  have ef4:H6 fd=some (.dK (enc e)):=b6 _ _ (new hq _ _ (b5 _ _ (b4 _ _ ef QV) QV)) QV
  have F4:bQ d H H6:=(((F.trans b4).trans b5).new hq).trans b6
  refine ⟨_,rfl,fd,_,keys e,rfl,ef4,wW e,(by rw [nO];omega),fun ll ys hll hp hso=>⟨ll,rfl,⟨_,bC.of ah⟩,?_⟩⟩
  have yl:ys.length≤3:=by
   rw [hp.length_eq]
   unfold keys
   rw [List.length_map]
   exact VP
  refine eg (xs:=ys.map V.str) (fun i out H'=>az (upd H6 ll (.lst (ys.map V.str))) H'∧xX H' out ((ys.take i).map fun t=>(t,get e t))) ⟨az.refl _,.nil⟩ (fun i out H' _ q=>bC.of (q.1 _ _ ah)) ?_ ?_
  ·rintro i v out H' hi ⟨sm,pr⟩
   obtain ⟨y,hy,rfl⟩:∃ y,ys[i]?=some y∧v=V.str y:=by
    rw [List.getElem?_map] at hi
    cases q:ys[i]? with
    | none=>rw [q] at hi;cases hi
    | some y=>rw [q] at hi;cases hi;exact ⟨y,rfl,rfl⟩
   have hil:i < ys.length:=(List.getElem?_eq_some_iff.mp hy).1
   have hm:y∈keys e:=hp.mem_iff.mp (List.mem_of_getElem? hy)
   have Ri:H' fd=some (.dK (enc e)):=sm _ _ (new hll _ _ ef4)
   refine ⟨Ext.one,iH ⟨_,rfl,_,rfl,_,rfl,fd,_,rfl,mJ Ri hm,two,fun q hq=>⟨?_,az.new sm hq,?_⟩⟩⟩
   ·rw [bY pr,List.length_map,List.length_take]
    exact line _ (by omega)
   ·rw [take_snoc hy,List.map_append]
    exact fm (pr.keep fun _ _ z=>new hq _ _ z) (fP ⟨q,rfl,ah⟩)
  rintro out H' ⟨sm,pr⟩ q' hq'
  rw [List.length_map,List.take_length] at pr
  refine ⟨q',_,rfl,.inl ⟨bC.of ah,fun t ht=>?_⟩⟩
  refine ⟨_,rfl,two,fun r hr'=>?_⟩
  have s0:az H6 H':=fun b o z=>sm b o (new hll b o z)
  have s1:=az.new (o:=.lst out) s0 hq'
  have s2:=az.new (o:=.tup out) s1 ht
  have s3:=az.new (o:=.tup [.ref t,.int z]) s2 hr'
  have sh:=tb.short hp (by omega)
  refine k r (ys.map fun t=>(t,get e t)) z _ (F4.trans (bQ.of s3)) (d6.same s3) ⟨t,ah,out,?_,pr.keep fun _ _ z=>new hr' _ _ (new ht _ _ (new hq' _ _ z))⟩ (tb.canon hp hso) ⟨by rw [List.length_map];exact yl,fun p Tq=>(sh.2 p Tq).1⟩ (fun p Tq=>?_) zs
  ·rw [aM (av ah hr')]
   exact ah
  ·obtain ⟨y,hy,rfl⟩:=List.mem_map.mp Tq
   exact em _ (get_mem (hp.mem_iff.mp hy))
abbrev mw:Stmt:=top 43
theorem fj:aL ["_law_draw","_law_things","_law_deep","_law_kind","_law_sign","_law_parts"] ["_law_draw","_law_things","_law_deep"] (aq mw):=⟨rfl,rfl,rfl,by decide +kernel,rfl,by decide +kernel,by decide +kernel⟩
theorem JO {f:Addr} {fd:FuncData} {Z:Cz} {n:Nat} {TM W fT fW:Addr} {dN dI:List Value} (F:dO K "_law_condition" "_law_condition" mw f fd) (T:Txt K mg Z.s) (U:gH K mg Z) (XT:dJ K mg TM W fT fW dN dI) (fY:Dn P w K mg base 2 "_law_next" ["_law_draw","_law_size"] jH) (pV:Dn P w K mg base 3 "_law_sum" ["_law_draw","_law_things"] rH) (ig:Dn P w K mg base (n+3) "_law_condition" ["_law_draw","_law_things","_law_deep"] (kj n)):bF P w K mg base fh (n+4) f fd ["_law_draw","_law_things","_law_deep"] (kj (n+1)):=by
 obtain ⟨sS,nM,cy,bK,bL,cu⟩:=fY
 obtain ⟨Lk,E7,xC,pK,pN,xw⟩:=pV
 obtain ⟨uv,qR,gf,fB,fD,fZ⟩:=ig
 refine F.ok fj (fun vs H Q E h=>?_) (fun cdv A outer s H vs Q E hr h=>?_)
 ·obtain ⟨d,l,k0,xs,rfl,hk,hd,hl,hx,zR,k⟩:=h
  rfl
 ·obtain ⟨d,l,k0,xs,rfl,hk,hd,hl,hx,zR,k⟩:=h
  have hu:=bD hr
  rw [show ay mw=[_,_,_,_,_] from rfl]
  refine ⟨_,(ao (aT (i:=3) fj.nd rfl (Or.inl rfl) (aA cy (hr.mono (by first | decide | omega)) rfl bK bL cu .nil aE (aa (pv 0) (aa aj ai))))
   (ao (bR (PW.pt (vW (aO bW (pv 2) aj (aV _)) (rS (aO yh (pv 3) aj (aV _))))) (ao (aT (i:=4) fj.nd rfl (Or.inl rfl) (aF bM (bh (zq (xs:=["<","<=","=","!=",">=",">"]) rfl)) (aA cy (hr.mono (by first | decide | omega)) rfl bK bL cu .nil aE (aa (pv 0) (aa aj ai))) (fun _ _=>rfl)))
   (au (aJ (aG (aa aP (aa (aA xC (hr.mono (by first | decide | omega)) rfl pK pN xw .nil aE (aa (pv 0) (aa (pv 1) ai))) (aa (pv 4) (aa (aA xC (hr.mono (by first | decide | omega)) rfl pK pN xw .nil aE (aa (pv 0) (aa (pv 1) ai))) ai)))))))) bE)
   (ao (bR (aO bW (pv 3) aj (aV _)) (au (aJ (aG (aa aP (aa (aA gf (hr.mono (by first | decide | omega)) rfl fB fD fZ .nil aE (aa (pv 0) (aa (pv 1) (aa (aZ zx (pv 2) aj) ai)))) ai))))) bE)
   (ao (nD (i:=5) fj.nd rfl (Or.inl rfl) (br ["_law_k"] ["_law_draw","_law_things","_law_deep"] [0,1,2] rfl (by decide +kernel) (by decide +kernel) (by with_unfolding_all rfl) (by exact ⟨rfl,rfl,rfl,trivial⟩) (by rfl) rfl (by rfl)) rfl (fz rfl T.range (aa (aZ dQ aj (aZ fR (aZ zy (aA cy (hr.mono (by first | decide | omega)) rfl bK bL cu .nil aE (aa (pv 0) (aa aj ai))) aj) (bB eE (by rfl) T.int boot_int (aa (eO bW (pv 2) aj (aV _)) ai)))) ai)) (fun _ _ _ _=>(aQ (i:=0) (show List.Nodup (["_law_k","_law_draw","_law_things","_law_deep"]:List Str) by decide +kernel) rfl (Or.inl rfl) (Or.inr rfl))) (fun _ _ _ _=>cA) (fun _ _ _ _=>(aA gf (hr.mono (by first | decide | omega)) rfl fB fD fZ .nil aE (aa (pv 1) (aa (pv 2) (aa (aZ zx (pv 3) aj) ai))))))
   (au (aJ (aZ nF (aG (aa (aF bM (bh (aa aP (aa aP ai))) (aZ kH (pv 3) aj) (fun _ _=>rfl)) ai)) (bB bN (by rfl) T.tuple boot_tuple (aa (pv 5) ai))))))))),?_⟩
  have yk:l≠d:=by
   obtain ⟨x,y,ed⟩:=hd
   refine mK hl ed fun z=>?_
   cases xs with
   | nil=>cases z
   | cons a b=>cases z
  refine ⟨_,rfl,d,8,rfl,hd,(by decide),fun r0 H1 h0 b1 d1=>?_⟩
  have R3:H1 l=some (.lst (xs.map V.str)):=b1 _ _ hl yk
  by_cases hz:k0=0
  ·refine ⟨_,rfl,rfl,_,rfl,bG (by rw [hz];rfl) (pQ ?_)⟩
   refine ⟨(szl 6),fun q0 wQ=>?_⟩
   have UQ:q0≠d:=d1.ne wQ
   refine ⟨_,rfl,d,6,rfl,d1.same (new wQ),(by decide),fun r2 H2 h2 b2 d2=>?_⟩
   obtain ⟨sg,hsg,hs⟩:=signs_at (r:=r2) (by omega)
   refine ⟨q0,_,_,_,rfl,rfl,bC.of (b2 _ _ ah UQ),fE hsg,?_⟩
   have R1:H2 l=some (.lst (xs.map V.str)):=b2 _ _ (new wQ _ _ R3) yk
   refine ⟨_,rfl,_,rfl,d,l,xs,rfl,d2,R1,hx,zR,fun ra a n1 H3 b3 d3 Da Ca La Ia Sa=>?_⟩
   have VP:H3 l=some (.lst (xs.map V.str)):=b3 _ _ R1 yk
   refine ⟨_,rfl,_,rfl,_,rfl,d,l,xs,rfl,d3,VP,hx,zR,fun rb b m1 H4 b4 d4 Db Cb Lb Ib Sb=>?_⟩
   refine ⟨(szl 4),fun r hr'=>?_⟩
   refine k (.ref r) (.cmp a n1 sg b m1) _ (((((b1.new wQ).trans b2).trans b3).trans b4).new hr') (d4.same (new hr')) ?_ (by unfold Cd.dep;omega) (by unfold Gd;exact ⟨⟨Ca,La,Ia,Sa⟩,hs,⟨Cb,Lb,Ib,Sb⟩⟩) (by unfold Cd.full;trivial) (by unfold Cd.dW;exact uZ _)
   unfold aW
   exact ⟨r,ra,rb,rfl,ah,(Da.aB (d3.soft b4)).aB (aD.of (new hr')),Db.aB (aD.of (new hr'))⟩
  refine ⟨_,rfl,rfl,_,rfl,bf (fun e=>hz (by have:=V.int.inj e;omega)) ?_⟩
  by_cases h5:r0 < 5
  ·refine ⟨_,rfl,_,_,rfl,rfl,_,rfl,bG (by omega) ?_⟩
   refine ⟨(szl 6),fun q0 wQ=>?_⟩
   have UQ:q0≠d:=d1.ne wQ
   refine ⟨_,rfl,d,6,rfl,d1.same (new wQ),(by decide),fun r2 H2 h2 b2 d2=>?_⟩
   obtain ⟨sg,hsg,hs⟩:=signs_at (r:=r2) (by omega)
   refine ⟨q0,_,_,_,rfl,rfl,bC.of (b2 _ _ ah UQ),fE hsg,?_⟩
   have R1:H2 l=some (.lst (xs.map V.str)):=b2 _ _ (new wQ _ _ R3) yk
   refine ⟨_,rfl,_,rfl,d,l,xs,rfl,d2,R1,hx,zR,fun ra a n1 H3 b3 d3 Da Ca La Ia Sa=>?_⟩
   have VP:H3 l=some (.lst (xs.map V.str)):=b3 _ _ R1 yk
   refine ⟨_,rfl,_,rfl,_,rfl,d,l,xs,rfl,d3,VP,hx,zR,fun rb b m1 H4 b4 d4 Db Cb Lb Ib Sb=>?_⟩
   refine ⟨(szl 4),fun r hr'=>?_⟩
   refine k (.ref r) (.cmp a n1 sg b m1) _ (((((b1.new wQ).trans b2).trans b3).trans b4).new hr') (d4.same (new hr')) ?_ (by unfold Cd.dep;omega) (by unfold Gd;exact ⟨⟨Ca,La,Ia,Sa⟩,hs,⟨Cb,Lb,Ib,Sb⟩⟩) (by unfold Cd.full;trivial) (by unfold Cd.dW;exact uZ _)
   unfold aW
   exact ⟨r,ra,rb,rfl,ah,(Da.aB (d3.soft b4)).aB (aD.of (new hr')),Db.aB (aD.of (new hr'))⟩
  refine ⟨_,rfl,_,_,rfl,rfl,_,rfl,bf (by omega) ?_⟩
  have ek:∀ j:Int,j=(k0:Int) - 1→[V.ref d,V.ref l,V.int j]=[V.ref d,V.ref l,V.int ((k0 - 1:Nat):Int)]:=fun j e=>by rw [e,show ((k0:Int) - 1)=((k0 - 1:Nat):Int) by omega]
  by_cases h6:r0=5
  ·refine ⟨_,rfl,rfl,_,rfl,bG (by rw [h6];rfl) ?_⟩
   refine ⟨_,rfl,_,rfl,_,rfl,_,_,rfl,rfl,d,l,k0 - 1,xs,ek _ rfl,by omega,d1,R3,hx,zR,fun v c H2 b2 d2 ht Cg hg hfu lQ=>?_⟩
   refine ⟨(szl 2),fun r hr'=>?_⟩
   refine k (.ref r) (.neg c) _ ((b1.trans b2).new hr') (d2.same (new hr')) ?_ (by unfold Cd.dep;omega) (by unfold Gd;exact hg) (by unfold Cd.full;exact hfu) (by unfold Cd.dW;have z:=Q2 (k0 - 1);rw [show k0 - 1+1=k0 by omega] at z;omega)
   unfold aW
   exact ⟨r,v,rfl,ah,ht.aB (aD.of (new hr'))⟩
  refine ⟨_,rfl,rfl,_,rfl,bf (fun e=>h6 (by have:=V.int.inj e;omega)) ?_⟩
  refine ⟨_,rfl,d,4,rfl,d1,(by decide),fun r3 H2 h3 b2 d2=>⟨_,_,rfl,rfl,⟨by decide,by decide⟩,?_⟩⟩
  refine ⟨_,rfl,rfl,.inr ⟨decide (V.int (k0:Int)=V.int 1),rfl,_,_,rfl,rfl,.inl ⟨by omega,by omega⟩,?_⟩⟩
  have R1:H2 l=some (.lst (xs.map V.str)):=b2 _ _ R3 yk
  refine ⟨_,_,rfl,rfl,?_⟩
  obtain ⟨m,em,m1,m2,m3⟩:∃ m:Nat,(2:Int)+(r3:Int) / 3*(if decide (V.int (k0:Int)=V.int 1)=true then 1 else 0)=(m:Int)∧1≤m∧m≤3∧(k0=1∨m≤2):=by
   by_cases q:decide (V.int (k0:Int)=V.int 1)=true
   ·rw [if_pos q]
    exact ⟨(2+(r3:Int) / 3*1).toNat,by omega,by omega,by omega,.inl (by have:=V.int.inj (of_decide_eq_true q);omega)⟩
   ·rw [if_neg q]
    exact ⟨2,by omega,by omega,by omega,.inr (by omega)⟩
  refine ⟨(m:Int),congrArg (fun z=>[V.int z]) em,by omega,by omega,jj (n:=(m:Int).toNat) (fun i ys H'=>bQ d H H'∧Dr H' d∧H' l=some (.lst (xs.map V.str))∧∃ cs,bV H' cs ys∧cs.length=i∧ji cs≤k0∧GV xs cs∧cE cs∧uG cs≤i*FY (k0 - 1)) ⟨b1.trans b2,d2,R1,[],(by unfold bV;rfl),rfl,Nat.zero_le _,(by unfold GV;trivial),(by unfold cE;trivial),(by unfold uG;exact Nat.zero_le _)⟩ ?_ ?_⟩
  ·rintro i ys H' hi ⟨F,D,en,cs,ht,lc,dc,gc,fc,vc⟩
   have rm:ys.length=i:=by rw [ak (aN.mp ht),lc]
   refine ⟨Ext.one,iH ⟨_,rfl,_,rfl,_,rfl,_,_,rfl,rfl,d,l,k0 - 1,xs,ek _ rfl,by omega,D,en,hx,zR,fun v c H5 b5 d5 ht5 Cg hg hfu lQ=>⟨line _ (by omega),F.trans b5,d5,b5 _ _ en yk,cs++[c],?_,?_,?_,BB gc hg,wU fc hfu,(by rw [ia,Nat.succ_mul];omega)⟩⟩⟩
   ·exact aN.mpr (aH (aN.mp (ht.aB (D.soft b5))) ht5)
   ·rw [List.length_append,lc];rfl
   ·rw [yx];omega
  rintro ys H' ⟨F,D,en,cs,ht,lc,dc,gc,fc,vc⟩ q hq
  have rm:ys.length=cs.length:=ak (aN.mp ht)
  have U0:cs.length≤3:=by omega
  have two:2≤sizeLine:=Nat.le_of_lt (line 2 (by decide))
  have ZJ:(m:Int).toNat*FY (k0 - 1)≤FY k0:=by
   rw [show (m:Int).toNat=m by omega]
   match k0,hz,m3 with
   | 1,_,_=>show m*1≤3;omega
   | j+2,_,h =>
    have h2:m≤2:=h.elim (fun z=>absurd z (by omega)) id
    show m*FY (j+1)≤2*FY (j+1)
    exact Nat.mul_le_mul_right _ h2
  refine ⟨two,fun q1 hq1=>?_⟩
  obtain ⟨b,hb⟩:=QE (r0:Int)
  refine ⟨_,rfl,_,_,rfl,rfl,(by show (0:Int) < 2;decide),q1,_,_,_,rfl,rfl,bC.of ah,hb,Nat.le_of_lt (line 1 (by decide)),fun r1 hr1=>?_⟩
  have s1:=(new (o:=.lst ys) hq).trans ((new (o:=.lst [V.str "and",.str "or"]) hq1).trans (new (o:=.tup [V.str (Au b)]) hr1))
  have eq':upd (upd (upd H' q (.lst ys)) q1 (.lst [V.str "and",.str "or"])) r1 (.tup [V.str (Au b)]) q=some (.lst ys):=new hr1 _ _ (new hq1 _ _ ah)
  refine ⟨_,rfl,q,_,rfl,.inl ⟨bC.of eq',fun r2 hr2=>?_⟩⟩
  have s2:=s1.trans (new (o:=.tup ys) hr2)
  refine ⟨r1,r2,_,_,rfl,rfl,aX.of (new hr2 _ _ ah),aX.of ah,(by show 1+ys.length≤sizeLine;exact Nat.le_of_lt (line _ (by omega))),?_,?_,?_⟩
  ·intro z;cases z
  ·intro _ z
   exfalso
   rw [z] at rm
   have:(0:Nat)=cs.length:=rm
   omega
  ·intro _ _ r hr'
   refine k (.ref r) (.con b cs) _ ((F.trans (bQ.of s2)).new hr') ((D.same s2).same (new hr')) ?_ (by unfold Cd.dep;omega) (by unfold Gd;exact ⟨U0,gc⟩) (by unfold Cd.full;exact ⟨by omega,fc⟩) (by unfold Cd.dW;exact Nat.le_trans vc ZJ)
   unfold aW
   exact ⟨r,ys,rfl,ah,(ht.aB (aD.of s2)).aB (aD.of (new hr'))⟩
abbrev mC:Stmt:=top 44
theorem tS:aL ["_law_told_here","_law_parts"] ["_law_told_here"] (aq mC):=⟨rfl,rfl,rfl,by decide +kernel,rfl,by decide +kernel,by decide +kernel⟩
theorem M9 {f:Addr} {fd:FuncData} {Z:Cz} {n:Nat} {TM W fT fW:Addr} {dN dI:List Value} (F:dO K "_law_made" "_law_made" mC f fd) (T:Txt K mg Z.s) (U:gH K mg Z) (XT:dJ K mg TM W fT fW dN dI) (d_init:Mr P w K mg base 1 Z.s ["self","terms","number"] (lZ Z.s)) (gu:Mr P w K mg base 1 Z.c ["self","one","sign","other"] (jv Z)) (kW:Mr P w K mg base 1 Z.t ["self","condition"] (ny Z)) (gr:Mr P w K mg base 1 Z.e ["self","conditions"] (dM Z.e)) (gq:Mr P w K mg base 1 Z.o ["self","conditions"] (dM Z.o)) (DI:Dn P w K mg base (n+2) "_law_made" ["_law_told_here"] (nB Z n)):bF P w K mg base fh (n+3) f fd ["_law_told_here"] (nB Z (n+1)):=by
 obtain ⟨zW,vf,dG,M,dF⟩:=d_init
 obtain ⟨VF,Po,ff,ng,e8⟩:=gu
 obtain ⟨a7c,Vr,jN,Am,jM⟩:=kW
 obtain ⟨VD,Pk,gB,xB,gy⟩:=gr
 obtain ⟨VC,Ph,iy,BX,iu⟩:=gq
 obtain ⟨RN,NS,xE,qF,qL,xy⟩:=DI
 refine F.ok tS (fun vs H Q E h=>?_) (fun cdv A outer s H vs Q E hr h=>?_)
 ·obtain ⟨v,c,xs,rfl,ht,hd,hg,k⟩:=h
  rfl
 ·obtain ⟨v,c,xs,rfl,ht,hd,hg,k⟩:=h
  have hu:=bD hr
  rw [show ay mC=[_,_,_,_,_] from rfl]
  refine ⟨_,(ao (bR (aO bW (aF aK (pv 0) aj (fun _ _=>rfl)) aP (aV _)) (au (aJ (cW ng ff (hr.mono (by first | decide | omega)) rfl U.mgC e8 .nil aE (aa (cW M dG (hr.mono (by first | decide | omega)) rfl T.sD dF .nil aE (aa (aF aK (aF aK (pv 0) aj (fun _ _=>rfl)) aj (fun _ _=>rfl)) (aa (aF aK (aF aK (pv 0) aj (fun _ _=>rfl)) aj (fun _ _=>rfl)) ai))) (aa (aF aK (pv 0) aj (fun _ _=>rfl)) (aa (cW M dG (hr.mono (by first | decide | omega)) rfl T.sD dF .nil aE (aa (aF aK (aF aK (pv 0) aj (fun _ _=>rfl)) aj (fun _ _=>rfl)) (aa (aF aK (aF aK (pv 0) aj (fun _ _=>rfl)) aj (fun _ _=>rfl)) ai))) ai)))))) bE)
   (ao (bR (aO bW (aF aK (pv 0) aj (fun _ _=>rfl)) aP (aV _)) (au (aJ (cW Am jN (hr.mono (by first | decide | omega)) rfl U.mgT jM .nil aE (aa (aA xE (hr.mono (by first | decide | omega)) rfl qF qL xy .nil aE (aa (aF aK (pv 0) aj (fun _ _=>rfl)) ai)) ai)))) bE)
   (ao (nD (i:=1) tS.nd rfl (Or.inl rfl) (br ["_law_one"] [] [] rfl (by decide +kernel) (by decide +kernel) (by with_unfolding_all rfl) (by exact trivial) (by rfl) rfl (by rfl)) rfl (dD (jd zf (pv 0) (kE aj) kF)) (fun _ _ _ _=>(aQ (i:=0) (show List.Nodup (["_law_one"]:List Str) by decide +kernel) rfl (Or.inl rfl) (Or.inr rfl))) (fun _ _ _ _=>cA) (fun _ _ _ _=>(aA xE (hr.mono (by first | decide | omega)) rfl qF qL xy .nil aE (aa (pv 0) ai))))
   (ao (bR (aO bW (aF aK (pv 0) aj (fun _ _=>rfl)) aP (aV _)) (au (aJ (cW xB gB (hr.mono (by first | decide | omega)) rfl U.mgE gy .nil aE (aa (pv 1) ai)))) bE)
   (au (aJ (cW BX iy (hr.mono (by first | decide | omega)) rfl U.mgO iu .nil aE (aa (pv 1) ai)))))))),?_⟩
  cases c with
  | cmp a i s b m =>
   unfold aW at ht
   unfold Ge at hg
   obtain ⟨r,u,w,rfl,er,D1,D2⟩:=ht
   obtain ⟨t1,eu,T1⟩:=id D1
   have a3:=hg.1.2.1.1
   have b3:=hg.2.2.2.1.1
   refine ⟨_,rfl,r,_,0,_,rfl,rfl,aX.of er,rfl,rfl,_,rfl,bG rfl ?_⟩
   refine ⟨_,rfl,r,_,1,_,rfl,rfl,aX.of er,rfl,u,_,0,_,rfl,rfl,aX.of eu,rfl,?_⟩
   refine ⟨_,rfl,r,_,1,_,rfl,rfl,aX.of er,rfl,u,_,1,_,rfl,rfl,aX.of eu,rfl,fun x dx hx hdx ne=>?_⟩
   have g1:=bX (o:=.own x) (o':=.ins Z.s dx []) hx hdx
   refine ⟨x,dx,t1,i,a,rfl,ah,.inr (T1.same g1),by omega,fun H1 Sw S1=>⟨rfl,?_⟩⟩
   have s1:az H H1:=fun b' o z=>Sw b' o (g1 _ _ z) (av z hx)
   have D2':=D2.aB (aD.of s1)
   obtain ⟨t2,ew,T2⟩:=id D2'
   refine ⟨_,rfl,r,_,2,_,rfl,rfl,aX.of (s1 _ _ er),rfl,?_⟩
   refine ⟨_,rfl,r,_,3,_,rfl,rfl,aX.of (s1 _ _ er),rfl,w,_,0,_,rfl,rfl,aX.of ew,rfl,?_⟩
   refine ⟨_,rfl,r,_,3,_,rfl,rfl,aX.of (s1 _ _ er),rfl,w,_,1,_,rfl,rfl,aX.of ew,rfl,fun y dy hy hdy ne2=>?_⟩
   have g2:=bX (o:=.own y) (o':=.ins Z.s dy []) hy hdy
   refine ⟨y,dy,t2,m,b,rfl,ah,.inr (T2.same g2),by omega,fun H2 a96 S2=>⟨rfl,?_⟩⟩
   have s2:az H1 H2:=fun b' o z=>a96 b' o (g2 _ _ z) (av z hy)
   refine fun z dz hz hdz ne3=>?_
   have g3:=bX (o:=.own z) (o':=.ins Z.c dz []) hz hdz
   refine ⟨z,dz,x,y,s,rfl,ah,fun H3 a95 e3=>⟨rfl,?_⟩⟩
   have s3:az H2 H3:=fun b' o q=>a95 b' o (g3 _ _ q) (av q hz)
   refine k (.ref z) H3 ((s1.trans s2).trans s3) ?_
   unfold bw
   exact ⟨z,dz,x,y,rfl,e3,(S1.same s2).same s3,S2.same s3⟩
  | neg c =>
   unfold aW at ht
   unfold Ge at hg
   obtain ⟨r,u,rfl,er,ht⟩:=ht
   refine ⟨_,rfl,r,_,0,_,rfl,rfl,aX.of er,rfl,rfl,_,rfl,bf (bx (by decide +kernel)) ?_⟩
   refine ⟨_,rfl,r,_,0,_,rfl,rfl,aX.of er,rfl,rfl,_,rfl,bG rfl ?_⟩
   refine ⟨_,rfl,r,_,1,_,rfl,rfl,aX.of er,rfl,u,c,xs,rfl,ht,(by unfold Cd.dep at hd;omega),hg,fun v' H1 s1 hv=>?_⟩
   refine fun x dx hx hdx ne=>?_
   have g1:=bX (o:=.own x) (o':=.ins Z.t dx []) hx hdx
   refine ⟨x,dx,v',rfl,ah,fun H3 but e1=>⟨rfl,?_⟩⟩
   have s3:az H1 H3:=fun b' o z=>but b' o (g1 _ _ z) (av z hx)
   refine k (.ref x) H3 (s1.trans s3) ?_
   unfold bw
   exact ⟨x,dx,v',rfl,e1,hv.aB (aD.of s3)⟩
  | con b cs =>
   unfold aW at ht
   unfold Ge at hg
   obtain ⟨r,us,rfl,er,ht⟩:=ht
   have pR:=aN.mp ht
   have nW:us.length=cs.length:=ak pR
   have U0:=hg.1
   refine ⟨_,rfl,r,_,0,_,rfl,rfl,aX.of er,yL _ _,rfl,_,rfl,bf (bx (s:=Au b) (by cases b <;> decide +kernel)) ?_⟩
   refine ⟨_,rfl,r,_,0,_,rfl,rfl,aX.of er,yL _ _,rfl,_,rfl,bf (bx (s:=Au b) (by cases b <;> decide +kernel)) ?_⟩
   refine ⟨_,rfl,_,rfl,r,_,rfl,aX.of er,xj _ _,fun t yr=>?_⟩
   rw [DL]
   have s1:=new (o:=.tup us) yr
   refine ⟨t,rfl,⟨us,aX.of ah⟩,cU (xs:=us) (fun i ys H'=>az (upd H t (.tup us)) H'∧cG Z H' (cs.take i) ys) ⟨fun _ _ z=>z,(by unfold cG;rfl)⟩ (fun i ys H' _ q=>aX.of (q.1 _ _ ah)) ?_ ?_⟩
   ·rintro i x ys H' hix ⟨sm,hc⟩
    obtain ⟨c,fX,nY⟩:=bg pR hix
    have O9:=(List.getElem?_eq_some_iff.mp fX).1
    have iz:=List.mem_of_getElem? fX
    have dd:c.dep≤n:=by
     have z:=eT iz
     unfold Cd.dep at hd
     omega
    have rm:ys.length≤i:=by
     have z:=ak (aR.mp hc)
     rw [List.length_take] at z
     omega
    refine ⟨Ext.one,iH ⟨_,rfl,x,c,xs,rfl,nY.aB (aD.of (s1.trans sm)),dd,ve hg.2 iz,fun v' H1 iJ hv=>⟨line _ (by omega),sm.trans iJ,?_⟩⟩⟩
    rw [take_snoc fX]
    exact aR.mpr (aH (aR.mp (hc.aB (aD.of iJ))) hv)
   rintro ys H' ⟨sm,hc⟩ q hq
   rw [nW,List.take_length] at hc
   have rm:ys.length=cs.length:=ak (aR.mp hc)
   have sq:=new (o:=.lst ys) hq
   have sV:=sq _ _ (sm _ _ (s1 _ _ er))
   cases b with
   | true =>
    refine ⟨_,rfl,r,_,0,_,rfl,rfl,aX.of sV,yL _ _,rfl,_,rfl,bG rfl ?_⟩
    refine ⟨_,rfl,fun x dx hx hdx ne=>?_⟩
    have g1:=bX (o:=.own x) (o':=.ins Z.e dx []) hx hdx
    refine ⟨x,dx,q,ys,rfl,ah,g1 _ _ ah,fun t' H2 but e1 e2=>⟨rfl,?_⟩⟩
    have s2:az H' H2:=fun b' o z=>but b' o (g1 _ _ (sq _ _ z)) (av (sq _ _ z) hx)
    refine k (.ref x) H2 ((s1.trans sm).trans s2) ?_
    unfold bw
    exact ⟨x,dx,t',ys,rfl,e1,e2,by omega,hc.aB (aD.of s2)⟩
   | false =>
    refine ⟨_,rfl,r,_,0,_,rfl,rfl,aX.of sV,yL _ _,rfl,_,rfl,bf (bx (s:=Au false) (by decide +kernel)) ?_⟩
    refine ⟨_,rfl,fun x dx hx hdx ne=>?_⟩
    have g1:=bX (o:=.own x) (o':=.ins Z.o dx []) hx hdx
    refine ⟨x,dx,q,ys,rfl,ah,g1 _ _ ah,fun t' H2 but e1 e2=>⟨rfl,?_⟩⟩
    have s2:az H' H2:=fun b' o z=>but b' o (g1 _ _ (sq _ _ z)) (av (sq _ _ z) hx)
    refine k (.ref x) H2 ((s1.trans sm).trans s2) ?_
    unfold bw
    exact ⟨x,dx,t',ys,rfl,e1,e2,by omega,hc.aB (aD.of s2)⟩
abbrev vQ:Stmt:=top 11
theorem MB:aL ["thing"] ["thing"] (aq vQ):=⟨rfl,rfl,rfl,by decide +kernel,rfl,by decide +kernel,by decide +kernel⟩
theorem M7 {f:Addr} {fd:FuncData} {Z:Cz} {n:Nat} {TM W fT fW:Addr} {dN dI:List Value} (F:dO K "once" "once" vQ f fd) (T:Txt K mg Z.s) (U:gH K mg Z) (XT:dJ K mg TM W fT fW dN dI) (d_init:Mr P w K mg base 1 Z.s ["self","terms","number"] (lZ Z.s)):bF P w K mg base fh 3 f fd ["thing"] (CJ Z.s):=by
 obtain ⟨zW,vf,dG,M,dF⟩:=d_init
 refine F.ok MB (fun vs H Q E h=>?_) (fun cdv A outer s H vs Q E hr h=>?_)
 ·obtain ⟨x,rfl,k⟩:=h
  rfl
 ·obtain ⟨x,rfl,k⟩:=h
  have hu:=bD hr
  rw [show ay vQ=[_] from rfl]
  refine ⟨_,(au (aJ (cW M dG (hr.mono (by first | decide | omega)) rfl T.sD dF .nil aE (aa (aG (aa (aG (aa (pv 0) (aa aj ai))) ai)) (aa aj ai))))),?_⟩
  refine ⟨_,rfl,(szl 2),fun q hq=>⟨(Nat.le_of_lt (line 1 (by decide))),fun t ht=>fun x' nQ hx hdx ne=>?_⟩⟩
  have sA:=(new (o:=.tup [.str x,.int 1]) hq).trans (new (o:=.tup [V.ref q]) ht)
  have h1:az (upd (upd H q (.tup [.str x,.int 1])) t (.tup [V.ref q])) (upd (upd (upd (upd H q (.tup [.str x,.int 1])) t (.tup [V.ref q])) nQ (.own x')) x' (.ins Z.s nQ [])):=bX hx hdx
  refine ⟨x',nQ,t,0,[(x,1)],rfl,ah,.inr ⟨[V.ref q],h1 _ _ ah,fP ⟨q,rfl,h1 _ _ (new ht _ _ ah)⟩⟩,(by show 1≤1000;decide),fun H2 but S=>⟨rfl,?_⟩⟩
  exact k x' H2 (fun b o z=>but b o (h1 _ _ (sA _ _ z)) (av (sA _ _ z) hx)) S
abbrev iZ:Stmt:=top 30
theorem CM:aL ["place"] ["place"] (aq iZ):=⟨rfl,rfl,rfl,by decide +kernel,rfl,by decide +kernel,by decide +kernel⟩
theorem C2 {f:Addr} {fd:FuncData} {Z:Cz} {n:Nat} {TM W fT fW:Addr} {dN dI:List Value} (F:dO K "unknown" "unknown" iZ f fd) (T:Txt K mg Z.s) (U:gH K mg Z) (XT:dJ K mg TM W fT fW dN dI) :bF P w K mg base fh 1 f fd ["place"] IK:=by
 refine F.ok CM (fun vs H Q E h=>?_) (fun cdv A outer s H vs Q E hr h=>?_)
 ·obtain ⟨n0,rfl,h6,k⟩:=h
  rfl
 ·obtain ⟨n0,rfl,h6,k⟩:=h
  have hu:=bD hr
  rw [show ay iZ=[_] from rfl]
  refine ⟨_,(au (aJ (aZ kI aP (bB qU (by rfl) T.str boot_str (aa (pv 0) ai))))),?_⟩
  have lg:((n0:Int).natAbs.log2) < 1920:=IC ⟨n0,h6⟩
  have lz:("?":Str).length+(Str.ofString (toString (n0:Int))).length≤sizeLine:=Nat.le_of_lt (line _ (Nat.le_trans (OV ⟨n0,h6⟩) (by decide)))
  exact ⟨_,rfl,(n0:Int),rfl,lg,_,_,rfl,rfl,lz,k⟩
abbrev jb:Stmt:=top 27
theorem AI:aL ["total"] ["total"] (aq jb):=⟨rfl,rfl,rfl,by decide +kernel,rfl,by decide +kernel,by decide +kernel⟩
theorem A7 {f:Addr} {fd:FuncData} {Z:Cz} {n:Nat} {TM W fT fW:Addr} {dN dI:List Value} (F:dO K "is_never" "is_never" jb f fd) (T:Txt K mg Z.s) (U:gH K mg Z) (XT:dJ K mg TM W fT fW dN dI) :bF P w K mg base fh 1 f fd ["total"] (yW Z.s):=by
 refine F.ok AI (fun vs H Q E h=>?_) (fun cdv A outer s H vs Q E hr h=>?_)
 ·obtain ⟨p,ts,n0,rfl,S,k⟩:=h
  rfl
 ·obtain ⟨p,ts,n0,rfl,S,k⟩:=h
  have hu:=bD hr
  rw [show ay jb=[_] from rfl]
  refine ⟨_,(au (aJ (CW (eO bW (bS bP (by rfl) T.len PySem.boot_len (aa (bJ (pv 0) rfl) ai)) aj (aV _)) (CV (eO yh (bJ (pv 0) rfl) aj (aV _)))))),?_⟩
  obtain ⟨dx,t,hp,⟨vs,et,pr⟩,hz⟩:=S
  have lv:=bY pr
  cases ts with
  | nil =>
   cases pr
   refine ⟨_,rfl,p,Z.s,dx,_,_,rfl,hp,T.cl,T.nT,cZ _ _,t,_,rfl,.inr (aX.of et),rfl,_,rfl,bG rfl ⟨_,rfl,p,Z.s,dx,_,_,rfl,hp,T.cl,T.nN,cz _ _,_,_,rfl,rfl,?_⟩⟩
   exact k
  | cons x r =>
   refine ⟨_,rfl,p,Z.s,dx,_,_,rfl,hp,T.cl,T.nT,cZ _ _,t,_,rfl,.inr (aX.of et),rfl,_,rfl,bf (fun z=>?_) ?_⟩
   ·have:=V.int.inj z
    rw [lv] at this
    simp at this
    omega
   ·exact k
abbrev eW:Stmt:=top 32
theorem uA:aL ["case"] ["case"] (aq eW):=⟨rfl,rfl,rfl,by decide +kernel,rfl,by decide +kernel,by decide +kernel⟩
theorem uE {f:Addr} {fd:FuncData} {Z:Cz} {n:Nat} {TM W fT fW:Addr} {dN dI:List Value} (F:dO K "is_never_met" "is_never_met" eW f fd) (T:Txt K mg Z.s) (U:gH K mg Z) (XT:dJ K mg TM W fT fW dN dI) (DJ:Dn P w K mg base 1 "is_never" ["total"] (yW Z.s)):bF P w K mg base fh 2 f fd ["case"] (oE Z.s):=by
 obtain ⟨RQ,Pj,DY,Bh,Bo,DQ⟩:=DJ
 refine F.ok uA (fun vs H Q E h=>?_) (fun cdv A outer s H vs Q E hr h=>?_)
 ·obtain ⟨t,us,ss,rfl,ht,hS,hl,k⟩:=h
  rfl
 ·obtain ⟨t,us,ss,rfl,ht,hS,hl,k⟩:=h
  have hu:=bD hr
  rw [show ay eW=[_] from rfl]
  refine ⟨_,(au (aJ (bS (LK rfl) (by rfl) U.any boot_any (aa (bZ (br ["total"] [] [] rfl (by decide +kernel) (by decide +kernel) (by with_unfolding_all rfl) (by exact trivial) (by rfl) rfl (by rfl)) rfl (dD (pv 0)) (fun _ _ _ _=>(aQ (i:=0) (show List.Nodup (["total"]:List Str) by decide +kernel) rfl (Or.inl rfl) (Or.inr rfl))) (fun _ _ _ _=>cA) (fun _ _ _ _=>(aA DY (hr.mono (by first | decide | omega)) rfl Bh Bo DQ .nil aE (aa (pv 0) ai)))) ai)))),?_⟩
  refine ⟨_,rfl,t,rfl,⟨us,aX.of ht⟩,cU (xs:=us) (fun i ys H'=>H'=H∧ys=((ss.take i).map eG).map V.bl) ⟨rfl,rfl⟩ (fun i ys H' _ q=>by rw [q.1];exact aX.of ht) ?_ ?_⟩
  ·rintro i v ys H' hi ⟨rfl,rfl⟩
   obtain ⟨s,es,p,rfl,S⟩:=bg hS hi
   refine ⟨Ext.one,iH ⟨_,rfl,p,s.1,s.2,rfl,S,?_,rfl,?_⟩⟩
   ·rw [List.length_map,List.length_map,List.length_take]
    have:=ak hS
    exact line _ (by omega)
   ·rw [take_snoc es,List.map_append,List.map_append]
    rfl
  rintro ys H' ⟨rfl,rfl⟩ q hq
  have el:=ak hS
  refine ⟨q,_,rfl,bC.of ah,?_⟩
  rw [el,List.take_length,List.any_map]
  exact k _ (new hq)
abbrev iY:Stmt:=top 33
theorem rM:aL ["case"] ["case"] (aq iY):=⟨rfl,rfl,rfl,by decide +kernel,rfl,by decide +kernel,by decide +kernel⟩
theorem rY {f:Addr} {fd:FuncData} {Z:Cz} {n:Nat} {TM W fT fW:Addr} {dN dI:List Value} (F:dO K "without_plain" "without_plain" iY f fd) (T:Txt K mg Z.s) (U:gH K mg Z) (XT:dJ K mg TM W fT fW dN dI) :bF P w K mg base fh 1 f fd ["case"] (rG Z.s):=by
 refine F.ok rM (fun vs H Q E h=>?_) (fun cdv A outer s H vs Q E hr h=>?_)
 ·obtain ⟨t,us,ss,rfl,ht,hS,hl,k⟩:=h
  rfl
 ·obtain ⟨t,us,ss,rfl,ht,hS,hl,k⟩:=h
  have hu:=bD hr
  rw [show ay iY=[_] from rfl]
  refine ⟨_,(au (aJ (bB bN (by rfl) T.tuple boot_tuple (aa (bZ (br ["total"] [] [] rfl (by decide +kernel) (by decide +kernel) (by with_unfolding_all rfl) (by exact trivial) (by rfl) rfl (by rfl)) rfl (dD (pv 0)) (fun _ _ _ _=>(aQ (i:=0) (show List.Nodup (["total"]:List Str) by decide +kernel) rfl (Or.inl rfl) (Or.inr rfl))) (fun _ _ _ _=>(kC (aO yi (bS (xW (K:=K) rfl) (by rfl) T.len PySem.boot_len (aa (zl (K:=K) rfl (pv 0) rfl) ai)) aj (aV _)))) (fun _ _ _ _=>(pv 0))) ai)))),?_⟩
  have el:=ak hS
  refine ⟨_,rfl,t,rfl,⟨us,aX.of ht⟩,cU (xs:=us) (fun i ys H'=>H'=H∧PL Z.s H ys ((ss.take i).filter jc)) ⟨rfl,.nil⟩ (fun i ys H' _ q=>by rw [q.1];exact aX.of ht) ?_ ?_⟩
  ·rintro i v ys H' hi ⟨rfl,py⟩
   obtain ⟨s,es,p,rfl,S⟩:=bg hS hi
   obtain ⟨dx,tt,hp,⟨vs,et,pr⟩,hz⟩:=id S
   have lv:=bY pr
   have ly:=ak py
   have lf:((ss.take i).filter jc).length≤(ss.take i).length:=List.length_filter_le _ _
   rw [List.length_take] at lf
   refine ⟨Ext.one,_,rfl,p,Z.s,dx,_,_,rfl,hp,T.cl,T.nT,cZ _ _,tt,_,rfl,.inr (aX.of et),_,_,rfl,rfl,_,rfl,?_⟩
   rw [take_snoc es,List.filter_append]
   obtain ⟨a0,n0⟩:=s
   cases a0 with
   | nil =>
    refine bf (fun z=>?_) ⟨rfl,?_⟩
    ·have:vs.length=0:=lv
     omega
    ·show PL Z.s H' ys (List.filter jc (List.take i ss)++[])
     rw [List.append_nil]
     exact py
   | cons x r =>
    refine bG ?_ ⟨_,rfl,line _ (by omega),rfl,aH py ⟨p,rfl,S⟩⟩
    have:vs.length=r.length+1:=lv
    show (0:Int) < (vs.length:Int)
    omega
  rintro ys H' ⟨rfl,py⟩ q hq
  rw [el,List.take_length] at py
  refine ⟨q,_,rfl,.inl ⟨bC.of ah,fun r hr'=>?_⟩⟩
  have s2:=(new (o:=.lst ys) hq).trans (new (o:=.tup ys) hr')
  exact k r ys _ s2 ah (py.aB (aD.of s2))
abbrev oH:Stmt:=top 31
theorem n9:aL ["cases","condition","possible"] ["cases","condition"] (aq oH):=⟨rfl,rfl,rfl,by decide +kernel,rfl,by decide +kernel,by decide +kernel⟩
theorem JK {f:Addr} {fd:FuncData} {Z:Cz} {n:Nat} {TM W fT fW:Addr} {dN dI:List Value} (F:dO K "cases_with" "cases_with" oH f fd) (T:Txt K mg Z.s) (U:gH K mg Z) (XT:dJ K mg TM W fT fW dN dI) (jm:PM P w K mg base TM 9 Z "cases" ["self"] (vF Z TM 3)) (xg:Dn P w K mg base 2 "is_never_met" ["case"] (oE Z.s)) (uJ:Dn P w K mg base 1 "without_plain" ["case"] (rG Z.s)) (qS:G1 P w K mg base TM 5 "cases_of_both" ["ones","others"] (qk Z TM)):bF P w K mg base (As P w TM) 20 f fd ["cases","condition"] (yU Z TM):=by
 obtain ⟨Ln,G9,xF,uF,uH,xA⟩:=xg
 obtain ⟨Hg,Gr,uO,se,sI,uM⟩:=uJ
 obtain ⟨a7j,Vz,iI,gQ,gR,iG⟩:=qS
 refine F.O3 n9 (fun vs H Q E h=>?_) (fun cdv A outer s H vs Q E hr h=>?_)
 ·obtain ⟨o,p,A0,c,rfl,hA,lA,wA,hc,hd,ho,yt,hfu,lQ,k1,k2,k3⟩:=h
  rfl
 ·obtain ⟨o,p,A0,c,rfl,hA,lA,wA,hc,hd,ho,yt,hfu,lQ,k1,k2,k3⟩:=h
  have hu:=bD hr
  rw [show ay oH=[_,_] from rfl]
  refine ⟨_,(ao (nD (i:=2) n9.nd rfl (Or.inl rfl) (br ["case"] [] [] rfl (by decide +kernel) (by decide +kernel) (by with_unfolding_all rfl) (by exact trivial) (by rfl) rfl (by rfl)) rfl (eK (zm (Z:=Z) (pv 1) U.cl qD jm (hr.mono (by first | decide | omega)) oh)) (fun _ _ _ _=>(aQ (i:=0) (show List.Nodup (["case"]:List Str) by decide +kernel) rfl (Or.inl rfl) (Or.inr rfl))) (fun _ _ _ _=>(kC (Jf (vZ (aA xF (hr.mono (by first | decide | omega)) rfl uF uH xA .nil aE (aa (pv 0) ai)))))) (fun _ _ _ _=>(aA uO (hr.mono (by first | decide | omega)) rfl se sI uM .nil aE (aa (pv 0) ai))))
   (au (aJ (aA iI (hr.mono (by first | decide | omega)) rfl gQ gR iG .nil oh (aa (pv 0) (aa (pv 2) ai)))))),?_⟩
  refine ⟨_,rfl,p,c,rfl,hc,p,c,rfl,rfl,hc,hd,ho,yt,hfu,by omega,fun h64 r cs H1 s1 fr hr1 FI ce=>?_,fun h64 H1 s1=>k2 H1 h64 s1⟩
  obtain ⟨rv,er,pr1⟩:=hr1
  have lrv:=ak pr1
  have lcs:cs.length≤64:=by rw [FI.len];exact h64
  refine ⟨r,rfl,⟨_,bC.of er⟩,eg (xs:=rv) (fun j ys H'=>az H1 H'∧Paired (jO Z H') ys (gW (cs.take j))) ⟨az.refl _,.nil⟩ (fun j ys H' _ q=>bC.of (q.1 _ _ er)) ?_ ?_⟩
  ·rintro j v ys H2 hj ⟨s2,py⟩
   obtain ⟨k0,hk0,hv⟩:=bg pr1 hj
   obtain ⟨t,us,rfl,et,pu⟩:=hv.aB (aD.of s2)
   have nW:=ak pu
   have wk:=FI.oB k0 (List.mem_of_getElem? hk0)
   have rm:=ak py
   have Ti:=nu (cs.take j)
   have lt2:(cs.take j).length≤cs.length:=by rw [List.length_take];omega
   refine ⟨Ext.one,_,rfl,t,us,k0,rfl,et,pu,by omega,fun H3 s3=>⟨_,rfl,?_⟩⟩
   rw [take_snoc hk0,qe]
   cases hn:k0.any eG with
   | true =>
    refine rq rfl ⟨s2.trans s3,?_⟩
    rw [if_pos rfl,List.append_nil]
    exact L2.Paired.cF py fun _ _ z=>z.aB (aD.of s3)
   | false =>
    refine KP rfl ⟨_,rfl,t,us,k0,rfl,s3 _ _ et,L2.Paired.cF pu fun _ _ z=>W2.aB z (aD.of s3),by omega,fun r4 ws H4 s4 e4 sm4=>⟨line _ (by omega),(s2.trans s3).trans s4,?_⟩⟩
    rw [if_neg (by decide)]
    exact aH (L2.Paired.cF py fun _ _ z=>z.aB (aD.of (s3.trans s4))) ⟨r4,ws,rfl,e4,sm4⟩
  rintro ys H2 ⟨s2,py⟩ po hpo
  rw [lrv,List.take_length] at py
  have sP:=new (o:=.lst ys) hpo
  have sA:=(s1.trans s2).trans sP
  have ltc:=nu cs
  refine ⟨_,rfl,_,rfl,o,po,A0,gW cs,rfl,hA.same sA,⟨ys,ah,L2.Paired.cF py fun _ _ z=>z.aB (aD.of sP)⟩,lA,by omega,(fun a ha=>by have:=wA a ha;omega),(fun b hb=>?_),fun hle r5 H5 s5 Vp h5=>k1 r5 cs H5 h64 FI ce hle (sA.trans s5) (sA.free Vp) h5,fun hgt H5 s5=>k3 cs H5 FI ce hgt (sA.trans s5)⟩
  obtain ⟨b0,hb0,rfl⟩:=yQ hb
  have:=FI.oB b0 hb0
  have:(b0.filter jc).length≤b0.length:=List.length_filter_le _ _
  omega
abbrev oR:Stmt:=top 29
theorem ko:aL ["debt","things","cases","count","row"] ["debt"] (aq oR):=⟨rfl,rfl,rfl,by decide +kernel,rfl,by decide +kernel,by decide +kernel⟩
theorem JQ {f:Addr} {fd:FuncData} {Z:Cz} {n:Nat} {TM W fT fW:Addr} {dN dI:List Value} (F:dO K "owed" "owed" oR f fd) (T:Txt K mg Z.s) (U:gH K mg Z) (XT:dJ K mg TM W fT fW dN dI) {Db:Addr} (W:TX K mg Db) (Sk:Dn P w K mg base 3 "once" ["thing"] (CJ Z.s)) (GA:Dn P w K mg base 1 "unknown" ["place"] IK) (mW:Mt P w K mg base 5 Z.s "put_in" ["self","sums"] (vC Z.s)) (gb:M4 P w K mg base 8 Z "put_in" ["self","sums"] (gi Z 3)) (e9:M4 P w K mg base 5 Z "opposite" ["self"] (iB Z 3)) (N5:G1 P w K mg base TM 20 "cases_with" ["cases","condition"] (yU Z TM)):bF P w K mg base (As P w TM) 21 f fd ["debt"] (uT Z Db TM):=by
 obtain ⟨a7g,YH,SQ,Nq,NB,Sz⟩:=Sk
 obtain ⟨Tu,RJ,GW,C6,Dj,GN⟩:=GA
 obtain ⟨Ll,Gu,iS,qH,iQ⟩:=mW
 obtain ⟨YJ,Vq,rj,om,ou,qW⟩:=N5
 refine F.O3 ko (fun vs H Q E h=>?_) (fun cdv A outer s H vs Q E hr h=>?_)
 ·obtain ⟨p,rs,c,rfl,hD,hR,hl,hn,Rf,k1,k2⟩:=h
  rfl
 ·obtain ⟨p,rs,c,rfl,hD,hR,hl,hn,Rf,k1,k2⟩:=h
  have hu:=bD hr
  rw [show ay oR=[_,_,_,_,_] from rfl]
  refine ⟨_,(ao (aT (i:=1) ko.nd rfl (Or.inl rfl) mG)
   (ao (aT (i:=2) ko.nd rfl (Or.inl rfl) (bh (aa (aG ai) ai)))
   (ao (aT (i:=3) ko.nd rfl (Or.inl rfl) aj)
   (ao (eX PassesOwn.leaving rfl (dD (bJ (pv 0) rfl)) (aQ (i:=4) ko.nd rfl (Or.inl rfl)) (au (bR (aO bW (aF aK (pv 4) aj (fun _ _=>rfl)) aP (aV _)) (ao (kD hu (pv 1) (aF aK (pv 4) aj (fun _ _=>rfl)) (aA SQ (hr.mono (by first | decide | omega)) rfl Nq NB Sz .nil aE (aa (aA GW (hr.mono (by first | decide | omega)) rfl C6 Dj GN .nil aE (aa (pv 3) ai)) ai)) rfl)
   (au (aT (i:=3) ko.nd rfl (Or.inl rfl) (aZ dQ (pv 3) aj)))) (au (bR (aO bW (aF aK (pv 4) aj (fun _ _=>rfl)) aP (aV _)) (au (kD hu (pv 1) (aF aK (pv 4) aj (fun _ _=>rfl)) (iN (aF aK (pv 4) aj (fun _ _=>rfl)) T.cl qH iS (hr.mono (by first | decide | omega)) iQ .nil aE (aa (pv 1) ai)) rfl)) (au (aT (i:=2) ko.nd rfl (Or.inl rfl) (aA rj (hr.mono (by first | decide | omega)) rfl om ou qW .nil oh (aa (pv 2) (aa (AV (Z:=Z) (aF aK (pv 4) aj (fun _ _=>rfl)) U.cl jV gb (hr.mono (by first | decide | omega)) aE (aa (pv 1) ai)) ai))))))))))
   (au (aJ (aA rj (hr.mono (by first | decide | omega)) rfl om ou qW .nil oh (aa (pv 2) (aa (AV (Z:=Z) (zo (Z:=Z) (bJ (pv 0) rfl) U.cl jB e9 (hr.mono (by first | decide | omega)) aE) U.cl jV gb (hr.mono (by first | decide | omega)) aE (aa (pv 1) ai)) ai))))))))),?_⟩
  obtain ⟨dx,k0,a,h,us,vc,hp,hh,hrw,hcv⟩:=hD
  have UY:=ak hrw
  intro d hd
  refine ⟨Nat.zero_le _,fun t0 ht0=>⟨(Nat.le_of_lt (line 1 (by decide))),fun V1 Rk=>?_⟩⟩
  have hd0:H d=none:=hd
  have s1:=((new (o:=.dK []) hd).trans (new (o:=.tup []) ht0)).trans (new (o:=.lst [V.ref t0]) Rk)
  have ed:(upd (upd (upd H d (.dK [])) t0 (.tup [])) V1 (.lst [V.ref t0])) d=some (.dK []):=new Rk _ _ (new ht0 _ _ ah)
  have ecs:dX Z (upd (upd (upd H d (.dK [])) t0 (.tup [])) V1 (.lst [V.ref t0])) V1 [[]]:=⟨_,ah,.cons ⟨t0,[],rfl,new Rk _ _ ah,.nil⟩ .nil⟩
  generalize upd (upd (upd H d (.dK [])) t0 (.tup [])) V1 (.lst [V.ref t0])=H1 at s1 ed ecs ⊢
  refine ⟨_,rfl,p,Db,dx,_,_,rfl,s1 _ _ hp,W.cd,W.nd _ (by decide +kernel),Gz _ _ _ _,h,rfl,⟨us,aX.of (s1 _ _ hh)⟩,kU (xs:=us) (fun i σ H'=>∃ (kvs:List (Key×V)) (cs:Addr) (s:Oz) (o4:Option V),σ=[some (.ref p),some (.ref d),some (.ref cs),some (.int (s.m:Int)),o4]∧az H H'∧H' d=some (.dK kvs)∧Rl (LU Z.s H') kvs s.S∧dX Z H' cs s.A∧OI (rs.take i) s) ⟨[],V1,⟨[],0,[[]]⟩,none,rfl,s1,ed,.nil,ecs,OI.nil⟩ (fun i σ H' _ ⟨_,_,_,_,_,q,_⟩=>aX.of (q _ _ hh)) ?_ ?_⟩
  ·rintro i v σ H2 hi ⟨kvs,cs,s,o4,rfl,s2,Pq,rl,N2,I⟩
   obtain ⟨r,vd,Bu⟩:=bg hrw hi
   have Bu:=Bu.aB (aD.of s2)
   have hok:=hR i r vd
   have il:i < rs.length:=(List.getElem?_eq_some_iff.mp vd).1
   have ltk:(rs.take i).length=i:=by rw [List.length_take];omega
   have an:=nS i rs
   have em:=I.m
   have few:=I.few (by omega)
   have lk:=rl.len
   have kz:kvs.length < sizeLine:=line _ (by have:=I.sl;omega)
   have dput:∀ (x:Str) (q:Addr) (m:Sm) (H3:Hp),az H2 H3→cB Z.s H3 q m.1 m.2 →
     az H (upd H3 d (.dK (putK kvs (Sum.inr x) (V.ref q))))∧Rl (LU Z.s (upd H3 d (.dK (putK kvs (Sum.inr x) (V.ref q))))) (putK kvs (Sum.inr x) (V.ref q)) (fK s.S x m)∧dX Z (upd H3 d (.dK (putK kvs (Sum.inr x) (V.ref q)))) cs s.A:=fun x q m H3 s3 S3=>by
    have Zz:=s3 _ _ Pq
    have b3:bQ d H3 (upd H3 d (.dK (putK kvs (Sum.inr x) (V.ref q)))):=bQ.upd
    have hk:aD H3 (upd H3 d (.dK (putK kvs (Sum.inr x) (V.ref q)))):=aD.soft b3 Zz IM
    refine ⟨fun b o z=>b3 _ _ (s3 _ _ (s2 _ _ z)) (av z hd0),Rl.put (rl.mono fun u q z=>(cB.same z s3).aB hk) (S3.aB hk),?_⟩
    obtain ⟨w1,e1,p1⟩:=N2
    refine ⟨w1,?_,L2.Paired.cF p1 fun _ _ z=>(z.aB (aD.of s3)).aB hk⟩
    rw [aM (mK (s3 _ _ e1) Zz (by intro z;cases z))]
    exact s3 _ _ e1
   cases r with
   | any x =>
    obtain ⟨pr,rfl,ep⟩:=Bu
    have em1:s.m < 19:=by
     have:=nS (i+1) rs
     rw [take_snoc vd,dj] at this
     have:dY (rs.take i)+1≤dY rs:=this
     omega
    refine ⟨_,rfl,pr,_,0,_,rfl,rfl,aX.of ep,rfl,rfl,_,rfl,bG rfl ?_⟩
    refine ⟨_,rfl,s.m,rfl,by omega,uk s.m,rfl,fun q H3 s3 S3=>?_⟩
    refine ⟨_,rfl,_,rfl,pr,_,1,_,rfl,rfl,aX.of (s3 _ _ ep),rfl,d,_,rfl,xM.k (k:=Sum.inr x) (s3 _ _ Pq) kz,?_⟩
    obtain ⟨z1,z2,z3⟩:=dput x q ([(uk s.m,1)],0) H3 s3 S3
    refine ⟨_,rfl,_,_,rfl,rfl,?_⟩
    exact ⟨_,cs,⟨fK s.S x ([(uk s.m,1)],0),s.m+1,s.A⟩,_,rfl,z1,ah,z2,z3,by rw [take_snoc vd];exact I.any x⟩
   | lt x b c0 =>
    obtain ⟨pr,q0,rfl,ep,Sq⟩:=Bu
    refine ⟨_,rfl,pr,_,0,_,rfl,rfl,aX.of ep,rfl,rfl,_,rfl,bf (bx (by decide +kernel)) ?_⟩
    refine ⟨_,rfl,pr,_,0,_,rfl,rfl,aX.of ep,rfl,rfl,_,rfl,bG rfl ?_⟩
    obtain ⟨dxq,tq,eq0,_,_⟩:=id Sq
    refine ⟨_,rfl,pr,_,2,_,rfl,rfl,aX.of ep,rfl,q0,dxq,_,rfl,eq0,gj _ _ (by decide +kernel) (by decide +kernel),_,rfl,q0,d,b,c0,kvs,s.S,rfl,Sq,.inl Pq,rl,hok.2.1,few,fun q T9 H3 s3 g3 S3=>?_⟩
    refine ⟨_,rfl,_,rfl,pr,_,1,_,rfl,rfl,aX.of (s3 _ _ ep),rfl,d,_,rfl,xM.k (k:=Sum.inr x) (s3 _ _ Pq) kz,?_⟩
    obtain ⟨z1,z2,z3⟩:=dput x q (T9,_) H3 s3 S3
    exact ⟨_,cs,⟨fK s.S x (T9,c0+gE s.S b),s.m,s.A⟩,_,rfl,z1,ah,z2,z3,by rw [take_snoc vd];exact I.lt x (fun p hp=>hok.2.2.1 p hp) g3⟩
   | hold c1 =>
    obtain ⟨pr,q0,rfl,ep,hcq⟩:=Bu
    obtain ⟨hge,hfu,Cg,lQ⟩:=hok
    refine ⟨_,rfl,pr,_,0,_,rfl,rfl,aX.of ep,rfl,rfl,_,rfl,bf (bx (by decide +kernel)) ?_⟩
    refine ⟨_,rfl,pr,_,0,_,rfl,rfl,aX.of ep,rfl,rfl,_,rfl,bf (bx (by decide +kernel)) ?_⟩
    refine ⟨_,rfl,_,rfl,pr,_,1,_,rfl,rfl,aX.of ep,rfl,q0,c1,rfl,hcq,_,rfl,q0,d,c1,kvs,s.S,rfl,rfl,hcq,Cg,Ge.l3 hge,.inl Pq,rl,few,fun v' c' H3 s3 pR hv'=>?_⟩
    obtain ⟨p3,rfl⟩:=di hv'
    obtain ⟨b1,b2,b3,b4,b5,b6,b7⟩:=mE (U:=xZ s.m) (by rw [nk];omega) I.IQ (gU (fun x hx=>(I.ks x).mpr hx) (Ge.G7 hge)) (Ge.ok hge) hfu pR
    refine ⟨cs,p3,s.A,c',rfl,N2.same s3,I.O7,(fun k hk=>by have:=(I.oB k hk).1;omega),hv',by omega,b1,b2,b3,by omega,fun r4 cc H4 h64 FI ce hle s4 fr4 h4=>?_,fun H4 h64 s4=>?_,fun cc H4 FI ce hgt s4=>?_⟩
    ·have Ey:=s3.trans s4
     exact ⟨kvs,r4,⟨s.S,s.m,bq s.A (gW cc)⟩,_,rfl,s2.trans Ey,Ey _ _ Pq,rl.mono fun u q z=>cB.same z Ey,h4,by rw [take_snoc vd];exact I.hold hge lQ pR b6 (b7 false) b4 FI ce h64 hle⟩
    ·exact k2 (AY I.run vd (by rw [mF pR];exact sZ h64)) (I.raise hR Rf vd (.inl (by rw [← b7 false];exact h64))) H4 ((s2.trans s3).trans s4)
    ·refine k2 (AY I.run vd (by rw [mF pR];exact sY ce hgt)) (I.raise hR Rf vd (.inr ?_)) H4 ((s2.trans s3).trans s4)
     have:=Nat.mul_le_mul_left s.A.length (nu cc)
     rw [FI.len,b7 false] at this
     omega
  ·rintro σ H2 ⟨kvs,cs,s,o4,rfl,s2,Pq,rl,N2,I⟩
   rw [UY,List.take_length] at I
   obtain ⟨hge,hfu,Cg,lQ⟩:=id Rf
   have few:=I.few (by omega)
   have em:=I.m
   have hok:c.ok:=Ge.ok hge
   obtain ⟨a1,a2,a3,a4,a5,a6⟩:=kG hok (Ge.iT hge) hfu
   have Rj:=hcv.aB (aD.of s2)
   obtain ⟨pv,rfl⟩:=di Rj
   refine ⟨_,rfl,_,rfl,p,Db,dx,_,_,rfl,s2 _ _ hp,W.cd,W.nd _ (by decide +kernel),LB _ _ _ _,pv,c,rfl,Rj,pv,c,rfl,rfl,Rj,Cg,hok,fun v3 H3 s3 To=>?_⟩
   obtain ⟨p3,rfl⟩:=di To
   refine ⟨p3,c.cY,rfl,To,_,rfl,p3,d,c.cY,kvs,s.S,rfl,rfl,To,by omega,(JI (Ge.l3 hge)),.inl (s3 _ _ Pq),rl.mono fun u q z=>cB.same z s3,few,fun v4 c' H4 s4 pR hv4=>?_⟩
   obtain ⟨p4,rfl⟩:=di hv4
   obtain ⟨b1,b2,b3,b4,b5,b6,b7⟩:=mE (U:=xZ s.m) (by rw [nk];omega) I.IQ (gU (fun x hx=>(I.ks x).mpr hx) (a6 _ (Ge.G7 hge))) a1 a3 pR
   have en:c'.cN false=c.cN true:=by rw [b7 false,qE c false hok];rfl
   have Ey:=s3.trans s4
   refine ⟨cs,p4,s.A,c',rfl,N2.same Ey,I.O7,(fun k hk=>by have:=(I.oB k hk).1;omega),hv4,by omega,b1,b2,b3,by omega,fun r5 cc H5 h64 FI ce hle s5 Vp h5=>?_,fun H5 h64 s5=>?_,fun cc H5 FI ce hgt s5=>?_⟩
   ·obtain ⟨f1,f2⟩:=I.fin hR Rf pR b6 b4 FI ce h64 hle
    exact k1 _ f1 f2 r5 H5 ((s2.trans Ey).trans s5) ((s2.trans Ey).free Vp) h5
   ·exact k2 (yg I.run (by rw [mF pR];exact sZ h64)) (I.I9 hR Rf (.inl (by rw [← en];exact h64))) H5 ((s2.trans Ey).trans s5)
   ·refine k2 (yg I.run (by rw [mF pR];exact sY ce hgt)) (I.I9 hR Rf (.inr ?_)) H5 ((s2.trans Ey).trans s5)
    have:=Nat.mul_le_mul_left s.A.length (nu cc)
    rw [FI.len,en] at this
    omega
abbrev o9:Stmt:=top 47
theorem dh:aL ["_law_draw","_law_things","_law_rows","_law_known","_law_k","_law_kind","_law_thing"] ["_law_draw","_law_things"] (aq o9):=⟨rfl,rfl,rfl,by decide +kernel,rfl,by decide +kernel,by decide +kernel⟩
theorem J1 {f:Addr} {fd:FuncData} {Z:Cz} {n:Nat} {TM W fT fW:Addr} {dN dI:List Value} (F:dO K "_law_ahead" "_law_ahead" o9 f fd) (T:Txt K mg Z.s) (U:gH K mg Z) (XT:dJ K mg TM W fT fW dN dI) (fY:Dn P w K mg base 2 "_law_next" ["_law_draw","_law_size"] jH) (pV:Dn P w K mg base 3 "_law_sum" ["_law_draw","_law_things"] rH) (ig:Dn P w K mg base 5 "_law_condition" ["_law_draw","_law_things","_law_deep"] (kj 2)):bF P w K mg base fh 8 f fd ["_law_draw","_law_things"] vE:=by
 obtain ⟨sS,nM,cy,bK,bL,cu⟩:=fY
 obtain ⟨Lk,E7,xC,pK,pN,xw⟩:=pV
 obtain ⟨uv,qR,gf,fB,fD,fZ⟩:=ig
 refine F.ok dh (fun vs H Q E h=>?_) (fun cdv A outer s H vs Q E hr h=>?_)
 ·obtain ⟨d,l,xs,rfl,hd,hl,x1,Td,zR,k⟩:=h
  rfl
 ·obtain ⟨d,l,xs,rfl,hd,hl,x1,Td,zR,k⟩:=h
  have hu:=bD hr
  rw [show ay o9=[_,_,_,_] from rfl]
  refine ⟨_,(ao (aT (i:=2) dh.nd rfl (Or.inl rfl) (bh ai))
   (ao (aT (i:=3) dh.nd rfl (Or.inl rfl) (bh ai))
   (ao (eX PassesOwn.never rfl (fz rfl T.range (aa (aZ dQ aj (aA cy (hr.mono (by first | decide | omega)) rfl bK bL cu .nil aE (aa (pv 0) (aa aj ai)))) ai)) (aQ (i:=4) dh.nd rfl (Or.inl rfl)) (ao (aT (i:=5) dh.nd rfl (Or.inl rfl) (aA cy (hr.mono (by first | decide | omega)) rfl bK bL cu .nil aE (aa (pv 0) (aa aj ai))))
   (ao (aT (i:=6) dh.nd rfl (Or.inl rfl) (aF bM (pv 1) (aA cy (hr.mono (by first | decide | omega)) rfl bK bL cu .nil aE (aa (pv 0) (aa (bS bP (by rfl) T.len PySem.boot_len (aa (pv 1) ai)) ai))) (fun _ _=>rfl)))
   (au (bR (PW.pt (vW (aO (FG (uN hr)) (pv 3) (bh ai) (aV _)) (rS (aO yh (pv 5) aj (aV _))))) (ao (cV (jz PySem.F.plainAttrs_list PySem.F.slot_list_append PySem.F.type_list_append dZ (pv 2) (aa (aF bM (bh (aa (aG (aa aP (aa (pv 6) ai))) (aa (aG (aa aP (aa (pv 6) (aa (aA xC (hr.mono (by first | decide | omega)) rfl pK pN xw .nil aE (aa (pv 0) (aa (pv 3) ai))) ai)))) ai))) (bB eE (by rfl) T.int boot_int (aa (CW (eO (v9 (uN hr)) (pv 3) (bh ai) (aV _)) (CV (eO bW (pv 5) aj (aV _)))) ai)) (fun _ _=>rfl)) ai)))
   (au (bR (PW.pt (vW (aO bW (aF aK (aF bM (pv 2) (lO iA aj) (fun _ _=>rfl)) aj (fun _ _=>rfl)) aP (aV _)) (rS (aO bW (aF aK (aF bM (pv 2) (lO iA aj) (fun _ _=>rfl)) aj (fun _ _=>rfl)) aP (aV _))))) (au (aT (i:=3) dh.nd rfl (Or.inl rfl) (aZ fS (pv 3) (aZ CZ (bh (aa (pv 6) ai)) (bB eE (by rfl) T.int boot_int (aa (eO qC (pv 6) (pv 3) (by rfl)) ai)))))) bE))) (au (bR (aO bW (pv 5) aj (aV _)) (ao (cV (jz PySem.F.plainAttrs_list PySem.F.slot_list_append PySem.F.type_list_append dZ (pv 2) (aa (aG (aa aP (aa (pv 6) (aa (aA xC (hr.mono (by first | decide | omega)) rfl pK pN xw .nil aE (aa (pv 0) (aa (pv 3) ai))) ai)))) ai)))
   (au (aT (i:=3) dh.nd rfl (Or.inl rfl) (aZ fS (pv 3) (aZ CZ (bh (aa (pv 6) ai)) (bB eE (by rfl) T.int boot_int (aa (eO qC (pv 6) (pv 3) (by rfl)) ai))))))) (au (cV (jz PySem.F.plainAttrs_list PySem.F.slot_list_append PySem.F.type_list_append dZ (pv 2) (aa (aG (aa aP (aa (aA gf (hr.mono (by first | decide | omega)) rfl fB fD fZ .nil aE (aa (pv 0) (aa (pv 3) (aa aj ai)))) ai))) ai)))))))))))
   (au (aJ (aG (aa (pv 2) (aa (pv 3) ai)))))))),?_⟩
  refine ⟨Nat.zero_le _,fun rw' hrw=>⟨Nat.zero_le _,fun kn0 hkn=>?_⟩⟩
  have Vf:=jA hkn
  have nrk:rw'≠kn0:=av ah hkn
  have FU:rw'≠d:=hd.ne hrw
  have a4d:kn0≠d:=hd.ne Vf
  have yk:l≠d:=by
   obtain ⟨x,y,ed⟩:=hd
   refine mK hl ed fun z=>?_
   cases xs with
   | nil=>exact absurd x1 (by decide)
   | cons a b=>cases z
  have lrw:l≠rw':=av hl hrw
  have sA:=(new (o:=.lst []) hrw).trans (new (o:=.lst []) hkn)
  refine ⟨_,rfl,d,6,rfl,hd.same sA,(by decide),fun r0 H1 h0 b1 d1=>⟨_,_,rfl,rfl,?_⟩⟩
  refine ⟨((2+r0:Nat):Int),(by rw [Int.natCast_add];rfl),by omega,by omega,nL (n:=(((2+r0:Nat):Int)).toNat) (fun i σ H'=>∃ (uh:Addr) (rs:List Rw) (us:List V) (ks:List Str) (a4 a5 a6:Option V),σ=[some (.ref d),some (.ref l),some (.ref rw'),some (.ref uh),a4,a5,a6]∧bQ d H H'∧Dr H' d∧H' rw'=some (.lst us)∧iK H' us rs∧lV rs∧rs.length≤i∧H' uh=some (.lst (ks.map V.str))∧(0 < i→1≤ks.length)∧ks.length≤i∧(∀ x∈ks,x∈gI rs∧x.length≤100)∧H uh=none∧uh≠rw') ⟨kn0,[],[],[],none,none,none,rfl,(bQ.of sA).trans b1,d1,b1 _ _ (new hkn _ _ ah) FU,.nil,lV.nil,Nat.le_refl _,b1 _ _ ah a4d,(fun h=>absurd h (Nat.lt_irrefl _)),Nat.le_refl _,(fun x h=>nomatch h),Vf,nrk.symm⟩ ?_ ?_⟩
  ·rintro i σ H2 hi ⟨uh,rs,us,ks,a4,a5,a6,rfl,F,D,er,R2,Dt,rl,ek,Ys,kl,lS,hkf,QU⟩
   have hi:i < 2+r0:=hi
   have Nm:uh≠d:=hd.ne hkf
   refine ⟨_,rfl,d,5,rfl,D,(by decide),fun r1 H3 h1 b3 d3=>?_⟩
   have lz:(xs.map V.str).length=xs.length:=List.length_map ..
   refine ⟨_,rfl,_,rfl,_,rfl,l,_,rfl,.inl (bC.of (b3 _ _ (F _ _ hl yk) yk)),d,_,rfl,d3,by rw [lz];omega,fun r2 H4 h2 b4 d4=>?_⟩
   rw [lz] at h2
   obtain ⟨x,hx,hxm⟩:∃ x:Str,(xs.map V.str)[r2]?=some (V.str x)∧x∈xs:=by
    have hr2:r2 < xs.length:=by omega
    exact ⟨xs[r2],by rw [List.getElem?_map,List.getElem?_eq_getElem hr2];rfl,List.getElem_mem hr2⟩
   have SE:bQ d H2 H4:=b3.trans b4
   have F4:=F.trans SE
   refine ⟨l,_,_,_,rfl,rfl,bC.of (F4 _ _ hl yk),fE hx,?_⟩
   have er4:=SE _ _ er FU
   have VQ:=SE _ _ ek Nm
   have R4:=aS R2 (D.soft SE)
   have nW:=ak R2
   have Mn:=zR x hxm
   clear b3 b4 d3 hx R2 F D er ek SE
   by_cases hks:ks=[]
   ·refine ⟨_,rfl,Nat.zero_le _,fun e0 uq=>⟨uh,e0,_,rfl,rfl,bC.of (new uq _ _ VQ),bC.of ah,_,rfl,bG (by rw [hks];rfl) (pQ ?_)⟩⟩
    have s5:=new (o:=.lst []) uq
    have Gw:=s5 _ _ er4
    have DE:=s5 _ _ VQ
    have R5:=aS R4 (aD.of s5)
    have D5:=d4.same s5
    have F5:=F4.trans (bQ.of s5)
    generalize upd H4 e0 (.lst [])=H5 at s5 Gw DE R5 D5 F5 ⊢
    refine ⟨_,rfl,.inl ⟨rfl,_,bC.of Gw⟩,_,rfl,(szl 2),fun t1 ht1=>?_⟩
    have MC:=new (o:=.tup [.str "any",.str x]) ht1
    have nt1:t1≠d:=D5.ne ht1
    refine ⟨_,rfl,_,rfl,_,rfl,d,uh,ks,rfl,D5.same MC,MC _ _ DE,by omega,(fun z hz=>(lS z hz).2),fun ra ts n0 H6 b6 d6 Da Ca La Ia Sa=>⟨(szl 3),fun t2 um=>⟨(szl 2),fun q hq=>?_⟩⟩⟩
    have s7:=(new (o:=.tup [.str "let",.str x,.ref ra]) um).trans (new (o:=.lst [V.ref t1,.ref t2]) hq)
    have zY:(upd (upd H6 t2 (.tup [.str "let",.str x,.ref ra])) q (.lst [V.ref t1,.ref t2])) t2=some (.tup [.str "let",.str x,.ref ra]):=new hq _ _ ah
    have VO:(upd (upd H6 t2 (.tup [.str "let",.str x,.ref ra])) q (.lst [V.ref t1,.ref t2])) q=some (.lst [V.ref t1,.ref t2]):=ah
    generalize upd (upd H6 t2 (.tup [.str "let",.str x,.ref ra])) q (.lst [V.ref t1,.ref t2])=H7 at s7 zY VO ⊢
    have WW:bQ d H5 H7:=((bQ.of MC).trans b6).trans (bQ.of s7)
    have D7:=d6.same s7
    refine ⟨_,rfl,Nat.zero_le _,fun e1 Gp=>?_⟩
    have s8:=new (o:=.lst []) Gp
    have bA:=WW.trans (bQ.of s8)
    have Lr:=s8 _ _ (s7 _ _ (b6 _ _ ah nt1))
    have zY:=s8 _ _ zY
    have TH:=s8 _ _ VO
    have BF:=bA _ _ Gw FU
    have Hi:=bA _ _ DE Nm
    have R9:=aS R5 (D5.soft bA)
    have D9:=D7.same s8
    have F9:=F5.trans bA
    have Mj:=(Da.aB (aD.of s7)).aB (aD.of s8)
    refine ⟨uh,e1,_,rfl,rfl,bC.of (new Gp _ _ (s7 _ _ (b6 _ _ (MC _ _ DE) Nm))),bC.of ah,_,rfl,?_⟩
    generalize upd H7 e1 (.lst [])=H9 at s8 bA Lr zY TH BF Hi R9 D9 F9 Mj ⊢
    refine rq (by rw [hks];rfl) (.inr ⟨false,rfl,q,_,_,V.ref t1,rfl,rfl,bC.of TH,rfl,rw',_,_,rfl,rfl,BF,line _ (by omega),?_⟩)
    have NY:=Lr
    have p5:bQ rw' H9 (upd H9 rw' (.lst (us++[.ref t1]))):=bQ.upd
    have hk:aD H9 (upd H9 rw' (.lst (us++[.ref t1]))):=aD.soft p5 BF gJ
    have jq:(upd H9 rw' (.lst (us++[.ref t1]))) rw'=some (.lst (us++[.ref t1])):=ah
    have lT:=p5 _ _ Hi QU
    have Av:Dr (upd H9 rw' (.lst (us++[.ref t1]))) d:=by
     obtain ⟨y,z,q0⟩:=D9
     exact ⟨y,z,p5 _ _ q0 FU.symm⟩
    have xY:bQ d H (upd H9 rw' (.lst (us++[.ref t1]))):=fun b o z nb=>p5 b o (F9 b o z nb) (av z hrw)
    have Fg:iK (upd H9 rw' (.lst (us++[.ref t1]))) (us++[.ref t1]) (rs++[(.any x)]):=aH (aS R9 hk) (cK.aB hk (r:=(.any x)) (⟨t1,rfl,Lr⟩:cK H9 (.ref t1) (.any x)))
    have sU:=hk.t _ _ NY
    have qN:lV (rs++[(.any x)]):=Dt.snoc trivial
    generalize upd H9 rw' (.lst (us++[.ref t1]))=Hl at hk jq lT Av xY Fg sU p5 ⊢
    have O6:((us++[V.ref t1]))[(us++[V.ref t1]).length - 1]?=some (V.ref t1):=by simp
    have O5:0 < (us++[V.ref t1]).length:=by rw [List.length_append];exact Nat.succ_pos _
    refine ⟨_,rfl,_,rfl,rw',_,_,_,rfl,rfl,bC.of jq,Af O5 O6,t1,_,0,_,rfl,rfl,aX.of sU,rfl,rfl,_,rfl,bG rfl (pQ ?_)⟩
    refine ⟨_,rfl,_,rfl,(Nat.le_of_lt (line 1 (by decide))),fun q1 hq1=>?_⟩
    have mD:=new (o:=.lst [V.str x]) hq1
    refine ⟨_,rfl,_,rfl,uh,_,rfl,.inl (bC.of (mD _ _ lT)),rfl,d9 _,.inr ⟨_,rfl,?_⟩⟩
    obtain ⟨m,hm,hm1⟩:∃ m:Nat,(if (if true=true then !u9 (V.str x) (ks.map V.str) else u9 (V.str x) (ks.map V.str))=true then (1:Int) else 0)=(m:Int)∧ks.map V.str++(List.replicate m [V.str x]).flatten=(lU ks x).map V.str∧m≤1:=by
     unfold lU
     by_cases z:x∈ks
     ·refine ⟨0,?_,?_,by omega⟩
      ·rw [if_pos rfl,eS,decide_eq_true z];rfl
      ·rw [if_pos z];exact List.append_nil _
     ·refine ⟨1,?_,?_,by omega⟩
      ·rw [if_pos rfl,eS,decide_eq_false z];rfl
      ·rw [if_neg z,List.map_append];rfl
    rw [hm]
    refine ⟨q1,(m:Int),[V.str x],rfl,rfl,ah,by omega,by omega,(by show 1*_≤sizeLine;exact Nat.le_of_lt (line _ (by omega))),fun q2 hq2=>?_⟩
    have s12:=mD.trans (new (o:=.lst (List.replicate (m:Int).toNat [V.str x]).flatten) hq2)
    have Q5:((List.replicate (m:Int).toNat [V.str x]).flatten).length=m*1:=len_rep _ _
    refine ⟨uh,q2,_,_,rfl,rfl,s12 _ _ lT,ah,(by rw [Q5,List.length_map];exact Nat.le_of_lt (line _ (by omega))),fun q3 nX=>?_⟩
    have pe:=s12.trans (new (o:=.lst (ks.map V.str++(List.replicate (m:Int).toNat [V.str x]).flatten)) nX)
    have al:=qZ ks x
    exact ⟨q3,rs++[(.any x)],us++[.ref t1],lU ks x,_,_,_,rfl,xY.trans (bQ.of pe),Av.same pe,pe _ _ jq,aS Fg (aD.of pe),qN,(by rw [List.length_append];show rs.length+1≤_;omega),(by rw [ah];exact congrArg (fun z=>some (HO.lst z)) hm1.1),(fun _=>qY ks x),by omega,(fun y hy=>⟨by rw [eY];exact List.mem_append.mpr ((iw hy).elim (fun z=>.inl (lS y z).1) fun z=>.inr (List.mem_singleton.mpr z)),(iw hy).elim (fun z=>(lS y z).2) fun z=>z ▸ Mn⟩),xY.was Av (s12.free nX),(fun z=>by rw [z] at nX;rw [s12 _ _ jq] at nX;cases nX)⟩
   ·refine ⟨_,rfl,Nat.zero_le _,fun e0 uq=>⟨uh,e0,_,rfl,rfl,bC.of (new uq _ _ VQ),bC.of ah,_,rfl,bf (fun z=>hks (List.map_eq_nil_iff.mp z)) ?_⟩⟩
    have hnn:(!decide (ks.map V.str=[]))=true:=by rw [decide_eq_false (fun z=>hks (List.map_eq_nil_iff.mp z))];rfl
    by_cases hk2:r1 < 2
    ·refine ⟨_,rfl,_,_,rfl,rfl,_,rfl,bG (by omega) ?_⟩
     have s5:=new (o:=.lst []) uq
     have Gw:=s5 _ _ er4
     have DE:=s5 _ _ VQ
     have R5:=aS R4 (aD.of s5)
     have D5:=d4.same s5
     have F5:=F4.trans (bQ.of s5)
     generalize upd H4 e0 (.lst [])=H5 at s5 Gw DE R5 D5 F5 ⊢
     refine ⟨_,rfl,.inl ⟨rfl,_,bC.of Gw⟩,_,rfl,(szl 2),fun t1 ht1=>?_⟩
     have MC:=new (o:=.tup [.str "any",.str x]) ht1
     have nt1:t1≠d:=D5.ne ht1
     refine ⟨_,rfl,_,rfl,_,rfl,d,uh,ks,rfl,D5.same MC,MC _ _ DE,by omega,(fun z hz=>(lS z hz).2),fun ra ts n0 H6 b6 d6 Da Ca La Ia Sa=>⟨(szl 3),fun t2 um=>⟨(szl 2),fun q hq=>?_⟩⟩⟩
     have s7:=(new (o:=.tup [.str "let",.str x,.ref ra]) um).trans (new (o:=.lst [V.ref t1,.ref t2]) hq)
     have zY:(upd (upd H6 t2 (.tup [.str "let",.str x,.ref ra])) q (.lst [V.ref t1,.ref t2])) t2=some (.tup [.str "let",.str x,.ref ra]):=new hq _ _ ah
     have VO:(upd (upd H6 t2 (.tup [.str "let",.str x,.ref ra])) q (.lst [V.ref t1,.ref t2])) q=some (.lst [V.ref t1,.ref t2]):=ah
     generalize upd (upd H6 t2 (.tup [.str "let",.str x,.ref ra])) q (.lst [V.ref t1,.ref t2])=H7 at s7 zY VO ⊢
     have WW:bQ d H5 H7:=((bQ.of MC).trans b6).trans (bQ.of s7)
     have D7:=d6.same s7
     refine ⟨_,rfl,Nat.zero_le _,fun e1 Gp=>?_⟩
     have s8:=new (o:=.lst []) Gp
     have bA:=WW.trans (bQ.of s8)
     have Lr:=s8 _ _ (s7 _ _ (b6 _ _ ah nt1))
     have zY:=s8 _ _ zY
     have TH:=s8 _ _ VO
     have BF:=bA _ _ Gw FU
     have Hi:=bA _ _ DE Nm
     have R9:=aS R5 (D5.soft bA)
     have D9:=D7.same s8
     have F9:=F5.trans bA
     have Mj:=(Da.aB (aD.of s7)).aB (aD.of s8)
     refine ⟨uh,e1,_,rfl,rfl,bC.of (new Gp _ _ (s7 _ _ (b6 _ _ (MC _ _ DE) Nm))),bC.of ah,_,rfl,?_⟩
     generalize upd H7 e1 (.lst [])=H9 at s8 bA Lr zY TH BF Hi R9 D9 F9 Mj ⊢
     refine KP hnn ⟨_,rfl,rfl,.inr ⟨_,rfl,?_⟩⟩
     by_cases Mf:r1=1
     ·refine ⟨q,_,_,V.ref t2,rfl,rfl,bC.of TH,(by rw [Mf];rfl),rw',_,_,rfl,rfl,BF,line _ (by omega),?_⟩
      have NY:=zY
      have p5:bQ rw' H9 (upd H9 rw' (.lst (us++[.ref t2]))):=bQ.upd
      have hk:aD H9 (upd H9 rw' (.lst (us++[.ref t2]))):=aD.soft p5 BF gJ
      have jq:(upd H9 rw' (.lst (us++[.ref t2]))) rw'=some (.lst (us++[.ref t2])):=ah
      have lT:=p5 _ _ Hi QU
      have Av:Dr (upd H9 rw' (.lst (us++[.ref t2]))) d:=by
       obtain ⟨y,z,q0⟩:=D9
       exact ⟨y,z,p5 _ _ q0 FU.symm⟩
      have xY:bQ d H (upd H9 rw' (.lst (us++[.ref t2]))):=fun b o z nb=>p5 b o (F9 b o z nb) (av z hrw)
      have Fg:iK (upd H9 rw' (.lst (us++[.ref t2]))) (us++[.ref t2]) (rs++[(.lt x ts n0)]):=aH (aS R9 hk) (cK.aB hk (r:=(.lt x ts n0)) (⟨t2,ra,rfl,zY,Mj⟩:cK H9 (.ref t2) (.lt x ts n0)))
      have sU:=hk.t _ _ NY
      have qN:lV (rs++[(.lt x ts n0)]):=Dt.snoc (show Gs (gI rs) ts n0 from ⟨Ca,La,fun p hp=>(lS _ (Ia p hp)).1,Sa⟩)
      generalize upd H9 rw' (.lst (us++[.ref t2]))=Hl at hk jq lT Av xY Fg sU p5 ⊢
      have O6:((us++[V.ref t2]))[(us++[V.ref t2]).length - 1]?=some (V.ref t2):=by simp
      have O5:0 < (us++[V.ref t2]).length:=by rw [List.length_append];exact Nat.succ_pos _
      refine ⟨_,rfl,_,rfl,rw',_,_,_,rfl,rfl,bC.of jq,Af O5 O6,t2,_,0,_,rfl,rfl,aX.of sU,rfl,rfl,_,rfl,bf (bx (by decide +kernel)) ?_⟩
      refine ⟨_,rfl,_,rfl,rw',_,_,_,rfl,rfl,bC.of jq,Af O5 O6,t2,_,0,_,rfl,rfl,aX.of sU,rfl,rfl,_,rfl,bG rfl ?_⟩
      refine ⟨_,rfl,_,rfl,(Nat.le_of_lt (line 1 (by decide))),fun q1 hq1=>?_⟩
      have mD:=new (o:=.lst [V.str x]) hq1
      refine ⟨_,rfl,_,rfl,uh,_,rfl,.inl (bC.of (mD _ _ lT)),rfl,d9 _,.inr ⟨_,rfl,?_⟩⟩
      obtain ⟨m,hm,hm1⟩:∃ m:Nat,(if (if true=true then !u9 (V.str x) (ks.map V.str) else u9 (V.str x) (ks.map V.str))=true then (1:Int) else 0)=(m:Int)∧ks.map V.str++(List.replicate m [V.str x]).flatten=(lU ks x).map V.str∧m≤1:=by
       unfold lU
       by_cases z:x∈ks
       ·refine ⟨0,?_,?_,by omega⟩
        ·rw [if_pos rfl,eS,decide_eq_true z];rfl
        ·rw [if_pos z];exact List.append_nil _
       ·refine ⟨1,?_,?_,by omega⟩
        ·rw [if_pos rfl,eS,decide_eq_false z];rfl
        ·rw [if_neg z,List.map_append];rfl
      rw [hm]
      refine ⟨q1,(m:Int),[V.str x],rfl,rfl,ah,by omega,by omega,(by show 1*_≤sizeLine;exact Nat.le_of_lt (line _ (by omega))),fun q2 hq2=>?_⟩
      have s12:=mD.trans (new (o:=.lst (List.replicate (m:Int).toNat [V.str x]).flatten) hq2)
      have Q5:((List.replicate (m:Int).toNat [V.str x]).flatten).length=m*1:=len_rep _ _
      refine ⟨uh,q2,_,_,rfl,rfl,s12 _ _ lT,ah,(by rw [Q5,List.length_map];exact Nat.le_of_lt (line _ (by omega))),fun q3 nX=>?_⟩
      have pe:=s12.trans (new (o:=.lst (ks.map V.str++(List.replicate (m:Int).toNat [V.str x]).flatten)) nX)
      have al:=qZ ks x
      exact ⟨q3,rs++[(.lt x ts n0)],us++[.ref t2],lU ks x,_,_,_,rfl,xY.trans (bQ.of pe),Av.same pe,pe _ _ jq,aS Fg (aD.of pe),qN,(by rw [List.length_append];show rs.length+1≤_;omega),(by rw [ah];exact congrArg (fun z=>some (HO.lst z)) hm1.1),(fun _=>qY ks x),by omega,(fun y hy=>⟨by rw [eY];exact List.mem_append.mpr ((iw hy).elim (fun z=>.inl (lS y z).1) fun z=>.inr (List.mem_singleton.mpr z)),(iw hy).elim (fun z=>(lS y z).2) fun z=>z ▸ Mn⟩),xY.was Av (s12.free nX),(fun z=>by rw [z] at nX;rw [s12 _ _ jq] at nX;cases nX)⟩
     ·have h0':r1=0:=by omega
      refine ⟨q,_,_,V.ref t1,rfl,rfl,bC.of TH,(by rw [h0'];rfl),rw',_,_,rfl,rfl,BF,line _ (by omega),?_⟩
      have NY:=Lr
      have p5:bQ rw' H9 (upd H9 rw' (.lst (us++[.ref t1]))):=bQ.upd
      have hk:aD H9 (upd H9 rw' (.lst (us++[.ref t1]))):=aD.soft p5 BF gJ
      have jq:(upd H9 rw' (.lst (us++[.ref t1]))) rw'=some (.lst (us++[.ref t1])):=ah
      have lT:=p5 _ _ Hi QU
      have Av:Dr (upd H9 rw' (.lst (us++[.ref t1]))) d:=by
       obtain ⟨y,z,q0⟩:=D9
       exact ⟨y,z,p5 _ _ q0 FU.symm⟩
      have xY:bQ d H (upd H9 rw' (.lst (us++[.ref t1]))):=fun b o z nb=>p5 b o (F9 b o z nb) (av z hrw)
      have Fg:iK (upd H9 rw' (.lst (us++[.ref t1]))) (us++[.ref t1]) (rs++[(.any x)]):=aH (aS R9 hk) (cK.aB hk (r:=(.any x)) (⟨t1,rfl,Lr⟩:cK H9 (.ref t1) (.any x)))
      have sU:=hk.t _ _ NY
      have qN:lV (rs++[(.any x)]):=Dt.snoc trivial
      generalize upd H9 rw' (.lst (us++[.ref t1]))=Hl at hk jq lT Av xY Fg sU p5 ⊢
      have O6:((us++[V.ref t1]))[(us++[V.ref t1]).length - 1]?=some (V.ref t1):=by simp
      have O5:0 < (us++[V.ref t1]).length:=by rw [List.length_append];exact Nat.succ_pos _
      refine ⟨_,rfl,_,rfl,rw',_,_,_,rfl,rfl,bC.of jq,Af O5 O6,t1,_,0,_,rfl,rfl,aX.of sU,rfl,rfl,_,rfl,bG rfl (pQ ?_)⟩
      refine ⟨_,rfl,_,rfl,(Nat.le_of_lt (line 1 (by decide))),fun q1 hq1=>?_⟩
      have mD:=new (o:=.lst [V.str x]) hq1
      refine ⟨_,rfl,_,rfl,uh,_,rfl,.inl (bC.of (mD _ _ lT)),rfl,d9 _,.inr ⟨_,rfl,?_⟩⟩
      obtain ⟨m,hm,hm1⟩:∃ m:Nat,(if (if true=true then !u9 (V.str x) (ks.map V.str) else u9 (V.str x) (ks.map V.str))=true then (1:Int) else 0)=(m:Int)∧ks.map V.str++(List.replicate m [V.str x]).flatten=(lU ks x).map V.str∧m≤1:=by
       unfold lU
       by_cases z:x∈ks
       ·refine ⟨0,?_,?_,by omega⟩
        ·rw [if_pos rfl,eS,decide_eq_true z];rfl
        ·rw [if_pos z];exact List.append_nil _
       ·refine ⟨1,?_,?_,by omega⟩
        ·rw [if_pos rfl,eS,decide_eq_false z];rfl
        ·rw [if_neg z,List.map_append];rfl
      rw [hm]
      refine ⟨q1,(m:Int),[V.str x],rfl,rfl,ah,by omega,by omega,(by show 1*_≤sizeLine;exact Nat.le_of_lt (line _ (by omega))),fun q2 hq2=>?_⟩
      have s12:=mD.trans (new (o:=.lst (List.replicate (m:Int).toNat [V.str x]).flatten) hq2)
      have Q5:((List.replicate (m:Int).toNat [V.str x]).flatten).length=m*1:=len_rep _ _
      refine ⟨uh,q2,_,_,rfl,rfl,s12 _ _ lT,ah,(by rw [Q5,List.length_map];exact Nat.le_of_lt (line _ (by omega))),fun q3 nX=>?_⟩
      have pe:=s12.trans (new (o:=.lst (ks.map V.str++(List.replicate (m:Int).toNat [V.str x]).flatten)) nX)
      have al:=qZ ks x
      exact ⟨q3,rs++[(.any x)],us++[.ref t1],lU ks x,_,_,_,rfl,xY.trans (bQ.of pe),Av.same pe,pe _ _ jq,aS Fg (aD.of pe),qN,(by rw [List.length_append];show rs.length+1≤_;omega),(by rw [ah];exact congrArg (fun z=>some (HO.lst z)) hm1.1),(fun _=>qY ks x),by omega,(fun y hy=>⟨by rw [eY];exact List.mem_append.mpr ((iw hy).elim (fun z=>.inl (lS y z).1) fun z=>.inr (List.mem_singleton.mpr z)),(iw hy).elim (fun z=>(lS y z).2) fun z=>z ▸ Mn⟩),xY.was Av (s12.free nX),(fun z=>by rw [z] at nX;rw [s12 _ _ jq] at nX;cases nX)⟩
    ·refine ⟨_,rfl,_,_,rfl,rfl,_,rfl,bf (by omega) ?_⟩
     have s5:=new (o:=.lst []) uq
     have Gw:=s5 _ _ er4
     have DE:=s5 _ _ VQ
     have R5:=aS R4 (aD.of s5)
     have D5:=d4.same s5
     have F5:=F4.trans (bQ.of s5)
     generalize upd H4 e0 (.lst [])=H5 at s5 Gw DE R5 D5 F5 ⊢
     by_cases h2':r1=2
     ·refine ⟨_,rfl,rfl,_,rfl,bG (by rw [h2'];rfl) ?_⟩
      refine ⟨_,rfl,.inl ⟨rfl,_,bC.of Gw⟩,_,rfl,_,rfl,_,rfl,d,uh,ks,rfl,D5,DE,by omega,(fun z hz=>(lS z hz).2),fun ra ts n0 H6 b6 d6 Da Ca La Ia Sa=>⟨(szl 3),fun t2 um=>?_⟩⟩
      have s7:=new (o:=.tup [.str "let",.str x,.ref ra]) um
      have bA:=b6.trans (bQ.of s7)
      have BF:=bA _ _ Gw FU
      have Hi:=bA _ _ DE Nm
      have R9:=aS R5 (D5.soft bA)
      have D9:=d6.same s7
      have F9:=F5.trans bA
      have Mj:=Da.aB (aD.of s7)
      have zY:(upd H6 t2 (.tup [.str "let",.str x,.ref ra])) t2=some (.tup [.str "let",.str x,.ref ra]):=ah
      generalize upd H6 t2 (.tup [.str "let",.str x,.ref ra])=H9 at s7 bA BF Hi R9 D9 F9 Mj zY ⊢
      refine ⟨rw',_,_,rfl,rfl,BF,line _ (by omega),?_⟩
      have NY:=zY
      have p5:bQ rw' H9 (upd H9 rw' (.lst (us++[.ref t2]))):=bQ.upd
      have hk:aD H9 (upd H9 rw' (.lst (us++[.ref t2]))):=aD.soft p5 BF gJ
      have jq:(upd H9 rw' (.lst (us++[.ref t2]))) rw'=some (.lst (us++[.ref t2])):=ah
      have lT:=p5 _ _ Hi QU
      have Av:Dr (upd H9 rw' (.lst (us++[.ref t2]))) d:=by
       obtain ⟨y,z,q0⟩:=D9
       exact ⟨y,z,p5 _ _ q0 FU.symm⟩
      have xY:bQ d H (upd H9 rw' (.lst (us++[.ref t2]))):=fun b o z nb=>p5 b o (F9 b o z nb) (av z hrw)
      have Fg:iK (upd H9 rw' (.lst (us++[.ref t2]))) (us++[.ref t2]) (rs++[(.lt x ts n0)]):=aH (aS R9 hk) (cK.aB hk (r:=(.lt x ts n0)) (⟨t2,ra,rfl,zY,Mj⟩:cK H9 (.ref t2) (.lt x ts n0)))
      have sU:=hk.t _ _ NY
      have qN:lV (rs++[(.lt x ts n0)]):=Dt.snoc (show Gs (gI rs) ts n0 from ⟨Ca,La,fun p hp=>(lS _ (Ia p hp)).1,Sa⟩)
      generalize upd H9 rw' (.lst (us++[.ref t2]))=Hl at hk jq lT Av xY Fg sU p5 ⊢
      have O6:((us++[V.ref t2]))[(us++[V.ref t2]).length - 1]?=some (V.ref t2):=by simp
      have O5:0 < (us++[V.ref t2]).length:=by rw [List.length_append];exact Nat.succ_pos _
      refine ⟨_,rfl,_,rfl,(Nat.le_of_lt (line 1 (by decide))),fun q1 hq1=>?_⟩
      have mD:=new (o:=.lst [V.str x]) hq1
      refine ⟨_,rfl,_,rfl,uh,_,rfl,.inl (bC.of (mD _ _ lT)),rfl,d9 _,.inr ⟨_,rfl,?_⟩⟩
      obtain ⟨m,hm,hm1⟩:∃ m:Nat,(if (if true=true then !u9 (V.str x) (ks.map V.str) else u9 (V.str x) (ks.map V.str))=true then (1:Int) else 0)=(m:Int)∧ks.map V.str++(List.replicate m [V.str x]).flatten=(lU ks x).map V.str∧m≤1:=by
       unfold lU
       by_cases z:x∈ks
       ·refine ⟨0,?_,?_,by omega⟩
        ·rw [if_pos rfl,eS,decide_eq_true z];rfl
        ·rw [if_pos z];exact List.append_nil _
       ·refine ⟨1,?_,?_,by omega⟩
        ·rw [if_pos rfl,eS,decide_eq_false z];rfl
        ·rw [if_neg z,List.map_append];rfl
      rw [hm]
      refine ⟨q1,(m:Int),[V.str x],rfl,rfl,ah,by omega,by omega,(by show 1*_≤sizeLine;exact Nat.le_of_lt (line _ (by omega))),fun q2 hq2=>?_⟩
      have s12:=mD.trans (new (o:=.lst (List.replicate (m:Int).toNat [V.str x]).flatten) hq2)
      have Q5:((List.replicate (m:Int).toNat [V.str x]).flatten).length=m*1:=len_rep _ _
      refine ⟨uh,q2,_,_,rfl,rfl,s12 _ _ lT,ah,(by rw [Q5,List.length_map];exact Nat.le_of_lt (line _ (by omega))),fun q3 nX=>?_⟩
      have pe:=s12.trans (new (o:=.lst (ks.map V.str++(List.replicate (m:Int).toNat [V.str x]).flatten)) nX)
      have al:=qZ ks x
      exact ⟨q3,rs++[(.lt x ts n0)],us++[.ref t2],lU ks x,_,_,_,rfl,xY.trans (bQ.of pe),Av.same pe,pe _ _ jq,aS Fg (aD.of pe),qN,(by rw [List.length_append];show rs.length+1≤_;omega),(by rw [ah];exact congrArg (fun z=>some (HO.lst z)) hm1.1),(fun _=>qY ks x),by omega,(fun y hy=>⟨by rw [eY];exact List.mem_append.mpr ((iw hy).elim (fun z=>.inl (lS y z).1) fun z=>.inr (List.mem_singleton.mpr z)),(iw hy).elim (fun z=>(lS y z).2) fun z=>z ▸ Mn⟩),xY.was Av (s12.free nX),(fun z=>by rw [z] at nX;rw [s12 _ _ jq] at nX;cases nX)⟩
     ·refine ⟨_,rfl,rfl,_,rfl,bf (fun z=>h2' (by have:=V.int.inj z;omega)) ?_⟩
      refine ⟨_,rfl,.inl ⟨rfl,_,bC.of Gw⟩,_,rfl,_,rfl,d,uh,1,ks,rfl,by decide,D5,DE,by omega,(fun z hz=>(lS z hz).2),fun vc cc H6 b6 d6 ht6 Cg hgd hfu lQ=>⟨(szl 2),fun t2 um=>?_⟩⟩
      have s7:=new (o:=.tup [.str "hold",vc]) um
      have bA:=b6.trans (bQ.of s7)
      have BF:=bA _ _ Gw FU
      have Hi:=bA _ _ DE Nm
      have R9:=aS R5 (D5.soft bA)
      have D9:=d6.same s7
      have F9:=F5.trans bA
      have Mj:=ht6.aB (aD.of s7)
      have zY:(upd H6 t2 (.tup [.str "hold",vc])) t2=some (.tup [.str "hold",vc]):=ah
      generalize upd H6 t2 (.tup [.str "hold",vc])=H9 at s7 bA BF Hi R9 D9 F9 Mj zY ⊢
      refine ⟨rw',_,_,rfl,rfl,BF,line _ (by omega),?_⟩
      have NY:=zY
      have Ve:cc.dW≤3:=lQ
      have p5:bQ rw' H9 (upd H9 rw' (.lst (us++[.ref t2]))):=bQ.upd
      have hk:aD H9 (upd H9 rw' (.lst (us++[.ref t2]))):=aD.soft p5 BF gJ
      have jq:(upd H9 rw' (.lst (us++[.ref t2]))) rw'=some (.lst (us++[.ref t2])):=ah
      have lT:=p5 _ _ Hi QU
      have Av:Dr (upd H9 rw' (.lst (us++[.ref t2]))) d:=by
       obtain ⟨y,z,q0⟩:=D9
       exact ⟨y,z,p5 _ _ q0 FU.symm⟩
      have xY:bQ d H (upd H9 rw' (.lst (us++[.ref t2]))):=fun b o z nb=>p5 b o (F9 b o z nb) (av z hrw)
      have Fg:iK (upd H9 rw' (.lst (us++[.ref t2]))) (us++[.ref t2]) (rs++[(.hold cc)]):=aH (aS R9 hk) (cK.aB hk (r:=(.hold cc)) (⟨t2,vc,rfl,zY,Mj⟩:cK H9 (.ref t2) (.hold cc)))
      have sU:=hk.t _ _ NY
      have qN:lV (rs++[(.hold cc)]):=Dt.snoc (show Ge (gI rs) cc∧cc.full∧cc.dep≤3∧cc.dW≤8 from ⟨(Ge.of hgd).mono fun z hz=>(lS z hz).1,hfu,by omega,by omega⟩)
      generalize upd H9 rw' (.lst (us++[.ref t2]))=Hl at hk jq lT Av xY Fg sU p5 ⊢
      have O6:((us++[V.ref t2]))[(us++[V.ref t2]).length - 1]?=some (V.ref t2):=by simp
      have O5:0 < (us++[V.ref t2]).length:=by rw [List.length_append];exact Nat.succ_pos _
      exact ⟨uh,rs++[(.hold cc)],us++[.ref t2],ks,_,_,_,rfl,xY,Av,jq,Fg,qN,(by rw [List.length_append];show rs.length+1≤_;omega),lT,(fun _=>List.length_pos_iff.mpr hks),by omega,(fun y hy=>⟨by rw [eY];exact List.mem_append.mpr (.inl (lS y hy).1),(lS y hy).2⟩),hkf,QU⟩
  ·rintro σ H2 ⟨uh,rs,us,ks,a4,a5,a6,rfl,F,D,er,R2,Dt,rl,ek,Ys,kl,lS,hkf,QU⟩
   have rl:rs.length≤2+r0:=rl
   have kl:ks.length≤2+r0:=kl
   have Ys:1≤ks.length:=Ys (by show 0 < 2+r0;omega)
   refine ⟨_,rfl,_,rfl,(szl 2),fun r hr'=>?_⟩
   have sr:=new (o:=.tup [.ref rw',.ref uh]) hr'
   exact k r rw' uh us rs ks _ (F.new hr') (D.same sr) (F.was D hr') ah hrw hkf (sr _ _ er) (aS R2 (aD.of sr)) Dt (by omega) (sr _ _ ek) Ys (by omega) lS
abbrev oX:Stmt:=top 48
theorem mq:aL ["_law_rows","_law_told_here","_law_ahead_here","_law_row"] ["_law_rows","_law_told_here"] (aq oX):=⟨rfl,rfl,rfl,by decide +kernel,rfl,by decide +kernel,by decide +kernel⟩
theorem JX {f:Addr} {fd:FuncData} {Z:Cz} {n:Nat} {TM W fT fW:Addr} {dN dI:List Value} (F:dO K "_law_debt" "_law_debt" oX f fd) (T:Txt K mg Z.s) (U:gH K mg Z) (XT:dJ K mg TM W fT fW dN dI) {Db:Addr} (W:TX K mg Db) (d_init:Mr P w K mg base 1 Z.s ["self","terms","number"] (lZ Z.s)) (DI:Dn P w K mg base 5 "_law_made" ["_law_told_here"] (nB Z 3)) (LF:Mr P w K mg base 1 Db ["self","kind","at","ahead","condition"] (IL Db)):bF P w K mg base fh 8 f fd ["_law_rows","_law_told_here"] (yZ Z Db):=by
 obtain ⟨zW,vf,dG,M,dF⟩:=d_init
 obtain ⟨RN,NS,xE,qF,qL,xy⟩:=DI
 obtain ⟨b6E,b2I,BY,W9,BS⟩:=LF
 refine F.ok mq (fun vs H Q E h=>?_) (fun cdv A outer s H vs Q E hr h=>?_)
 ·obtain ⟨a,us,rs,v,c,rfl,ha,hT,hR,hl,ht,hc,k⟩:=h
  rfl
 ·obtain ⟨a,us,rs,v,c,rfl,ha,hT,hR,hl,ht,hc,k⟩:=h
  have hu:=bD hr
  rw [show ay oX=[_,_,_] from rfl]
  refine ⟨_,(ao (aT (i:=2) mq.nd rfl (Or.inl rfl) (bh ai))
   (ao (eX PassesOwn.never rfl (eK (pv 0)) (aQ (i:=3) mq.nd rfl (Or.inl rfl)) (au (bR (aO bW (aF aK (pv 3) aj (fun _ _=>rfl)) aP (aV _)) (au (cV (jz PySem.F.plainAttrs_list PySem.F.slot_list_append PySem.F.type_list_append dZ (pv 2) (aa (pv 3) ai)))) (au (bR (aO bW (aF aK (pv 3) aj (fun _ _=>rfl)) aP (aV _)) (au (cV (jz PySem.F.plainAttrs_list PySem.F.slot_list_append PySem.F.type_list_append dZ (pv 2) (aa (aG (aa aP (aa (aF aK (pv 3) aj (fun _ _=>rfl)) (aa (cW M dG (hr.mono (by first | decide | omega)) rfl T.sD dF .nil aE (aa (aF aK (aF aK (pv 3) aj (fun _ _=>rfl)) aj (fun _ _=>rfl)) (aa (aF aK (aF aK (pv 3) aj (fun _ _=>rfl)) aj (fun _ _=>rfl)) ai))) ai)))) ai)))) (au (cV (jz PySem.F.plainAttrs_list PySem.F.slot_list_append PySem.F.type_list_append dZ (pv 2) (aa (aG (aa aP (aa (aA xE (hr.mono (by first | decide | omega)) rfl qF qL xy .nil aE (aa (aF aK (pv 3) aj (fun _ _=>rfl)) ai)) ai))) ai)))))))))
   (au (aJ (cW W9 BY (hr.mono (by first | decide | omega)) rfl W.mgD BS .nil aE (aa aP (aa aj (aa (bB bN (by rfl) T.tuple boot_tuple (aa (pv 2) ai)) (aa (aA xE (hr.mono (by first | decide | omega)) rfl qF qL xy .nil aE (aa (pv 1) ai)) ai))))))))),?_⟩
  refine ⟨Nat.zero_le _,fun L hL=>?_⟩
  have UY:=ak hT
  have s0:=new (o:=.lst []) hL
  refine ⟨_,rfl,a,rfl,⟨us,bC.of (s0 _ _ ha)⟩,jZ (xs:=us) (fun i σ H'=>∃ (ys:List V) (a3:Option V),σ=[some (.ref a),some v,some (.ref L),a3]∧bQ L (upd H L (.lst [])) H'∧H' L=some (.lst ys)∧tH Z H' ys (rs.take i)) ⟨[],none,rfl,(fun _ _ z _=>z),ah,.nil⟩ (fun i σ H' _ ⟨_,_,_,q,_⟩=>bC.of (q _ _ (s0 _ _ ha) (av ha hL))) ?_ ?_⟩
  ·rintro i x σ H2 hi ⟨ys,a3,rfl,but,eL,pr⟩
   obtain ⟨r,vd,Bu⟩:=bg hT hi
   have sH:az H H2:=fun b o z=>but b o (s0 _ _ z) (av z hL)
   have Bu:=Bu.aB (aD.of sH)
   have hok:=hR i r vd
   have il:i < rs.length:=(List.getElem?_eq_some_iff.mp vd).1
   have ly:=ak pr
   rw [List.length_take] at ly
   have put:∀ (w:V) (H3:Hp),az H2 H3→BW Z (upd H3 L (.lst (ys++[w]))) w r→∃ (ys':List V) (a3:Option V),[some (V.ref a),some v,some (V.ref L),some x]=[some (V.ref a),some v,some (V.ref L),a3]∧bQ L (upd H L (.lst [])) (upd H3 L (.lst (ys++[w])))∧(upd H3 L (.lst (ys++[w]))) L=some (.lst ys')∧tH Z (upd H3 L (.lst (ys++[w]))) ys' (rs.take (i+1)):=fun w H3 s3 hw=>by
    have ZA:=s3 _ _ eL
    have hk:aD H3 (upd H3 L (.lst (ys++[w]))):=aD.soft bQ.upd ZA gJ
    refine ⟨ys++[w],_,rfl,(but.trans (bQ.of s3)).trans bQ.upd,ah,?_⟩
    rw [take_snoc vd]
    exact aH (L2.Paired.cF pr fun _ _ z=>(z.aB (aD.of s3)).aB hk) hw
   have hkL:∀ (H3:Hp) (w:V),az H2 H3→aD H3 (upd H3 L (.lst (ys++[w]))):=fun H3 w s3=>aD.soft bQ.upd (s3 _ _ eL) gJ
   cases r with
   | any y =>
    obtain ⟨p,rfl,ep⟩:=Bu
    refine ⟨_,rfl,p,_,0,_,rfl,rfl,aX.of ep,rfl,rfl,_,rfl,bG rfl ?_⟩
    refine ⟨_,rfl,.inl ⟨rfl,_,bC.of eL⟩,_,rfl,L,_,_,rfl,rfl,eL,line _ (by omega),?_⟩
    exact put (.ref p) H2 (az.refl _) ⟨p,rfl,(hkL H2 (.ref p) (az.refl _)).t _ _ ep⟩
   | lt y ts m =>
    obtain ⟨p,q,rfl,ep,Dq⟩:=Bu
    obtain ⟨t1,eq1,T1⟩:=id Dq
    have l3:=hok.2.1.1
    refine ⟨_,rfl,p,_,0,_,rfl,rfl,aX.of ep,rfl,rfl,_,rfl,bf (bx (by decide +kernel)) ?_⟩
    refine ⟨_,rfl,p,_,0,_,rfl,rfl,aX.of ep,rfl,rfl,_,rfl,bG rfl ?_⟩
    refine ⟨_,rfl,.inl ⟨rfl,_,bC.of eL⟩,_,rfl,p,_,1,_,rfl,rfl,aX.of ep,rfl,?_⟩
    refine ⟨_,rfl,p,_,2,_,rfl,rfl,aX.of ep,rfl,q,_,0,_,rfl,rfl,aX.of eq1,rfl,?_⟩
    refine ⟨_,rfl,p,_,2,_,rfl,rfl,aX.of ep,rfl,q,_,1,_,rfl,rfl,aX.of eq1,rfl,fun x1 dx hx hdx ne=>?_⟩
    have g1:=bX (o:=.own x1) (o':=.ins Z.s dx []) hx hdx
    refine ⟨x1,dx,t1,m,ts,rfl,ah,.inr (T1.same g1),by omega,fun H3 Sw S1=>⟨rfl,?_⟩⟩
    have s3:az H2 H3:=fun b' o z=>Sw b' o (g1 _ _ z) (av z hx)
    refine ⟨(szl 3),fun w hw=>?_⟩
    have s4:=s3.trans (new (o:=.tup [.str "let",.str y,.ref x1]) hw)
    refine ⟨L,_,_,rfl,rfl,s4 _ _ eL,line _ (by omega),?_⟩
    have hk:=hkL _ (.ref w) s4
    exact put (.ref w) _ s4 ⟨w,x1,rfl,hk.t _ _ ah,(S1.same (new hw)).aB hk⟩
   | hold c1 =>
    obtain ⟨p,q,rfl,ep,hq⟩:=Bu
    refine ⟨_,rfl,p,_,0,_,rfl,rfl,aX.of ep,rfl,rfl,_,rfl,bf (bx (by decide +kernel)) ?_⟩
    refine ⟨_,rfl,p,_,0,_,rfl,rfl,aX.of ep,rfl,rfl,_,rfl,bf (bx (by decide +kernel)) ?_⟩
    refine ⟨_,rfl,.inl ⟨rfl,_,bC.of eL⟩,_,rfl,p,_,1,_,rfl,rfl,aX.of ep,rfl,q,c1,gI (rs.take i),rfl,hq,hok.2.2.1,hok.1,fun v' H3 s3 hv'=>?_⟩
    obtain ⟨pv,rfl⟩:=di hv'
    refine ⟨(szl 2),fun w hw=>?_⟩
    have s4:=s3.trans (new (o:=.tup [.str "hold",.ref pv]) hw)
    refine ⟨L,_,_,rfl,rfl,s4 _ _ eL,line _ (by omega),?_⟩
    have hk:=hkL _ (.ref w) s4
    exact put (.ref w) _ s4 ⟨w,pv,rfl,hk.t _ _ ah,(hv'.aB (aD.of (new hw))).aB hk⟩
  ·rintro σ H2 ⟨ys,a3,rfl,but,eL,pr⟩
   rw [UY,List.take_length] at pr
   have sH:az H H2:=fun b o z=>but b o (s0 _ _ z) (av z hL)
   refine ⟨_,rfl,L,ys,rfl,.inl ⟨bC.of eL,fun tp htp=>?_⟩⟩
   have s3:=new (o:=.tup ys) htp
   refine ⟨_,rfl,v,c,gI rs,rfl,ht.aB (aD.of (sH.trans s3)),hc.2.2.1,hc.1,fun v' H4 s4 hv'=>?_⟩
   refine fun pd dxp hpd a6U npd=>?_
   have hm:=bX (o:=.own pd) (o':=.ins Db dxp []) hpd a6U
   refine ⟨pd,dxp,"claim",3,.ref tp,v',rfl,ah,fun H5 but' e5=>⟨rfl,?_⟩⟩
   have s5:az H4 H5:=fun b o z=>but' b o (hm _ _ z) (av z hpd)
   have s45:=s4.trans s5
   exact k pd H5 ((sH.trans s3).trans s45) (((sH.trans s3).trans s4).free hpd) ⟨dxp,"claim",3,tp,ys,v',e5,s45 _ _ ah,(pr.aB (aD.of s3)).aB (aD.of s45),hv'.aB (aD.of s5)⟩
abbrev oW:Stmt:=top 51
theorem AH:aL ["_law_one","_law_other","_law_number"] ["_law_one","_law_other","_law_number"] (aq oW):=⟨rfl,rfl,rfl,by decide +kernel,rfl,by decide +kernel,by decide +kernel⟩
theorem JW {f:Addr} {fd:FuncData} {Z:Cz} {n:Nat} {TM W fT fW:Addr} {dN dI:List Value} (F:dO K "_law_less" "_law_less" oW f fd) (T:Txt K mg Z.s) (U:gH K mg Z) (XT:dJ K mg TM W fT fW dN dI) (pW:Dn P w K mg base 1 "_law_gathered" ["_law_pairs","_law_number"] za):bF P w K mg base fh 2 f fd ["_law_one","_law_other","_law_number"] zc:=by
 obtain ⟨Dy,BD,p6,mP,mT,pZ⟩:=pW
 refine F.ok AH (fun vs H Q E h=>?_) (fun cdv A outer s H vs Q E hr h=>?_)
 ·obtain ⟨p,q,a,b,n,m,kk,rfl,S1,S2,hz,k⟩:=h
  rfl
 ·obtain ⟨p,q,a,b,n,m,kk,rfl,S1,S2,hz,k⟩:=h
  have hu:=bD hr
  rw [show ay oW=[_] from rfl]
  refine ⟨_,(au (aJ (aA p6 (hr.mono (by first | decide | omega)) rfl mP mT pZ .nil aE (aa (aZ fS (bB Ad (by rfl) T.list boot_list (aa (aF aK (pv 0) aj (fun _ _=>rfl)) ai)) (bZ (br ["_law_thing","_law_times"] [] [] rfl (by decide +kernel) (by decide +kernel) (by with_unfolding_all rfl) (by exact trivial) (by rfl) rfl (by rfl)) rfl (dD (aF aK (pv 1) aj (fun _ _=>rfl))) (fun _ _ _ _=>(uW (K:=K) (n:=2) rfl rfl (cH (aQ (i:=0) (show List.Nodup (["_law_thing","_law_times"]:List Str) by decide +kernel) rfl (Or.inl rfl) (Or.inr rfl)) (cH (aQ (i:=1) (show List.Nodup (["_law_thing","_law_times"]:List Str) by decide +kernel) rfl (Or.inl rfl) (Or.inr rfl)) iM)))) (fun _ _ _ _=>cA) (fun _ _ _ _=>(aG (aa (pv 0) (aa (lO iA (pv 1)) ai)))))) (aa (aZ dQ (aZ zx (aF aK (pv 0) aj (fun _ _=>rfl)) (aF aK (pv 1) aj (fun _ _=>rfl))) (pv 2)) ai))))),?_⟩
  obtain ⟨t1,hp,ht1⟩:=id S1
  obtain ⟨t2,hq,um⟩:=id S2
  have bz:=line _ (show b.length≤100000 by omega)
  obtain ⟨Mq,e1,r1⟩:=ht1
  refine ⟨_,rfl,p,_,0,_,rfl,rfl,aX.of hp,rfl,t1,_,rfl,.inr (aX.of e1),fun l hl=>?_⟩
  have s1:az H (upd H l (.lst Mq)):=new hl
  refine ⟨_,rfl,q,_,0,_,rfl,rfl,aX.of (s1 _ _ hq),rfl,t2,rfl,vg (um.same s1) (fun i ys H'=>az (upd H l (.lst Mq)) H'∧xX H' ys ((b.take i).map fun q=>(q.1,-q.2))) ⟨az.refl _,.nil⟩ (fun i ys H' q=>Kp.of q.1) ?_ ?_⟩
  ·rintro i v pr ys H' hi ⟨c,rfl,hc⟩ ⟨sm,py⟩
   refine ⟨c,_,rfl,aX.of hc,rfl,_,_,rfl,_,_,rfl,rfl,Ext.two,iH ⟨_,rfl,_,rfl,_,rfl,(szl 2),fun x hx=>⟨?_,az.new sm hx,?_⟩⟩⟩
   ·rw [bY py,List.length_map,List.length_take]
    omega
   ·rw [take_snoc hi,List.map_append]
    exact fm (py.keep fun _ _ z=>new hx _ _ z) (fP ⟨x,rfl,ah⟩)
  ·rintro ys H' ⟨sm,py⟩ x hx
   rw [List.take_length] at py
   have l1:(upd H' x (.lst ys)) l=some (.lst Mq):=new hx _ _ (sm _ _ ah)
   have s2:az H (upd H' x (.lst ys)):=az.new (s1.trans sm) hx
   refine ⟨l,x,_,_,rfl,rfl,l1,ah,?_,fun y hy=>?_⟩
   ·rw [bY r1,bY py,List.length_map]
    exact Nat.le_of_lt (line _ (by omega))
   ·have s3:=az.new (o:=.lst (Mq++ys)) s2 hy
    refine ⟨_,rfl,p,_,1,_,rfl,rfl,aX.of (s3 _ _ hp),rfl,_,rfl,q,_,1,_,rfl,rfl,aX.of (s3 _ _ hq),rfl,_,_,rfl,rfl,_,rfl,_,_,rfl,rfl,?_⟩
    refine ⟨y,n - m+kk,_,rfl,.inl ⟨_,ah,fm (r1.keep fun _ _ z=>s3 _ _ z) (py.keep fun _ _ z=>new hy _ _ (new hx _ _ z))⟩,?_,fun r ts H2 ye g l S=>k r ts H2 (s3.trans ye) g S⟩
    rw [List.length_append,List.length_map]
    exact hz
abbrev ja:Stmt:=top 53
theorem gX:aL ["_law_ones","_law_others","_law_found","_law_one"] ["_law_ones","_law_others"] (aq ja):=⟨rfl,rfl,rfl,by decide +kernel,rfl,by decide +kernel,by decide +kernel⟩
theorem FO {f:Addr} {fd:FuncData} {Z:Cz} {n:Nat} {TM W fT fW:Addr} {dN dI:List Value} (F:dO K "_law_paired" "_law_paired" ja f fd) (T:Txt K mg Z.s) (U:gH K mg Z) (XT:dJ K mg TM W fT fW dN dI) :bF P w K mg base fh 1 f fd ["_law_ones","_law_others"] jU:=by
 refine F.ok gX (fun vs H Q E h=>?_) (fun cdv A outer s H vs Q E hr h=>?_)
 ·obtain ⟨o,u,A0,B,rfl,hA,hB,lA,lB,wA,wB,k⟩:=h
  rfl
 ·obtain ⟨o,u,A0,B,rfl,hA,hB,lA,lB,wA,wB,k⟩:=h
  have hu:=bD hr
  rw [show ay ja=[_,_,_] from rfl]
  refine ⟨_,(ao (aT (i:=2) gX.nd rfl (Or.inl rfl) (bh ai))
   (ao (eX PassesOwn.never rfl (eK (pv 0)) (aQ (i:=3) gX.nd rfl (Or.inr rfl)) (au (aT (i:=2) gX.nd rfl (Or.inl rfl) (aZ fS (pv 2) (bZ (br ["_law_other"] ["_law_one"] [3] rfl (by decide +kernel) (by decide +kernel) (by with_unfolding_all rfl) (by exact ⟨rfl,trivial⟩) (by rfl) rfl (by rfl)) rfl (eK (pv 1)) (fun _ _ _ _=>(aQ (i:=0) (show List.Nodup (["_law_other","_law_one"]:List Str) by decide +kernel) rfl (Or.inl rfl) (Or.inr rfl))) (fun _ _ _ _=>cA) (fun _ _ _ _=>(aZ (A3 (K:=K) rfl) (pv 1) (pv 0))))))))
   (au (aJ (pv 2))))),?_⟩
  obtain ⟨uo,eo,po⟩:=id hA
  obtain ⟨uu,eu,pu⟩:=id hB
  have lo:=ak po
  have lu:=ak pu
  refine ⟨(Nat.zero_le _),fun F0 G8=>?_⟩
  have s1:=new (o:=.lst []) G8
  refine ⟨_,rfl,o,rfl,⟨uo,bC.of (s1 _ _ eo)⟩,jZ (xs:=uo) (fun i σ H'=>∃ (a3:Option V) (F:Addr) (ys:List V),σ=[some (.ref o),some (.ref u),some (.ref F),a3]∧az H H'∧H' F=some (.lst ys)∧Paired (iL H') ys (bq (A0.take i) B)) ⟨none,F0,[],rfl,s1,ah,.nil⟩ ?_ ?_ ?_⟩
  ·rintro i σ H' _ ⟨a3,F,ys,rfl,sH,eF,pr⟩
   exact bC.of (sH _ _ eo)
  ·rintro i x σ H' hi ⟨a3,F,ys,rfl,sH,eF,pr⟩
   obtain ⟨a,hai,hx⟩:=bg po hi
   obtain ⟨ra,va,rfl,era,pa⟩:=hx.aB (aD.of sH)
   have lva:va.length≤1000:=by rw [ak pa];exact wA _ (List.mem_of_getElem? hai)
   have rm:ys.length≤64*64:=by
    rw [ak pr,dU]
    exact Nat.mul_le_mul (by rw [List.length_take];omega) lB
   refine ⟨_,rfl,_,rfl,u,rfl,⟨uu,bC.of (sH _ _ eu)⟩,eg (xs:=uu) (fun j zs H2=>az H' H2∧Paired (iL H2) zs ((B.take j).map (a++·))) ⟨fun _ _ z=>z,.nil⟩ (fun j zs H2 _ q=>bC.of (q.1 _ _ (sH _ _ eu))) ?_ ?_⟩
   ·rintro j y zs H2 hj ⟨sm,pz⟩
    obtain ⟨b,Vi,hy⟩:=bg pu hj
    obtain ⟨rb,vb,rfl,VN,pb⟩:=hy.aB (aD.of (sH.trans sm))
    have QB:=L2.Paired.cF pa fun _ _ ⟨q,e,s⟩=>(⟨q,e,s.same sm⟩:∃ p,_=V.ref p∧cD H2 p _ _)
    have Lu:=sm _ _ era
    have lvb:vb.length≤1000:=by rw [ak pb];exact wB _ (List.mem_of_getElem? Vi)
    have Nv:zs.length≤64:=by
     rw [ak pz,List.length_map,List.length_take]
     omega
    have step:∀ (v:V) (H3:Hp),az H2 H3→iL H3 v (a++b)→(zs.length < sizeLine∧az H' H3∧Paired (iL H3) (zs++[v]) ((B.take (j+1)).map (a++·))):=fun v H3 s3 hc=>by
     refine ⟨line _ (by omega),sm.trans s3,?_⟩
     rw [take_snoc Vi,List.map_append]
     exact aH (L2.Paired.cF pz fun _ _ z=>z.aB (aD.of s3)) hc
    refine ⟨Ext.one,iH ⟨_,rfl,_,rfl,ra,rb,_,_,rfl,rfl,aX.of Lu,aX.of VN,Nat.le_of_lt (line _ (by omega)),?_,?_,?_⟩⟩
    ·intro z
     subst z
     have ea:a=[]:=by cases QB;rfl
     subst ea
     exact step _ _ (fun _ _ z=>z) ⟨rb,vb,rfl,VN,pb⟩
    ·intro _ z
     subst z
     have eb:b=[]:=by cases pb;rfl
     subst eb
     exact step _ _ (fun _ _ z=>z) ⟨ra,va,rfl,Lu,by rw [List.append_nil];exact QB⟩
    ·intro _ _ q hq
     refine step _ _ (new hq) ⟨q,va++vb,rfl,ah,?_⟩
     exact cT (L2.Paired.cF QB fun _ _ ⟨q',e,s⟩=>⟨q',e,s.same (new hq)⟩) (L2.Paired.cF pb fun _ _ ⟨q',e,s⟩=>⟨q',e,s.same (new hq)⟩)
   ·rintro zs H2 ⟨sm,pz⟩ q hq
    have Nv:zs.length≤64:=by
     rw [ak pz,List.length_map,List.length_take]
     omega
    have TN:=new (o:=.lst zs) hq _ _ (sm _ _ eF)
    rw [lu,List.take_length] at pz
    refine ⟨F,q,ys,zs,rfl,rfl,TN,ah,Nat.le_of_lt (line _ (by omega)),fun y hy=>?_⟩
    have s3:az H2 (upd (upd H2 q (.lst zs)) y (.lst (ys++zs))):=az.new (new hq) hy
    refine ⟨some (.ref ra),y,ys++zs,rfl,(sH.trans sm).trans s3,ah,?_⟩
    rw [take_snoc hai,yE]
    exact cT (L2.Paired.cF pr fun _ _ z=>z.aB (aD.of (sm.trans s3))) (L2.Paired.cF pz fun _ _ z=>z.aB (aD.of s3))
  ·rintro σ H' ⟨a3,F,ys,rfl,sH,eF,pr⟩
   rw [lo,List.take_length] at pr
   exact ⟨_,rfl,k F H' sH ⟨ys,eF,pr⟩⟩
abbrev oU:Stmt:=top 60
theorem AF:aL ["_law_cases_here"] ["_law_cases_here"] (aq oU):=⟨rfl,rfl,rfl,by decide +kernel,rfl,by decide +kernel,by decide +kernel⟩
theorem JU {f:Addr} {fd:FuncData} {Z:Cz} {n:Nat} {TM W fT fW:Addr} {dN dI:List Value} (F:dO K "_law_told" "_law_told" oU f fd) (T:Txt K mg Z.s) (U:gH K mg Z) (XT:dJ K mg TM W fT fW dN dI) :bF P w K mg base fh 1 f fd ["_law_cases_here"] (zb Z):=by
 refine F.ok AF (fun vs H Q E h=>?_) (fun cdv A outer s H vs Q E hr h=>?_)
 ·obtain ⟨l,cs,rfl,hC,hl,hw,k⟩:=h
  rfl
 ·obtain ⟨l,cs,rfl,hC,hl,hw,k⟩:=h
  have hu:=bD hr
  rw [show ay oU=[_] from rfl]
  refine ⟨_,(au (aJ (bZ (br ["_law_case"] [] [] rfl (by decide +kernel) (by decide +kernel) (by with_unfolding_all rfl) (by exact trivial) (by rfl) rfl (by rfl)) rfl (eK (pv 0)) (fun _ _ _ _=>(aQ (i:=0) (show List.Nodup (["_law_case"]:List Str) by decide +kernel) rfl (Or.inl rfl) (Or.inr rfl))) (fun _ _ _ _=>cA) (fun _ _ _ _=>(bB (mZ (K:=K) rfl) (by rfl) T.tuple boot_tuple (aa (bZ (br ["_law_total"] [] [] rfl (by decide +kernel) (by decide +kernel) (by with_unfolding_all rfl) (by exact trivial) (by rfl) rfl (by rfl)) rfl (MK (K:=K) rfl (pv 0)) (fun _ _ _ _=>(aQ (i:=0) (show List.Nodup (["_law_total"]:List Str) by decide +kernel) rfl (Or.inl rfl) (Or.inr rfl))) (fun _ _ _ _=>cA) (fun _ _ _ _=>(aG (aa (zl (K:=K) rfl (pv 0) rfl) (aa (zl (K:=K) rfl (pv 0) rfl) ai))))) ai)))))),?_⟩
  obtain ⟨us,el,pr⟩:=id hC
  have nW:=ak pr
  refine ⟨_,rfl,l,rfl,⟨us,bC.of el⟩,eg (xs:=us) (fun i ys H'=>az H H'∧Paired (iL H') ys (cs.take i)) ⟨az.refl _,.nil⟩ (fun i ys H' _ q=>bC.of (q.1 _ _ el)) ?_ ?_⟩
  ·rintro i x ys H' hix ⟨sm,py⟩
   obtain ⟨c,fX,hx⟩:=bg pr hix
   obtain ⟨rt,vt,rfl,ert,pt⟩:=hx.aB (aD.of sm)
   have wc:=hw c (List.mem_of_getElem? fX)
   have lvt:=ak pt
   have rm:ys.length≤64:=by
    rw [ak py,List.length_take]
    omega
   refine ⟨Ext.one,iH ⟨_,rfl,rt,rfl,⟨vt,aX.of ert⟩,cU (xs:=vt) (fun j zs H2=>az H' H2∧Paired (fun u (q:Ps×Int)=>∃ p,u=V.ref p∧cD H2 p q.1 q.2) zs (c.take j)) ⟨az.refl _,.nil⟩ (fun j zs H2 _ q=>aX.of (q.1 _ _ ert)) ?_ ?_⟩⟩
   ·rintro j y zs H2 hj ⟨s2,pz⟩
    obtain ⟨q,hq,pq,rfl,Sq0⟩:=bg pt hj
    have Sq1:=Sq0.same s2
    obtain ⟨dq,tq,eq1,tp,_⟩:=id Sq1
    have Nv:zs.length≤1000:=by
     rw [ak pz,List.length_take]
     omega
    refine ⟨Ext.one,iH ⟨_,rfl,pq,Z.s,dq,_,_,rfl,eq1,T.cl,T.nT,cZ _ _,_,rfl,pq,Z.s,dq,_,_,rfl,eq1,T.cl,T.nN,cz _ _,(szl 2),fun x hx=>⟨line _ (by omega),s2.trans (new hx),?_⟩⟩⟩
    rw [take_snoc hq]
    exact aH (L2.Paired.cF pz fun _ _ ⟨p',e,d⟩=>⟨p',e,d.same (new hx)⟩) ⟨x,rfl,tq,ah,tp.same (new hx)⟩
   ·rintro zs H2 ⟨s2,pz⟩ q hq
    rw [lvt,List.take_length] at pz
    have Nv:=ak pz
    refine ⟨q,_,rfl,.inl ⟨bC.of ah,fun r2 hr2=>?_⟩⟩
    have s3:az H2 (upd (upd H2 q (.lst zs)) r2 (.tup zs)):=az.new (new hq) hr2
    refine ⟨line _ (by omega),(sm.trans s2).trans s3,?_⟩
    rw [take_snoc fX]
    exact aH (L2.Paired.cF py fun _ _ z=>z.aB (aD.of (s2.trans s3))) ⟨r2,zs,rfl,ah,L2.Paired.cF pz fun _ _ ⟨p',e,d⟩=>⟨p',e,d.same s3⟩⟩
  ·rintro ys H' ⟨sm,py⟩ q hq
   rw [nW,List.take_length] at py
   exact k q _ (sm.trans (new hq)) ⟨ys,ah,L2.Paired.cF py fun _ _ z=>z.aB (aD.of (new hq))⟩
abbrev qu:Stmt:=top 46
theorem lK:aL ["_law_told_here","_law_signs"] ["_law_told_here"] (aq qu):=⟨rfl,rfl,rfl,by decide +kernel,rfl,by decide +kernel,by decide +kernel⟩
abbrev eD:Expr:=SG (ifB ((ay qu).getD 1 (.Pass ⟨0,0,0,0⟩)) 0)
theorem kD1:dictOf eD=some EG:=rfl
theorem Na {f:Addr} {fd:FuncData} {Z:Cz} {n:Nat} {TM W fT fW:Addr} {dN dI:List Value} (F:dO K "_law_opposite" "_law_opposite" qu f fd) (T:Txt K mg Z.s) (U:gH K mg Z) (XT:dJ K mg TM W fT fW dN dI) (w4:Dn P w K mg base (n+1) "_law_opposite" ["_law_told_here"] (mh n)):bF P w K mg base fh (n+2) f fd ["_law_told_here"] (mh (n+1)):=by
 obtain ⟨RO,Lf,jo,g8,ic,jk⟩:=w4
 refine F.ok lK (fun vs H Q E h=>?_) (fun cdv A outer s H vs Q E hr h=>?_)
 ·obtain ⟨v,c,xs,rfl,ht,hd,hg,k⟩:=h
  rfl
 ·obtain ⟨v,c,xs,rfl,ht,hd,hg,k⟩:=h
  have hu:=bD hr
  have he:=kD1
  rw [show ay qu=[_,.If _ [.Assign [.Name "_law_signs" _] eD _,_] _ _,_] from rfl]
  generalize eD=qd at he ⊢
  refine ⟨_,(ao (bR (aO bW (aF aK (pv 0) aj (fun _ _=>rfl)) aP (aV _)) (au (aJ (aF aK (pv 0) aj (fun _ _=>rfl)))) bE)
   (ao (bR (aO bW (aF aK (pv 0) aj (fun _ _=>rfl)) aP (aV _)) (ao (aT (i:=1) lK.nd rfl (Or.inl rfl) (JF (by intro z;cases z) (by decide) he) (Mx he))
   (au (aJ (aG (aa (aF aK (pv 0) aj (fun _ _=>rfl)) (aa (aF aK (pv 0) aj (fun _ _=>rfl)) (aa (iO hu (pv 1) (aF aK (pv 0) aj (fun _ _=>rfl)) (fun _ _=>rfl)) (aa (aF aK (pv 0) aj (fun _ _=>rfl)) ai)))))))) bE)
   (au (aJ (aZ nF (aG (aa (aF bM (bh (aa aP (aa aP ai))) (bB eE (by rfl) T.int boot_int (aa (eO bW (aF aK (pv 0) aj (fun _ _=>rfl)) aP (aV _)) ai)) (fun _ _=>rfl)) ai)) (bB bN (by rfl) T.tuple boot_tuple (aa (bZ (br ["_law_one"] [] [] rfl (by decide +kernel) (by decide +kernel) (by with_unfolding_all rfl) (by exact trivial) (by rfl) rfl (by rfl)) rfl (dD (jd zf (pv 0) (kE aj) kF)) (fun _ _ _ _=>(aQ (i:=0) (show List.Nodup (["_law_one"]:List Str) by decide +kernel) rfl (Or.inl rfl) (Or.inr rfl))) (fun _ _ _ _=>cA) (fun _ _ _ _=>(aA jo (hr.mono (by first | decide | omega)) rfl g8 ic jk .nil aE (aa (pv 0) ai)))) ai))))))),?_⟩
  cases c with
  | cmp a i s b m =>
   unfold aW at ht
   unfold Gh at hg
   obtain ⟨r,u,w,rfl,er,D1,D2⟩:=ht
   refine ⟨_,rfl,r,_,0,_,rfl,rfl,aX.of er,rfl,rfl,_,rfl,bf (bx (by decide +kernel)) ?_⟩
   refine ⟨_,rfl,r,_,0,_,rfl,rfl,aX.of er,rfl,rfl,_,rfl,bG rfl ?_⟩
   refine fun d hd'=>?_
   have s1:=new (o:=.dK (kM [] (Q7 EG))) hd'
   have sV:=s1 _ _ er
   have dg:nZ (upd H d (.dK (kM [] (Q7 EG)))) d (.str s) (some (.str (g7 s))):=.inl ⟨_,Sum.inr s,.inl ah,rfl,(MS hg.2.1).symm⟩
   refine ⟨_,rfl,r,_,0,_,rfl,rfl,aX.of sV,rfl,_,rfl,r,_,1,_,rfl,rfl,aX.of sV,rfl,_,rfl,_,rfl,r,_,2,_,rfl,rfl,aX.of sV,rfl,d,_,rfl,dg,_,rfl,r,_,3,_,rfl,rfl,aX.of sV,rfl,Nat.le_of_lt (line 4 (by decide)),fun q hq=>?_⟩
   refine k (.ref q) _ (s1.trans (new hq)) ?_
   unfold Cd.cY aW
   exact ⟨q,u,w,rfl,ah,D1.same (s1.trans (new hq)),D2.same (s1.trans (new hq))⟩
  | neg c =>
   unfold aW at ht
   unfold Gh at hg
   obtain ⟨r,u,rfl,er,ht⟩:=ht
   refine ⟨_,rfl,r,_,0,_,rfl,rfl,aX.of er,rfl,rfl,_,rfl,bG rfl ?_⟩
   exact ⟨_,rfl,r,_,1,_,rfl,rfl,aX.of er,rfl,k u H (az.refl _) (by unfold Cd.cY;exact ht)⟩
  | con b cs =>
   unfold aW at ht
   unfold Gh at hg
   unfold Cd.dep at hd
   obtain ⟨r,us,rfl,er,ht⟩:=ht
   have pR:=aN.mp ht
   have nW:us.length=cs.length:=ak pR
   have U0:=hg.1
   have two:2≤sizeLine:=Nat.le_of_lt (line 2 (by decide))
   refine ⟨_,rfl,r,_,0,_,rfl,rfl,aX.of er,yL _ _,rfl,_,rfl,bf (bx (s:=Au b) (by cases b <;> decide +kernel)) ?_⟩
   refine ⟨_,rfl,r,_,0,_,rfl,rfl,aX.of er,yL _ _,rfl,_,rfl,bf (bx (s:=Au b) (by cases b <;> decide +kernel)) ?_⟩
   refine ⟨two,fun q1 hq1=>?_⟩
   have s0:=new (o:=.lst [V.str "and",.str "or"]) hq1
   refine ⟨_,rfl,r,_,0,_,rfl,rfl,aX.of (s0 _ _ er),yL _ _,rfl,?_⟩
   cases b with
   | true =>
    refine .inr ⟨true,rfl,q1,_,_,_,rfl,rfl,bC.of ah,rfl,Nat.le_of_lt (line 1 (by decide)),fun r1 hr1=>?_⟩
    have s1:=s0.trans (new (o:=.tup [V.str "or"]) hr1)
    refine ⟨_,rfl,_,rfl,r,_,rfl,aX.of (s1 _ _ er),xj _ _,fun t yr=>?_⟩
    rw [DL]
    have e1:upd (upd (upd H q1 (.lst [V.str "and",.str "or"])) r1 (.tup [V.str "or"])) t (.tup us) r1=some (.tup [V.str "or"]):=new yr _ _ ah
    have s2:=s1.trans (new (o:=.tup us) yr)
    have et:upd (upd (upd H q1 (.lst [V.str "and",.str "or"])) r1 (.tup [V.str "or"])) t (.tup us) t=some (.tup us):=ah
    generalize upd (upd (upd H q1 (.lst [V.str "and",.str "or"])) r1 (.tup [V.str "or"])) t (.tup us)=Ht at e1 s2 et
    refine ⟨t,rfl,⟨us,aX.of et⟩,cU (xs:=us) (fun i ys H'=>az Ht H'∧bV H' (dH (cs.take i)) ys) ⟨fun _ _ z=>z,(by unfold dH bV;rfl)⟩ (fun i ys H' _ q=>aX.of (q.1 _ _ et)) ?_ ?_⟩
    ·rintro i x ys H' hix ⟨sm,hc⟩
     obtain ⟨c,fX,nY⟩:=bg pR hix
     have O9:=(List.getElem?_eq_some_iff.mp fX).1
     have iz:=List.mem_of_getElem? fX
     have dd:c.dep≤n:=by
      have z:=eT iz
      omega
     have rm:ys.length≤i:=by
      have z:=ak (aN.mp hc)
      rw [dP,List.length_map,List.length_take] at z
      omega
     refine ⟨Ext.one,iH ⟨_,rfl,x,c,xs,rfl,nY.aB (aD.of (s2.trans sm)),dd,qO hg.2 iz,fun v' H1 iJ hv=>⟨line _ (by omega),sm.trans iJ,?_⟩⟩⟩
     rw [take_snoc fX,dP,List.map_append,← dP]
     exact aN.mpr (aH (aN.mp (hc.aB (aD.of iJ))) hv)
    rintro ys H' ⟨sm,hc⟩ q hq
    rw [nW,List.take_length] at hc
    have rm:ys.length=cs.length:=by
     have z:=ak (aN.mp hc)
     rw [dP,List.length_map] at z
     exact z
    refine ⟨q,_,rfl,.inl ⟨bC.of ah,fun r2 hr2=>?_⟩⟩
    have s3:az H' (upd (upd H' q (.lst ys)) r2 (.tup ys)):=az.new (new hq) hr2
    refine BP (k:=false) (s3 _ _ (sm _ _ e1)) ah (hc.aB (aD.of s3)) (by omega) fun v Hf sf hv=>?_
    refine k v Hf (((s2.trans sm).trans s3).trans sf) ?_
    unfold Cd.cY
    exact hv
   | false =>
    refine .inr ⟨false,rfl,q1,_,_,_,rfl,rfl,bC.of ah,rfl,Nat.le_of_lt (line 1 (by decide)),fun r1 hr1=>?_⟩
    have s1:=s0.trans (new (o:=.tup [V.str "and"]) hr1)
    refine ⟨_,rfl,_,rfl,r,_,rfl,aX.of (s1 _ _ er),xj _ _,fun t yr=>?_⟩
    rw [DL]
    have e1:upd (upd (upd H q1 (.lst [V.str "and",.str "or"])) r1 (.tup [V.str "and"])) t (.tup us) r1=some (.tup [V.str "and"]):=new yr _ _ ah
    have s2:=s1.trans (new (o:=.tup us) yr)
    have et:upd (upd (upd H q1 (.lst [V.str "and",.str "or"])) r1 (.tup [V.str "and"])) t (.tup us) t=some (.tup us):=ah
    generalize upd (upd (upd H q1 (.lst [V.str "and",.str "or"])) r1 (.tup [V.str "and"])) t (.tup us)=Ht at e1 s2 et
    refine ⟨t,rfl,⟨us,aX.of et⟩,cU (xs:=us) (fun i ys H'=>az Ht H'∧bV H' (dH (cs.take i)) ys) ⟨fun _ _ z=>z,(by unfold dH bV;rfl)⟩ (fun i ys H' _ q=>aX.of (q.1 _ _ et)) ?_ ?_⟩
    ·rintro i x ys H' hix ⟨sm,hc⟩
     obtain ⟨c,fX,nY⟩:=bg pR hix
     have O9:=(List.getElem?_eq_some_iff.mp fX).1
     have iz:=List.mem_of_getElem? fX
     have dd:c.dep≤n:=by
      have z:=eT iz
      omega
     have rm:ys.length≤i:=by
      have z:=ak (aN.mp hc)
      rw [dP,List.length_map,List.length_take] at z
      omega
     refine ⟨Ext.one,iH ⟨_,rfl,x,c,xs,rfl,nY.aB (aD.of (s2.trans sm)),dd,qO hg.2 iz,fun v' H1 iJ hv=>⟨line _ (by omega),sm.trans iJ,?_⟩⟩⟩
     rw [take_snoc fX,dP,List.map_append,← dP]
     exact aN.mpr (aH (aN.mp (hc.aB (aD.of iJ))) hv)
    rintro ys H' ⟨sm,hc⟩ q hq
    rw [nW,List.take_length] at hc
    have rm:ys.length=cs.length:=by
     have z:=ak (aN.mp hc)
     rw [dP,List.length_map] at z
     exact z
    refine ⟨q,_,rfl,.inl ⟨bC.of ah,fun r2 hr2=>?_⟩⟩
    have s3:az H' (upd (upd H' q (.lst ys)) r2 (.tup ys)):=az.new (new hq) hr2
    refine BP (k:=true) (s3 _ _ (sm _ _ e1)) ah (hc.aB (aD.of s3)) (by omega) fun v Hf sf hv=>?_
    refine k v Hf (((s2.trans sm).trans s3).trans sf) ?_
    unfold Cd.cY
    exact hv
abbrev fQ:Stmt:=top 52
theorem iC:aL ["_law_told_here","_law_most","_law_least"] ["_law_told_here"] (aq fQ):=⟨rfl,rfl,rfl,by decide +kernel,rfl,by decide +kernel,by decide +kernel⟩
theorem A9 {f:Addr} {fd:FuncData} {Z:Cz} {n:Nat} {TM W fT fW:Addr} {dN dI:List Value} (F:dO K "_law_compared" "_law_compared" fQ f fd) (T:Txt K mg Z.s) (U:gH K mg Z) (XT:dJ K mg TM W fT fW dN dI) (Ob:Dn P w K mg base 2 "_law_less" ["_law_one","_law_other","_law_number"] zc):bF P w K mg base fh 3 f fd ["_law_told_here"] ju:=by
 obtain ⟨YN,Vw,tK,nI,nK,tE⟩:=Ob
 refine F.ok iC (fun vs H Q E h=>?_) (fun cdv A outer s H vs Q E hr h=>?_)
 ·obtain ⟨v,a,b,i,m,s,xs,rfl,ht,hg,k⟩:=h
  rfl
 ·obtain ⟨v,a,b,i,m,s,xs,rfl,ht,hg,k⟩:=h
  have hu:=bD hr
  rw [show ay fQ=[_,_,_,_,_,_] from rfl]
  refine ⟨_,(ao (aT (i:=1) iC.nd rfl (Or.inl rfl) (aA tK (hr.mono (by first | decide | omega)) rfl nI nK tE .nil aE (aa (aF aK (pv 0) aj (fun _ _=>rfl)) (aa (aF aK (pv 0) aj (fun _ _=>rfl)) (aa aj ai)))))
   (ao (aT (i:=2) iC.nd rfl (Or.inl rfl) (aA tK (hr.mono (by first | decide | omega)) rfl nI nK tE .nil aE (aa (aF aK (pv 0) aj (fun _ _=>rfl)) (aa (aF aK (pv 0) aj (fun _ _=>rfl)) (aa aj ai)))))
   (ao (bR (aO bW (aF aK (pv 0) aj (fun _ _=>rfl)) aP (aV _)) (au (aJ (bh (aa (aG (aa (pv 1) (aa (pv 2) ai))) ai)))) bE)
   (ao (bR (aO bW (aF aK (pv 0) aj (fun _ _=>rfl)) aP (aV _)) (au (aJ (bh (aa (aG (aa (aA tK (hr.mono (by first | decide | omega)) rfl nI nK tE .nil aE (aa (aF aK (pv 0) aj (fun _ _=>rfl)) (aa (aF aK (pv 0) aj (fun _ _=>rfl)) (aa (lO iA aj) ai)))) ai)) (aa (aG (aa (aA tK (hr.mono (by first | decide | omega)) rfl nI nK tE .nil aE (aa (aF aK (pv 0) aj (fun _ _=>rfl)) (aa (aF aK (pv 0) aj (fun _ _=>rfl)) (aa (lO iA aj) ai)))) ai)) ai))))) bE)
   (ao (bR (aO rX (aF aK (pv 0) aj (fun _ _=>rfl)) (aG (aa aP (aa aP ai))) (by rfl)) (au (aJ (bh (aa (aG (aa (aF bM (bh (aa (aA tK (hr.mono (by first | decide | omega)) rfl nI nK tE .nil aE (aa (aF aK (pv 0) aj (fun _ _=>rfl)) (aa (aF aK (pv 0) aj (fun _ _=>rfl)) (aa (lO iA aj) ai)))) (aa (aA tK (hr.mono (by first | decide | omega)) rfl nI nK tE .nil aE (aa (aF aK (pv 0) aj (fun _ _=>rfl)) (aa (aF aK (pv 0) aj (fun _ _=>rfl)) (aa (lO iA aj) ai)))) ai))) (bB eE (by rfl) T.int boot_int (aa (eO bW (aF aK (pv 0) aj (fun _ _=>rfl)) aP (aV _)) ai)) (fun _ _=>rfl)) ai)) ai)))) bE)
   (au (aJ (bh (aa (aG (aa (aF bM (bh (aa (pv 2) (aa (pv 1) ai))) (bB eE (by rfl) T.int boot_int (aa (eO bW (aF aK (pv 0) aj (fun _ _=>rfl)) aP (aV _)) ai)) (fun _ _=>rfl)) ai)) ai))))))))),?_⟩
  unfold aW at ht
  unfold Gh at hg
  obtain ⟨r,u,w,rfl,er,D1,D2⟩:=ht
  have a3:=hg.1.2.1.1
  have b3:=hg.2.2.2.1.1
  refine ⟨_,rfl,r,_,3,_,rfl,rfl,aX.of er,rfl,_,rfl,r,_,1,_,rfl,rfl,aX.of er,rfl,w,u,b,a,m,i,0,rfl,D2.same (az.refl _),D1.same (az.refl _),by omega,fun r1 tr H1 iJ g1 E1=>?_⟩
  refine ⟨_,rfl,r,_,1,_,rfl,rfl,aX.of (iJ _ _ er),rfl,_,rfl,r,_,3,_,rfl,rfl,aX.of (iJ _ _ er),rfl,u,w,a,b,i,m,0,rfl,D1.same iJ,D2.same iJ,by omega,fun r2 td H2 ye g2 E2=>?_⟩
  have sA:=iJ.trans ye
  have sV:=sA _ _ er
  have E1:=E1.same ye
  have n1:m - i+0=m - i:=Int.add_zero _
  have n2:i - m+0=i - m:=Int.add_zero _
  rw [n1] at E1
  rw [n2] at E2
  have Mb:∀ cs:Cs,cs=DM s (tr,m - i) (td,i - m)→gD (.cmp a i s b m) false cs:=fun cs e=>by unfold gD;exact ⟨tr,td,g1,g2,e⟩
  have one:1≤sizeLine:=Nat.le_of_lt (line 1 (by decide))
  have two:2≤sizeLine:=Nat.le_of_lt (line 2 (by decide))
  have NQ:∀ (q:Addr) (x:Ps×Int) (H3:Hp),az H H3→cD H3 q x.1 x.2→[[x]]=DM s (tr,m - i) (td,i - m)→(1≤sizeLine∧∀ t,H3 t=none→(1≤sizeLine∧∀ F,upd H3 t (.tup [V.ref q]) F=none→Q (.ref F) (upd (upd H3 t (.tup [V.ref q])) F (.lst [V.ref t])))):=fun q x H3 s3 dq e=>⟨one,fun t ht=>⟨one,fun F hF=>by
   have sF:=(new (o:=.tup [V.ref q]) ht).trans (new (o:=.lst [V.ref t]) hF)
   exact k F [[x]] _ (s3.trans sF) ⟨[.ref t],ah,.cons ⟨t,[.ref q],rfl,new hF _ _ ah,.cons ⟨q,rfl,dq.same sF⟩ .nil⟩ .nil⟩ (Mb _ e)⟩⟩
  have hs:=hg.2.1
  simp only [signs,List.mem_cons,List.not_mem_nil,or_false] at hs
  rcases hs with hs | hs | hs | hs | hs | hs
  ·subst hs
   refine ⟨_,rfl,r,_,2,_,rfl,rfl,aX.of sV,rfl,rfl,_,rfl,bf (bx (by decide +kernel)) ?_⟩
   refine ⟨_,rfl,r,_,2,_,rfl,rfl,aX.of sV,rfl,rfl,_,rfl,bf (bx (by decide +kernel)) ?_⟩
   refine ⟨_,rfl,r,_,2,_,rfl,rfl,aX.of sV,rfl,two,fun q hq=>?_⟩
   have sq:=sA.trans (new (o:=.tup [V.str "<",V.str ">"]) hq)
   refine ⟨q,_,rfl,.inr (aX.of ah),rfl,rfl,_,rfl,KP (by decide +kernel) ?_⟩
   refine ⟨_,rfl,r,_,1,_,rfl,rfl,aX.of (sq _ _ er),rfl,_,rfl,r,_,3,_,rfl,rfl,aX.of (sq _ _ er),rfl,_,rfl,u,w,a,b,i,m,(-1),rfl,D1.same sq,D2.same sq,by omega,fun r3 t3 H3 s3 g3 E3=>?_⟩
   refine ⟨_,rfl,r,_,3,_,rfl,rfl,aX.of ((sq.trans s3) _ _ er),rfl,_,rfl,r,_,1,_,rfl,rfl,aX.of ((sq.trans s3) _ _ er),rfl,_,rfl,w,u,b,a,m,i,(-1),rfl,D2.same (sq.trans s3),D1.same (sq.trans s3),by omega,fun r5 t5 H5 s5 g5 E5=>⟨two,fun Lq BA=>?_⟩⟩
   have e3:t3=td:=g3.same g2 fun _=>rfl
   have e5:t5=tr:=g5.same g1 fun _=>rfl
   subst e3 e5
   have s6:=(sq.trans s3).trans s5
   have sF:=new (o:=.lst [V.ref r3,V.ref r5]) BA
   have n3:i - m+-1=i - m - 1:=by omega
   have n5:m - i+-1=m - i - 1:=by omega
   rw [n3] at E3
   rw [n5] at E5
   exact ⟨_,rfl,r,_,2,_,rfl,rfl,aX.of ((s6.trans sF) _ _ er),rfl,rfl,.inr ⟨true,rfl,Lq,_,_,_,rfl,rfl,bC.of ah,rfl,NQ r5 (t5,m - i - 1) _ (s6.trans sF) (E5.same sF) rfl⟩⟩
  ·subst hs
   refine ⟨_,rfl,r,_,2,_,rfl,rfl,aX.of sV,rfl,rfl,_,rfl,bf (bx (by decide +kernel)) ?_⟩
   refine ⟨_,rfl,r,_,2,_,rfl,rfl,aX.of sV,rfl,rfl,_,rfl,bf (bx (by decide +kernel)) ?_⟩
   refine ⟨_,rfl,r,_,2,_,rfl,rfl,aX.of sV,rfl,two,fun q hq=>?_⟩
   have sq:=sA.trans (new (o:=.tup [V.str "<",V.str ">"]) hq)
   refine ⟨q,_,rfl,.inr (aX.of ah),rfl,rfl,_,rfl,rq (by decide +kernel) ?_⟩
   refine ⟨_,rfl,_,rfl,two,fun Lq BA=>?_⟩
   have sF:=new (o:=.lst [V.ref r2,V.ref r1]) BA
   exact ⟨_,rfl,r,_,2,_,rfl,rfl,aX.of ((sq.trans sF) _ _ er),rfl,rfl,.inr ⟨true,rfl,Lq,_,_,_,rfl,rfl,bC.of ah,rfl,NQ r1 (tr,m - i) _ (sq.trans sF) ((E1.same (new hq)).same sF) rfl⟩⟩
  ·subst hs
   refine ⟨_,rfl,r,_,2,_,rfl,rfl,aX.of sV,rfl,rfl,_,rfl,bG rfl ?_⟩
   refine ⟨_,rfl,_,rfl,two,fun t ht=>⟨one,fun F hF=>?_⟩⟩
   have sF:=(new (o:=.tup [V.ref r1,V.ref r2]) ht).trans (new (o:=.lst [V.ref t]) hF)
   exact k F [[(tr,m - i),(td,i - m)]] _ (sA.trans sF) ⟨[.ref t],ah,.cons ⟨t,[.ref r1,.ref r2],rfl,new hF _ _ ah,.cons ⟨r1,rfl,E1.same sF⟩ (.cons ⟨r2,rfl,E2.same sF⟩ .nil)⟩ .nil⟩ (Mb _ rfl)
  ·subst hs
   refine ⟨_,rfl,r,_,2,_,rfl,rfl,aX.of sV,rfl,rfl,_,rfl,bf (bx (by decide +kernel)) ?_⟩
   refine ⟨_,rfl,r,_,2,_,rfl,rfl,aX.of sV,rfl,rfl,_,rfl,bG rfl ?_⟩
   refine ⟨_,rfl,r,_,3,_,rfl,rfl,aX.of sV,rfl,_,rfl,r,_,1,_,rfl,rfl,aX.of sV,rfl,_,rfl,w,u,b,a,m,i,(-1),rfl,D2.same sA,D1.same sA,by omega,fun r3 t3 H3 s3 g3 E3=>⟨one,fun q1 hq1=>?_⟩⟩
   have s4:=(sA.trans s3).trans (new (o:=.tup [V.ref r3]) hq1)
   refine ⟨_,rfl,r,_,1,_,rfl,rfl,aX.of (s4 _ _ er),rfl,_,rfl,r,_,3,_,rfl,rfl,aX.of (s4 _ _ er),rfl,_,rfl,u,w,a,b,i,m,(-1),rfl,D1.same s4,D2.same s4,by omega,fun r5 t5 H5 s5 g5 E5=>⟨one,fun q2 hq2=>⟨two,fun F hF=>?_⟩⟩⟩
   have e3:t3=tr:=g3.same g1 fun _=>rfl
   have e5:t5=td:=g5.same g2 fun _=>rfl
   subst e3 e5
   have s6:=s5.trans (new (o:=.tup [V.ref r5]) hq2)
   have sF:=new (o:=.lst [V.ref q1,V.ref q2]) hF
   have n3:m - i+-1=m - i - 1:=by omega
   have n5:i - m+-1=i - m - 1:=by omega
   rw [n3] at E3
   rw [n5] at E5
   exact k F [[(t3,m - i - 1)],[(t5,i - m - 1)]] _ ((s4.trans s6).trans sF) ⟨[.ref q1,.ref q2],ah,.cons ⟨q1,[.ref r3],rfl,(s6.trans sF) _ _ ah,.cons ⟨r3,rfl,((E3.same (new hq1)).same s6).same sF⟩ .nil⟩ (.cons ⟨q2,[.ref r5],rfl,sF _ _ ah,.cons ⟨r5,rfl,(E5.same (new hq2)).same sF⟩ .nil⟩ .nil)⟩ (Mb _ rfl)
  ·subst hs
   refine ⟨_,rfl,r,_,2,_,rfl,rfl,aX.of sV,rfl,rfl,_,rfl,bf (bx (by decide +kernel)) ?_⟩
   refine ⟨_,rfl,r,_,2,_,rfl,rfl,aX.of sV,rfl,rfl,_,rfl,bf (bx (by decide +kernel)) ?_⟩
   refine ⟨_,rfl,r,_,2,_,rfl,rfl,aX.of sV,rfl,two,fun q hq=>?_⟩
   have sq:=sA.trans (new (o:=.tup [V.str "<",V.str ">"]) hq)
   refine ⟨q,_,rfl,.inr (aX.of ah),rfl,rfl,_,rfl,rq (by decide +kernel) ?_⟩
   refine ⟨_,rfl,_,rfl,two,fun Lq BA=>?_⟩
   have sF:=new (o:=.lst [V.ref r2,V.ref r1]) BA
   exact ⟨_,rfl,r,_,2,_,rfl,rfl,aX.of ((sq.trans sF) _ _ er),rfl,rfl,.inr ⟨false,by decide +kernel,Lq,_,_,_,rfl,rfl,bC.of ah,rfl,NQ r2 (td,i - m) _ (sq.trans sF) ((E2.same (new hq)).same sF) rfl⟩⟩
  ·subst hs
   refine ⟨_,rfl,r,_,2,_,rfl,rfl,aX.of sV,rfl,rfl,_,rfl,bf (bx (by decide +kernel)) ?_⟩
   refine ⟨_,rfl,r,_,2,_,rfl,rfl,aX.of sV,rfl,rfl,_,rfl,bf (bx (by decide +kernel)) ?_⟩
   refine ⟨_,rfl,r,_,2,_,rfl,rfl,aX.of sV,rfl,two,fun q hq=>?_⟩
   have sq:=sA.trans (new (o:=.tup [V.str "<",V.str ">"]) hq)
   refine ⟨q,_,rfl,.inr (aX.of ah),rfl,rfl,_,rfl,KP (by decide +kernel) ?_⟩
   refine ⟨_,rfl,r,_,1,_,rfl,rfl,aX.of (sq _ _ er),rfl,_,rfl,r,_,3,_,rfl,rfl,aX.of (sq _ _ er),rfl,_,rfl,u,w,a,b,i,m,(-1),rfl,D1.same sq,D2.same sq,by omega,fun r3 t3 H3 s3 g3 E3=>?_⟩
   refine ⟨_,rfl,r,_,3,_,rfl,rfl,aX.of ((sq.trans s3) _ _ er),rfl,_,rfl,r,_,1,_,rfl,rfl,aX.of ((sq.trans s3) _ _ er),rfl,_,rfl,w,u,b,a,m,i,(-1),rfl,D2.same (sq.trans s3),D1.same (sq.trans s3),by omega,fun r5 t5 H5 s5 g5 E5=>⟨two,fun Lq BA=>?_⟩⟩
   have e3:t3=td:=g3.same g2 fun _=>rfl
   have e5:t5=tr:=g5.same g1 fun _=>rfl
   subst e3 e5
   have s6:=(sq.trans s3).trans s5
   have sF:=new (o:=.lst [V.ref r3,V.ref r5]) BA
   have n3:i - m+-1=i - m - 1:=by omega
   have n5:m - i+-1=m - i - 1:=by omega
   rw [n3] at E3
   rw [n5] at E5
   exact ⟨_,rfl,r,_,2,_,rfl,rfl,aX.of ((s6.trans sF) _ _ er),rfl,rfl,.inr ⟨false,by decide +kernel,Lq,_,_,_,rfl,rfl,bC.of ah,rfl,NQ r3 (t3,i - m - 1) _ (s6.trans sF) ((E3.same s5).same sF) rfl⟩⟩
abbrev jx:Stmt:=top 54
theorem fk:aL ["_law_told_here","_law_found","_law_one","_law_more"] ["_law_told_here"] (aq jx):=⟨rfl,rfl,rfl,by decide +kernel,rfl,by decide +kernel,by decide +kernel⟩
theorem FP {f:Addr} {fd:FuncData} {Z:Cz} {n:Nat} {TM W fT fW:Addr} {dN dI:List Value} (F:dO K "_law_cases" "_law_cases" jx f fd) (T:Txt K mg Z.s) (U:gH K mg Z) (XT:dJ K mg TM W fT fW dN dI) (pX:Dn P w K mg base 3 "_law_compared" ["_law_told_here"] ju) (w4:Dn P w K mg base (n+1) "_law_opposite" ["_law_told_here"] (mh n)) (mX:Dn P w K mg base 1 "_law_paired" ["_law_ones","_law_others"] jU) (w6:Dn P w K mg base (n+4) "_law_cases" ["_law_told_here"] (jT n)):bF P w K mg base fh (n+5) f fd ["_law_told_here"] (jT (n+1)):=by
 obtain ⟨RS,Pn,DZ,Bj,Bp,DR⟩:=pX
 obtain ⟨RO,Lf,jo,g8,ic,jk⟩:=w4
 obtain ⟨Lm,Gv,xD,su,sM,xx⟩:=mX
 obtain ⟨a7h,Vy,vm,qG,qM,vh⟩:=w6
 refine F.ok fk (fun vs H Q E h=>?_) (fun cdv A outer s H vs Q E hr h=>?_)
 ·obtain ⟨v,c,xs,rfl,ht,hd,hg,hfu,lQ,k1,k2⟩:=h
  rfl
 ·obtain ⟨v,c,xs,rfl,ht,hd,hg,hfu,lQ,k1,k2⟩:=h
  have hu:=bD hr
  rw [show ay jx=[_,_,_,_,_] from rfl]
  refine ⟨_,(ao (bR (aO bW (aF aK (pv 0) aj (fun _ _=>rfl)) aP (aV _)) (au (aJ (aA DZ (hr.mono (by first | decide | omega)) rfl Bj Bp DR .nil aE (aa (pv 0) ai)))) bE)
   (ao (bR (aO bW (aF aK (pv 0) aj (fun _ _=>rfl)) aP (aV _)) (au (aJ (aA vm (hr.mono (by first | decide | omega)) rfl qG qM vh .nil aE (aa (aA jo (hr.mono (by first | decide | omega)) rfl g8 ic jk .nil aE (aa (aF aK (pv 0) aj (fun _ _=>rfl)) ai)) ai)))) bE)
   (ao (aT (i:=1) fk.nd rfl (Or.inl rfl) (aF bM (bh (aa (bh ai) (aa (bh (aa (aG ai) ai)) ai))) (bB eE (by rfl) T.int boot_int (aa (eO bW (aF aK (pv 0) aj (fun _ _=>rfl)) aP (aV _)) ai)) (fun _ _=>rfl)))
   (ao (eX PassesOwn.never rfl (dD (jd zf (pv 0) (kE aj) kF)) (aQ (i:=2) fk.nd rfl (Or.inl rfl)) (ao (aT (i:=3) fk.nd rfl (Or.inl rfl) (aA vm (hr.mono (by first | decide | omega)) rfl qG qM vh .nil aE (aa (pv 2) ai)))
   (ao (bR (PW.pt (vW (aO C1 (pv 3) jJ (aV _)) (vW (PW.pt (vX (aO yi (aZ fR (bS bP (by rfl) T.len PySem.boot_len (aa (pv 1) ai)) (bS bP (by rfl) T.len PySem.boot_len (aa (pv 3) ai))) aj (aV _)) (qw (aO bW (aF aK (pv 0) aj (fun _ _=>rfl)) aP (aV _))))) (rS (aO yi (aZ dQ (bS bP (by rfl) T.len PySem.boot_len (aa (pv 1) ai)) (bS bP (by rfl) T.len PySem.boot_len (aa (pv 3) ai))) aj (aV _)))))) (au (aJ jJ)) bE)
   (au (bR (aO bW (aF aK (pv 0) aj (fun _ _=>rfl)) aP (aV _)) (au (aT (i:=1) fk.nd rfl (Or.inl rfl) (aZ fS (pv 1) (pv 3)))) (au (aT (i:=1) fk.nd rfl (Or.inl rfl) (aA xD (hr.mono (by first | decide | omega)) rfl su sM xx .nil aE (aa (pv 1) (aa (pv 3) ai))))))))))
   (au (aJ (aF bM (bh (aa (pv 1) (aa jJ ai))) (bB eE (by rfl) T.int boot_int (aa (eO yi (bS bP (by rfl) T.len PySem.boot_len (aa (pv 1) ai)) aj (aV _)) ai)) (fun _ _=>rfl)))))))),?_⟩
  cases c with
  | cmp a i s b m =>
   have ht0:=ht
   unfold aW at ht
   obtain ⟨r,u,w,rfl,er,D1,D2⟩:=ht
   refine ⟨_,rfl,r,_,0,_,rfl,rfl,aX.of er,rfl,rfl,_,rfl,bG rfl ?_⟩
   exact ⟨_,rfl,.ref r,a,b,i,m,s,xs,rfl,ht0,hg,fun l cs H' sm hl ce=>k1 (by unfold Cd.cN;split <;> split <;> decide) l cs H' sm hl ce⟩
  | neg c =>
   unfold aW at ht
   unfold Gh at hg
   unfold Cd.full at hfu
   unfold Cd.dW at lQ
   unfold Cd.dep at hd
   obtain ⟨r,u,rfl,er,ht⟩:=ht
   obtain ⟨a1,a2,a3,a4,a5,a6⟩:=kG hg.ok hg.iT hfu
   have en:c.cY.cN false=(Cd.neg c).cN false:=by
    rw [qE c false hg.ok]
    conv=>rhs;unfold Cd.cN
   rw [← en] at k1 k2
   refine ⟨_,rfl,r,_,0,_,rfl,rfl,aX.of er,rfl,rfl,_,rfl,bf (bx (by decide +kernel)) ?_⟩
   refine ⟨_,rfl,r,_,0,_,rfl,rfl,aX.of er,rfl,rfl,_,rfl,bG rfl ?_⟩
   refine ⟨_,rfl,r,_,1,_,rfl,rfl,aX.of er,rfl,u,c,xs,rfl,ht,by omega,hg,fun v' H1 s1 hv=>?_⟩
   refine ⟨v',c.cY,xs,rfl,hv,by omega,hg.cY,a3,by omega,fun h64 l cs H2 s2 hl ce=>k1 h64 l cs H2 (s1.trans s2) hl (by unfold gD;exact gD.cY hg.ok ce),fun h64 H2 s2=>k2 h64 H2 (s1.trans s2)⟩
  | con b cs =>
   unfold aW at ht
   unfold Gh at hg
   unfold Cd.full at hfu
   unfold Cd.dW at lQ
   unfold Cd.dep at hd
   obtain ⟨r,us,rfl,er,ht⟩:=ht
   have pR:=aN.mp ht
   have nW:us.length=cs.length:=ak pR
   refine ⟨_,rfl,r,_,0,_,rfl,rfl,aX.of er,yL _ _,rfl,_,rfl,bf (bx (s:=Au b) (by cases b <;> decide +kernel)) ?_⟩
   refine ⟨_,rfl,r,_,0,_,rfl,rfl,aX.of er,yL _ _,rfl,_,rfl,bf (bx (s:=Au b) (by cases b <;> decide +kernel)) ?_⟩
   cases b with
   | true =>
    have two:2≤sizeLine:=Nat.le_of_lt (line 2 (by decide))
    have one:1≤sizeLine:=Nat.le_of_lt (line 1 (by decide))
    have eN:(Cd.con true cs).cN false=kc cs false:=by
     conv=>lhs;unfold Cd.cN
     rfl
    rw [eN] at k1 k2
    have QH:=uy.ok hg.2
    refine ⟨(Nat.zero_le _),fun l0 h0=>⟨(Nat.zero_le _),fun t0 ht0=>⟨one,fun l1 hl1=>⟨two,fun Lq BA=>?_⟩⟩⟩⟩
    have sa:=((new (o:=.lst []) h0).trans (new (o:=.tup []) ht0)).trans ((new (o:=.lst [V.ref t0]) hl1).trans (new (o:=.lst [V.ref l0,V.ref l1]) BA))
    have e0:upd (upd (upd (upd H l0 (.lst [])) t0 (.tup [])) l1 (.lst [V.ref t0])) Lq (.lst [V.ref l0,V.ref l1]) l0=some (.lst []):=new BA _ _ (new hl1 _ _ (new ht0 _ _ ah))
    have e1:upd (upd (upd (upd H l0 (.lst [])) t0 (.tup [])) l1 (.lst [V.ref t0])) Lq (.lst [V.ref l0,V.ref l1]) l1=some (.lst [V.ref t0]):=new BA _ _ ah
    have et:upd (upd (upd (upd H l0 (.lst [])) t0 (.tup [])) l1 (.lst [V.ref t0])) Lq (.lst [V.ref l0,V.ref l1]) t0=some (.tup []):=new BA _ _ (new hl1 _ _ ah)
    have eL:upd (upd (upd (upd H l0 (.lst [])) t0 (.tup [])) l1 (.lst [V.ref t0])) Lq (.lst [V.ref l0,V.ref l1]) Lq=some (.lst [V.ref l0,V.ref l1]):=ah
    generalize upd (upd (upd (upd H l0 (.lst [])) t0 (.tup [])) l1 (.lst [V.ref t0])) Lq (.lst [V.ref l0,V.ref l1])=Ha at sa e0 e1 et eL ⊢
    refine ⟨_,rfl,r,_,0,_,rfl,rfl,aX.of (sa _ _ er),yL _ _,rfl,.inr ⟨true,rfl,Lq,_,_,_,rfl,rfl,bC.of eL,rfl,?_⟩⟩
    refine ⟨_,rfl,_,rfl,r,_,rfl,aX.of (sa _ _ er),xj _ _,fun t yr=>?_⟩
    rw [DL]
    have s2:=sa.trans (new (o:=.tup us) yr)
    have L0:lG (upd Ha t (.tup us)) l1 [[]]:=⟨_,new yr _ _ e1,.cons ⟨t0,[],rfl,new yr _ _ et,.nil⟩ .nil⟩
    refine ⟨t,rfl,⟨us,aX.of ah⟩,kU (xs:=us) (fun i σ H'=>∃ (k2 k3:Option V) (F:Addr) (A1:Cs),σ=[some (.ref r),some (.ref F),k2,k3]∧az (upd Ha t (.tup us)) H'∧lG H' F A1∧gC (cs.take i) false true A1∧A1.length≤64) ⟨none,none,_,_,rfl,az.refl _,L0,(by rw [List.take_zero];unfold gC;rfl),(by decide)⟩ ?_ ?_ ?_⟩
    ·rintro i σ H' _ ⟨U5,k3,F,A1,rfl,sm,hF,fA,lA⟩
     exact aX.of (sm _ _ ah)
    ·rintro i x σ H' hix ⟨U5,k3,F,A1,rfl,sm,hF,fA,lA⟩
     obtain ⟨c,fX,nY⟩:=bg pR hix
     have iz:=List.mem_of_getElem? fX
     have dd:c.dep≤n:=by
      have z:=eT iz
      omega
     have sA:=s2.trans sm
     have nm:=EJ (o:=false) hfu.2 fX
     have np:=kK false (gS hfu.2 iz)
     have eA:=gC.len (wg i QH) fA
     have eA:A1.length=kc (cs.take i) false:=eA
     have lv1:=jg (i+1) cs
     rw [take_snoc fX,ia] at lv1
     have two':c.cN false≤kc cs false:=by
      have:=Nat.le_mul_of_pos_left (c.cN false) nm.2;omega
     refine ⟨_,rfl,x,c,xs,rfl,nY.aB (aD.of sA),dd,qO hg.2 iz,gS hfu.2 iz,by omega,fun h64 l B H2 sB hl ce=>?_,fun h64 H2 sB=>?_⟩
     rotate_left
     ·exact ⟨_,rfl,rfl,_,rfl,bG rfl (pQ (k2 (by omega) _ (sA.trans sB)))⟩
     have lB:=gD.len (kJ QH iz) ce
     obtain ⟨yF,eF,pF⟩:=hF.same sB
     obtain ⟨yl,el,pl⟩:=id hl
     have ly:=ak pF
     have lz:=ak pl
     have TF:=(sA.trans sB) _ _ er
     refine ⟨_,rfl,rfl,_,rfl,bf (fun z=>by cases z) ?_⟩
     refine ⟨_,rfl,F,_,rfl,.inl (bC.of eF),_,rfl,l,_,rfl,.inl (bC.of el),_,_,rfl,rfl,.inl ⟨by omega,by omega⟩,_,_,rfl,rfl,_,rfl,?_⟩
     have em:(yF.length:Int)*(yl.length:Int)=((A1.length*B.length:Nat):Int):=by rw [ly,lz,Int.natCast_mul]
     rw [em]
     by_cases hle:A1.length*B.length≤64
     rotate_left
     ·refine bG (by omega) ⟨_,rfl,r,_,0,_,rfl,rfl,aX.of TF,yL _ _,rfl,_,rfl,bG rfl (pQ ?_)⟩
      exact k2 (by rw [eA,lB] at hle;omega) _ (sA.trans sB)
     refine bf (by omega) (zN ?_)
     refine ⟨_,rfl,F,_,rfl,.inl (bC.of eF),_,rfl,l,_,rfl,.inl (bC.of el),_,_,rfl,rfl,_,_,rfl,rfl,_,rfl,bf (by omega) ?_⟩
     refine ⟨_,rfl,r,_,0,_,rfl,rfl,aX.of TF,yL _ _,rfl,_,rfl,bf (bx (s:=Au true) (by decide +kernel)) ?_⟩
     refine ⟨_,rfl,_,rfl,F,l,A1,B,rfl,⟨yF,eF,pF⟩,hl,lA,by omega,(fun a ha=>by have:=gC.oB fA a ha;have:=jg i cs;omega),(fun b hb=>by have:=gD.oB ce b hb;omega),fun r2 H3 s3 hC=>?_⟩
     refine ⟨_,_,r2,bq A1 B,rfl,(sm.trans sB).trans s3,hC,?_,by rw [dU];exact hle⟩
     rw [take_snoc fX]
     exact gC.snoc ce fA
    ·rintro σ H' ⟨U5,k3,F,A1,rfl,sm,hF,fA,lA⟩
     rw [nW,List.take_length] at fA
     have eA:A1.length=kc cs false:=gC.len QH fA
     obtain ⟨yF,eF,pF⟩:=id hF
     have ly:=ak pF
     refine ⟨_,rfl,two,fun L2 hL2=>?_⟩
     have sL:=new (o:=.lst [V.ref F,V.fL]) hL2
     refine ⟨_,rfl,F,_,rfl,.inl (bC.of (sL _ _ eF)),_,_,rfl,rfl,.inr ⟨false,congrArg (fun z=>[V.bl z]) (decide_eq_false (by omega)),L2,_,_,_,rfl,rfl,bC.of ah,rfl,?_⟩⟩
     exact k1 (by omega) F A1 _ ((s2.trans sm).trans sL) (hF.same sL) fA.con
   | false =>
    have two:2≤sizeLine:=Nat.le_of_lt (line 2 (by decide))
    have one:1≤sizeLine:=Nat.le_of_lt (line 1 (by decide))
    have eN:(Cd.con false cs).cN false=lR cs false:=by
     conv=>lhs;unfold Cd.cN
     rfl
    rw [eN] at k1 k2
    have QH:=uy.ok hg.2
    refine ⟨(Nat.zero_le _),fun l0 h0=>⟨(Nat.zero_le _),fun t0 ht0=>⟨one,fun l1 hl1=>⟨two,fun Lq BA=>?_⟩⟩⟩⟩
    have sa:=((new (o:=.lst []) h0).trans (new (o:=.tup []) ht0)).trans ((new (o:=.lst [V.ref t0]) hl1).trans (new (o:=.lst [V.ref l0,V.ref l1]) BA))
    have e0:upd (upd (upd (upd H l0 (.lst [])) t0 (.tup [])) l1 (.lst [V.ref t0])) Lq (.lst [V.ref l0,V.ref l1]) l0=some (.lst []):=new BA _ _ (new hl1 _ _ (new ht0 _ _ ah))
    have e1:upd (upd (upd (upd H l0 (.lst [])) t0 (.tup [])) l1 (.lst [V.ref t0])) Lq (.lst [V.ref l0,V.ref l1]) l1=some (.lst [V.ref t0]):=new BA _ _ ah
    have et:upd (upd (upd (upd H l0 (.lst [])) t0 (.tup [])) l1 (.lst [V.ref t0])) Lq (.lst [V.ref l0,V.ref l1]) t0=some (.tup []):=new BA _ _ (new hl1 _ _ ah)
    have eL:upd (upd (upd (upd H l0 (.lst [])) t0 (.tup [])) l1 (.lst [V.ref t0])) Lq (.lst [V.ref l0,V.ref l1]) Lq=some (.lst [V.ref l0,V.ref l1]):=ah
    generalize upd (upd (upd (upd H l0 (.lst [])) t0 (.tup [])) l1 (.lst [V.ref t0])) Lq (.lst [V.ref l0,V.ref l1])=Ha at sa e0 e1 et eL ⊢
    refine ⟨_,rfl,r,_,0,_,rfl,rfl,aX.of (sa _ _ er),yL _ _,rfl,.inr ⟨false,by decide +kernel,Lq,_,_,_,rfl,rfl,bC.of eL,rfl,?_⟩⟩
    refine ⟨_,rfl,_,rfl,r,_,rfl,aX.of (sa _ _ er),xj _ _,fun t yr=>?_⟩
    rw [DL]
    have s2:=sa.trans (new (o:=.tup us) yr)
    have L0:lG (upd Ha t (.tup us)) l0 []:=⟨_,new yr _ _ e0,.nil⟩
    refine ⟨t,rfl,⟨us,aX.of ah⟩,kU (xs:=us) (fun i σ H'=>∃ (k2 k3:Option V) (F:Addr) (A1:Cs),σ=[some (.ref r),some (.ref F),k2,k3]∧az (upd Ha t (.tup us)) H'∧lG H' F A1∧gC (cs.take i) false false A1∧A1.length≤128) ⟨none,none,_,_,rfl,az.refl _,L0,(by rw [List.take_zero];unfold gC;rfl),(by decide)⟩ ?_ ?_ ?_⟩
    ·rintro i σ H' _ ⟨U5,k3,F,A1,rfl,sm,hF,fA,lA⟩
     exact aX.of (sm _ _ ah)
    ·rintro i x σ H' hix ⟨U5,k3,F,A1,rfl,sm,hF,fA,lA⟩
     obtain ⟨c,fX,nY⟩:=bg pR hix
     have iz:=List.mem_of_getElem? fX
     have dd:c.dep≤n:=by
      have z:=eT iz
      omega
     have sA:=s2.trans sm
     have nm:=EI (o:=false) fX
     have np:=kK false (gS hfu.2 iz)
     have eA:=gC.len (wg i QH) fA
     have eA:A1.length=lR (cs.take i) false:=eA
     have lv1:=jg (i+1) cs
     rw [take_snoc fX,ia] at lv1
     have two':c.cN false≤lR cs false:=by
      omega
     refine ⟨_,rfl,x,c,xs,rfl,nY.aB (aD.of sA),dd,qO hg.2 iz,gS hfu.2 iz,by omega,fun h64 l B H2 sB hl ce=>?_,fun h64 H2 sB=>?_⟩
     rotate_left
     ·exact ⟨_,rfl,rfl,_,rfl,bG rfl (pQ (k2 (by omega) _ (sA.trans sB)))⟩
     have lB:=gD.len (kJ QH iz) ce
     obtain ⟨yF,eF,pF⟩:=hF.same sB
     obtain ⟨yl,el,pl⟩:=id hl
     have ly:=ak pF
     have lz:=ak pl
     have TF:=(sA.trans sB) _ _ er
     refine ⟨_,rfl,rfl,_,rfl,bf (fun z=>by cases z) ?_⟩
     refine ⟨_,rfl,F,_,rfl,.inl (bC.of eF),_,rfl,l,_,rfl,.inl (bC.of el),_,_,rfl,rfl,.inl ⟨by omega,by omega⟩,_,_,rfl,rfl,_,rfl,?_⟩
     by_cases hle:(yF.length:Int)*(yl.length:Int) > 64
     ·refine bG hle ⟨_,rfl,r,_,0,_,rfl,rfl,aX.of TF,yL _ _,rfl,_,rfl,bf (bx (s:=Au false) (by decide +kernel)) ?_⟩
      refine ⟨_,rfl,F,_,rfl,.inl (bC.of eF),_,rfl,l,_,rfl,.inl (bC.of el),_,_,rfl,rfl,_,_,rfl,rfl,_,rfl,?_⟩
      by_cases h3:A1.length+B.length≤128
      rotate_left
      ·exact bG (by omega) (k2 (by omega) _ (sA.trans sB))
      refine bf (by omega) ?_
      refine ⟨_,rfl,r,_,0,_,rfl,rfl,aX.of TF,yL _ _,rfl,_,rfl,bG rfl ?_⟩
      refine ⟨_,rfl,_,rfl,F,l,yF,yl,rfl,rfl,eF,el,Nat.le_of_lt (line _ (by omega)),fun y hy=>?_⟩
      refine ⟨_,_,y,A1++B,rfl,(sm.trans sB).trans (new hy),⟨yF++yl,ah,cT (L2.Paired.cF pF fun _ _ z=>z.aB (aD.of (new hy))) (L2.Paired.cF pl fun _ _ z=>z.aB (aD.of (new hy)))⟩,?_,by rw [List.length_append];exact h3⟩
      rw [take_snoc fX]
      exact gC.snoc ce fA
     ·refine bf hle (zN ?_)
      refine ⟨_,rfl,F,_,rfl,.inl (bC.of eF),_,rfl,l,_,rfl,.inl (bC.of el),_,_,rfl,rfl,_,_,rfl,rfl,_,rfl,?_⟩
      by_cases h3:A1.length+B.length≤128
      rotate_left
      ·exact bG (by omega) (k2 (by omega) _ (sA.trans sB))
      refine bf (by omega) ?_
      refine ⟨_,rfl,r,_,0,_,rfl,rfl,aX.of TF,yL _ _,rfl,_,rfl,bG rfl ?_⟩
      refine ⟨_,rfl,_,rfl,F,l,yF,yl,rfl,rfl,eF,el,Nat.le_of_lt (line _ (by omega)),fun y hy=>?_⟩
      refine ⟨_,_,y,A1++B,rfl,(sm.trans sB).trans (new hy),⟨yF++yl,ah,cT (L2.Paired.cF pF fun _ _ z=>z.aB (aD.of (new hy))) (L2.Paired.cF pl fun _ _ z=>z.aB (aD.of (new hy)))⟩,?_,by rw [List.length_append];exact h3⟩
      rw [take_snoc fX]
      exact gC.snoc ce fA
    ·rintro σ H' ⟨U5,k3,F,A1,rfl,sm,hF,fA,lA⟩
     rw [nW,List.take_length] at fA
     have eA:A1.length=lR cs false:=gC.len QH fA
     obtain ⟨yF,eF,pF⟩:=id hF
     have ly:=ak pF
     refine ⟨_,rfl,two,fun L2 hL2=>?_⟩
     have sL:=new (o:=.lst [V.ref F,V.fL]) hL2
     by_cases h64:A1.length≤64
     ·refine ⟨_,rfl,F,_,rfl,.inl (bC.of (sL _ _ eF)),_,_,rfl,rfl,.inr ⟨false,congrArg (fun z=>[V.bl z]) (decide_eq_false (by omega)),L2,_,_,_,rfl,rfl,bC.of ah,rfl,?_⟩⟩
      exact k1 (by omega) F A1 _ ((s2.trans sm).trans sL) (hF.same sL) fA.con
     ·refine ⟨_,rfl,F,_,rfl,.inl (bC.of (sL _ _ eF)),_,_,rfl,rfl,.inr ⟨true,congrArg (fun z=>[V.bl z]) (decide_eq_true (by omega)),L2,_,_,_,rfl,rfl,bC.of ah,rfl,?_⟩⟩
      exact k2 (by omega) _ ((s2.trans sm).trans sL)
abbrev CO:Stmt:=top 49
theorem dm:aL ["_law_one","_law_sums","_law_pairs","_law_number","_law_thing","_law_times"] ["_law_one","_law_sums"] (aq CO):=⟨rfl,rfl,rfl,by decide +kernel,rfl,by decide +kernel,by decide +kernel⟩
theorem QK {f:Addr} {fd:FuncData} {Z:Cz} {n:Nat} {TM W fT fW:Addr} {dN dI:List Value} (F:dO K "_law_put_in" "_law_put_in" CO f fd) (T:Txt K mg Z.s) (U:gH K mg Z) (XT:dJ K mg TM W fT fW dN dI) (pW:Dn P w K mg base 1 "_law_gathered" ["_law_pairs","_law_number"] za):bF P w K mg base fh 3 f fd ["_law_one","_law_sums"] AD:=by
 obtain ⟨Dy,BD,p6,mP,mT,pZ⟩:=pW
 refine F.ok dm (fun vs H Q E h=>?_) (fun cdv A outer s H vs Q E hr h=>?_)
 ·obtain ⟨p,d,ts,n,kvs,S,rfl,U,rd,rl,h3,hts,hf,k⟩:=h
  rfl
 ·obtain ⟨p,d,ts,n,kvs,S,rfl,U,rd,rl,h3,hts,hf,k⟩:=h
  have hu:=bD hr
  rw [show ay CO=[_,_,_,_] from rfl]
  refine ⟨_,(ao (aT (i:=2) dm.nd rfl (Or.inl rfl) (bh ai))
   (ao (aT (i:=3) dm.nd rfl (Or.inl rfl) (aF aK (pv 0) aj (fun _ _=>rfl)))
   (ao (eX PassesOwn.never rfl (dD (aF aK (pv 0) aj (fun _ _=>rfl))) (rV rfl (cH (aQ (i:=4) dm.nd rfl (Or.inl rfl)) (cH (aQ (i:=5) dm.nd rfl (Or.inr rfl)) iM))) (ao (aT (i:=2) dm.nd rfl (Or.inl rfl) (aZ fS (pv 2) (bZ (br ["_law_inner","_law_many"] ["_law_times"] [5] rfl (by decide +kernel) (by decide +kernel) (by with_unfolding_all rfl) (by exact ⟨rfl,trivial⟩) (by rfl) rfl (by rfl)) rfl (dD (aF aK (iO hu (pv 1) (pv 4) (fun _ _=>rfl)) aj (fun _ _=>rfl))) (fun _ _ _ _=>(uW (K:=K) (n:=2) rfl rfl (cH (aQ (i:=0) (show List.Nodup (["_law_inner","_law_many","_law_times"]:List Str) by decide +kernel) rfl (Or.inl rfl) (Or.inr rfl)) (cH (aQ (i:=1) (show List.Nodup (["_law_inner","_law_many","_law_times"]:List Str) by decide +kernel) rfl (Or.inl rfl) (Or.inr rfl)) iM)))) (fun _ _ _ _=>cA) (fun _ _ _ _=>(aG (aa (pv 0) (aa (aZ fR (pv 2) (pv 1)) ai)))))))
   (au (CS (i:=3) dm.nd rfl (Or.inl rfl) (aZ fR (pv 5) (aF aK (iO hu (pv 1) (pv 4) (fun _ _=>rfl)) aj (fun _ _=>rfl))) zP))))
   (au (aJ (aA p6 (hr.mono (by first | decide | omega)) rfl mP mT pZ .nil aE (aa (pv 2) (aa (pv 3) ai)))))))),?_⟩
  obtain ⟨t,hp,ht⟩:=id U
  have two:2≤sizeLine:=Nat.le_of_lt (line 2 (by decide))
  have lz:=line 1000 (by decide)
  have Yu:=h3.1
  refine ⟨(Nat.zero_le _),fun P0 hP0=>?_⟩
  have s1:az H (upd H P0 (.lst [])):=new hP0
  refine ⟨_,rfl,p,_,1,_,rfl,rfl,aX.of (s1 _ _ hp),rfl,?_⟩
  refine ⟨_,rfl,p,_,0,_,rfl,rfl,aX.of (s1 _ _ hp),rfl,t,rfl,E6 (ht.same s1) (fun i σ H'=>∃ (P:Addr) (m:Int) (qs:Ps) (a4 a5:Option V),σ=[some (.ref p),some (.ref d),some (.ref P),some (.int m),a4,a5]∧az H H'∧(∀ b xs,upd H P0 (.lst []) b=some (.tup xs)→H' b=some (.tup xs))∧H P=none∧Lp H' P qs∧(∀ f,bT qs f=bT (jS S (ts.take i)) f)∧qs.length≤20*i∧m=n+gE S (ts.take i)) ⟨P0,n,[],none,none,rfl,s1,fun _ _ e=>e,hP0,⟨[],ah,.nil⟩,fun _=>rfl,Nat.le_refl _,(by show n=n+0;omega)⟩ ?_ ?_ ?_⟩
  ·rintro i σ H' ⟨P,m,qs,a4,a5,rfl,sH,kt,nP,L,lq,ll,em⟩
   exact kt
  ·rintro i v pr σ H' hi ⟨c,rfl,hc⟩ ⟨P,m,qs,a4,a5,rfl,sH,kt,nP,L,lq,ll,em⟩
   have hil:i < ts.length:=(List.getElem?_eq_some_iff.mp hi).1
   have hsm:=(h3.2 pr (List.mem_of_getElem? hi)).w
   have Xm:Rd H' d (.dK kvs):=rd.elim (fun z=>.inl (sH _ _ z)) fun ⟨o,z⟩=>.inr ⟨o,sH _ _ z⟩
   have Xl:Rl (LY H') kvs S:=rl.mono fun u q z=>cD.same z sH
   obtain ⟨vs,eP,rP⟩:=id L
   have vl:=bY rP
   refine ⟨c,_,rfl,aX.of hc,rfl,_,_,rfl,_,_,rfl,rfl,?_⟩
   cases lk:look S pr.1 with
   | none =>
    obtain ⟨q0,e0⟩:=sE (hts pr (List.mem_of_getElem? hi))
    rw [e0] at lk
    cases lk
   | some sq =>
    obtain ⟨u,eu,Du⟩:=Xl.some lk
    have Du:cD H' u sq.1 sq.2:=Du
    have sl:sq.1.length≤20:=hf _ (qI lk)
    obtain ⟨tu,Mc,htu⟩:=id Du
    have dg:∀ {J:Hp},az H' J→nZ J d (.str pr.1) (some (.ref u)):=fun sJ=>.inl ⟨kvs,Sum.inr pr.1,Xm.elim (fun z=>.inl (sJ _ _ z)) (fun ⟨o,z⟩=>.inr ⟨o,sJ _ _ z⟩),rfl,eu.symm⟩
    refine ⟨_,rfl,_,rfl,_,rfl,d,_,rfl,dg (az.refl _),u,_,0,_,rfl,rfl,aX.of Mc,rfl,tu,rfl,vg htu (fun j ys J=>az H' J∧xX J ys ((sq.1.take j).map fun x=>(x.1,pr.2*x.2))) ⟨az.refl _,.nil⟩ (fun j ys J q=>Kp.of q.1) ?_ ?_⟩
    ·rintro j v' pj ys J hj ⟨cj,rfl,Rm⟩ ⟨sJ,pJ⟩
     refine ⟨cj,_,rfl,aX.of Rm,rfl,_,_,rfl,_,_,rfl,rfl,Ext.two,iH ⟨_,rfl,_,rfl,_,rfl,_,_,rfl,rfl,.inl hsm,two,fun q hq=>⟨?_,az.new sJ hq,?_⟩⟩⟩
     ·rw [bY pJ,List.length_map,List.length_take]
      omega
     ·rw [take_snoc hj,List.map_append]
      exact fm (pJ.keep fun _ _ z=>new hq _ _ z) (fP ⟨q,rfl,ah⟩)
    ·rintro ys J ⟨sJ,pJ⟩ q hq
     rw [List.take_length] at pJ
     have s2:az H' (upd J q (.lst ys)):=az.new sJ hq
     have TL:=s2 _ _ eP
     have yl:=bY pJ
     rw [List.length_map] at yl
     refine ⟨P,q,_,_,rfl,rfl,TL,ah,(by omega),fun P2 hP2=>?_⟩
     have s3:az H' (upd (upd J q (.lst ys)) P2 (.lst (vs++ys))):=az.new s2 hP2
     refine ⟨_,rfl,_,rfl,_,rfl,_,rfl,d,_,rfl,dg s3,u,_,1,_,rfl,rfl,aX.of (s3 _ _ Mc),rfl,_,_,rfl,rfl,.inl hsm,_,_,rfl,rfl,?_⟩
     refine ⟨P2,m+pr.2*sq.2,qs++(sq.1.map fun x=>(x.1,pr.2*x.2)),_,_,rfl,sH.trans s3,fun b' xs e=>s3 _ _ (kt _ _ e),(sH.trans s2).free hP2,⟨_,ah,fm (rP.keep fun _ _ z=>s3 _ _ z) (pJ.keep fun _ _ z=>new hP2 _ _ (new hq _ _ z))⟩,fun f=>?_,?_,?_⟩
     ·have e:rE S pr=sq.1.map fun x=>(x.1,pr.2*x.2):=by unfold rE;rw [lk]
      rw [take_snoc hi,rD,cI,cI,lq,e]
     ·rw [List.length_append,List.length_map];omega
     ·have e:vv S pr=pr.2*sq.2:=by unfold vv;rw [lk]
      rw [take_snoc hi,rF,e,em];omega
  ·rintro σ H' ⟨P,m,qs,a4,a5,rfl,sH,kt,nP,L,lq,ll,em⟩
   rw [List.take_length] at lq em
   refine ⟨_,rfl,_,rfl,P,m,qs,rfl,.inl L,by omega,fun r us H2 sm g l Dr=>?_⟩
   refine k r us H2 (sH.trans sm) ⟨g.1,fun f=>by rw [g.2,lq]⟩ ?_
   rw [← em]
   exact Dr
abbrev tW:Stmt:=top 50
theorem qm:aL ["_law_told_here","_law_sums"] ["_law_told_here","_law_sums"] (aq tW):=⟨rfl,rfl,rfl,by decide +kernel,rfl,by decide +kernel,by decide +kernel⟩
theorem M3 {f:Addr} {fd:FuncData} {Z:Cz} {n:Nat} {TM W fT fW:Addr} {dN dI:List Value} (F:dO K "_law_all_put_in" "_law_all_put_in" tW f fd) (T:Txt K mg Z.s) (U:gH K mg Z) (XT:dJ K mg TM W fT fW dN dI) (BK:Dn P w K mg base 3 "_law_put_in" ["_law_one","_law_sums"] AD) (DG:Dn P w K mg base (n+3) "_law_all_put_in" ["_law_told_here","_law_sums"] (rJ n)):bF P w K mg base fh (n+4) f fd ["_law_told_here","_law_sums"] (rJ (n+1)):=by
 obtain ⟨VB,RK,q9,nH,nJ,qV⟩:=BK
 obtain ⟨RM,NR,iR,gY,gZ,iP⟩:=DG
 refine F.ok qm (fun vs H Q E h=>?_) (fun cdv A outer s H vs Q E hr h=>?_)
 ·obtain ⟨v,d,c,xs,kvs,S,rfl,ht,hd,hg,hin,rd,rl,hf,k⟩:=h
  rfl
 ·obtain ⟨v,d,c,xs,kvs,S,rfl,ht,hd,hg,hin,rd,rl,hf,k⟩:=h
  have hu:=bD hr
  rw [show ay tW=[_,_] from rfl]
  refine ⟨_,(ao (bR (aO bW (aF aK (pv 0) aj (fun _ _=>rfl)) aP (aV _)) (au (aJ (aG (aa (aF aK (pv 0) aj (fun _ _=>rfl)) (aa (aA q9 (hr.mono (by first | decide | omega)) rfl nH nJ qV .nil aE (aa (aF aK (pv 0) aj (fun _ _=>rfl)) (aa (pv 1) ai))) (aa (aF aK (pv 0) aj (fun _ _=>rfl)) (aa (aA q9 (hr.mono (by first | decide | omega)) rfl nH nJ qV .nil aE (aa (aF aK (pv 0) aj (fun _ _=>rfl)) (aa (pv 1) ai))) ai))))))) bE)
   (au (aJ (aZ nF (aG (aa (aF aK (pv 0) aj (fun _ _=>rfl)) ai)) (bB bN (by rfl) T.tuple boot_tuple (aa (bZ (br ["_law_one"] ["_law_sums"] [1] rfl (by decide +kernel) (by decide +kernel) (by with_unfolding_all rfl) (by exact ⟨rfl,trivial⟩) (by rfl) rfl (by rfl)) rfl (dD (jd zf (pv 0) (kE aj) kF)) (fun _ _ _ _=>(aQ (i:=0) (show List.Nodup (["_law_one","_law_sums"]:List Str) by decide +kernel) rfl (Or.inl rfl) (Or.inr rfl))) (fun _ _ _ _=>cA) (fun _ _ _ _=>(aA iR (hr.mono (by first | decide | omega)) rfl gY gZ iP .nil aE (aa (pv 0) (aa (pv 1) ai))))) ai)))))),?_⟩
  cases c with
  | cmp a i s b m =>
   unfold aW at ht
   unfold Ge at hg
   unfold cL at hin
   obtain ⟨r,u,w,rfl,er,D1,D2⟩:=ht
   refine ⟨_,rfl,r,_,0,_,rfl,rfl,aX.of er,rfl,rfl,_,rfl,bG rfl ?_⟩
   refine ⟨_,rfl,r,_,0,_,rfl,rfl,aX.of er,rfl,?_⟩
   refine ⟨_,rfl,r,_,1,_,rfl,rfl,aX.of er,rfl,_,rfl,u,d,a,i,kvs,S,rfl,D1,rd,rl,hg.1.2.1,hin.1,hf,fun r1 P7 H1 s1 g1 E1=>?_⟩
   refine ⟨_,rfl,r,_,2,_,rfl,rfl,aX.of (s1 _ _ er),rfl,?_⟩
   refine ⟨_,rfl,r,_,3,_,rfl,rfl,aX.of (s1 _ _ er),rfl,_,rfl,w,d,b,m,kvs,S,rfl,D2.same s1,Rd.same rd s1,rl.mono (fun u q z=>cD.same z s1),hg.2.2.2.1,hin.2,hf,fun r2 Ua H2 s2 g2 E2=>?_⟩
   refine ⟨Nat.le_of_lt (line 4 (by decide)),fun r' hr'=>?_⟩
   refine k (.ref r') (.cmp P7 (i+gE S a) s Ua (m+gE S b)) _ ((s1.trans s2).trans (new hr')) (by unfold Pt;exact ⟨P7,Ua,rfl,g1,g2⟩) ?_
   unfold aW
   exact ⟨r',r1,r2,rfl,ah,(E1.same s2).same (new hr'),E2.same (new hr')⟩
  | neg c0 =>
   unfold aW at ht
   unfold Ge at hg
   unfold cL at hin
   obtain ⟨r,u,rfl,er,ht⟩:=ht
   have pR:Paired (fun u c=>aW H c u) [u] [c0]:=.cons ht .nil
   have nW:[u].length=[c0].length:=rfl
   have gl:jr xs [c0]:=by unfold jr;exact ⟨hg,by unfold jr;trivial⟩
   have hil:cJ (kP S) [c0]:=by unfold cJ;exact ⟨hin,by unfold cJ;trivial⟩
   have U0:[c0].length≤3:=by show 1≤3;decide
   have hd:ji [c0]+1≤n+1:=by
    have z:ji [c0]=c0.dep:=by show max c0.dep (ji [])=c0.dep;show max c0.dep 0=c0.dep;omega
    unfold Cd.dep at hd
    omega
   refine ⟨_,rfl,r,_,0,_,rfl,rfl,aX.of er,yL _ _,rfl,_,rfl,bf (bx (s:="not") (by decide +kernel)) ?_⟩
   refine ⟨_,rfl,r,_,0,_,rfl,rfl,aX.of er,yL _ _,Nat.le_of_lt (line 1 (by decide)),fun r1 hr1=>?_⟩
   have s0:=new (o:=.tup [V.str ("not")]) hr1
   refine ⟨_,rfl,_,rfl,r,_,rfl,aX.of (s0 _ _ er),xj _ _,fun t yr=>?_⟩
   rw [DL]
   have s1:=s0.trans (new (o:=.tup [u]) yr)
   refine ⟨t,rfl,⟨[u],aX.of ah⟩,cU (xs:=[u]) (fun i ys H'=>az (upd (upd H r1 (.tup [V.str ("not")])) t (.tup [u])) H'∧∃ ds,nc S ([c0].take i) ds∧bV H' ds ys) ⟨fun _ _ z=>z,[],(by unfold nc;rfl),(by unfold bV;rfl)⟩ (fun i ys H' _ q=>aX.of (q.1 _ _ ah)) ?_ ?_⟩
   ·rintro i x ys H' hix ⟨sm,ds,hp,hc⟩
    obtain ⟨c,fX,nY⟩:=bg pR hix
    have O9:=(List.getElem?_eq_some_iff.mp fX).1
    have iz:=List.mem_of_getElem? fX
    have dd:c.dep≤n:=by
     have z:=eT iz
     omega
    have rm:ys.length≤i:=by
     have z:=ak (aN.mp hc)
     have z2:=ak (bH.mp hp)
     rw [List.length_take] at z2
     omega
    have sA:=s1.trans sm
    refine ⟨Ext.one,iH ⟨_,rfl,_,rfl,x,d,c,xs,kvs,S,rfl,nY.aB (aD.of sA),dd,ve gl iz,tD hil iz,Rd.same rd sA,rl.mono (fun u q z=>cD.same z sA),hf,fun v' c' H1 iJ hp1 hv=>⟨line _ (by omega),sm.trans iJ,ds++[c'],?_,?_⟩⟩⟩
    ·rw [take_snoc fX]
     exact bH.mpr (aH (bH.mp hp) hp1)
    ·exact aN.mpr (aH (aN.mp (hc.aB (aD.of iJ))) hv)
   rintro ys H' ⟨sm,ds,hp,hc⟩ q hq
   rw [nW,List.take_length] at hp
   have rm:ys.length=[c0].length:=by
    have z:=ak (aN.mp hc)
    have z2:=ak (bH.mp hp)
    omega
   refine ⟨q,_,rfl,.inl ⟨bC.of ah,fun r2 hr2=>?_⟩⟩
   have s3:az H' (upd (upd H' q (.lst ys)) r2 (.tup ys)):=az.new (new hq) hr2
   have e1:H' r1=some (.tup [V.str ("not")]):=sm _ _ (new yr _ _ ah)
   refine ⟨r1,r2,_,_,rfl,rfl,aX.of (s3 _ _ e1),aX.of ah,(by show 1+ys.length≤sizeLine;exact Nat.le_of_lt (line _ (by omega))),?_,?_,?_⟩
   ·intro z;cases z
   ·intro _ z
    subst z
    exact absurd (show (0:Nat)=1 from rm) (by decide)
   ·intro _ _ r' hr'
    obtain ⟨c',rr,rfl,hp1,hp2⟩:=(by unfold nc at hp;exact hp:∃ d' r',ds=d'::r'∧Pt S c0 d'∧nc S [] r')
    have hrr:rr=[]:=by unfold nc at hp2;exact hp2
    subst hrr
    have hcc:=hc.aB (aD.of s3)
    have hcc:=hcc.aB (aD.of (new (o:=.tup ([V.str "not"]++ys)) hr'))
    unfold bV at hcc
    obtain ⟨u1,r3,rfl,ha,hb⟩:=hcc
    unfold bV at hb
    subst hb
    refine k (.ref r') (.neg c') _ (((s1.trans sm).trans s3).trans (new hr')) (by unfold Pt;exact ⟨c',rfl,hp1⟩) ?_
    unfold aW
    exact ⟨r',u1,rfl,ah,ha⟩
  | con b cs =>
   unfold aW at ht
   unfold Ge at hg
   unfold cL at hin
   obtain ⟨r,us,rfl,er,ht⟩:=ht
   have pR:=aN.mp ht
   have nW:us.length=cs.length:=ak pR
   have U0:=hg.1
   have hil:=hin
   have gl:=hg.2
   have hd:ji cs+1≤n+1:=by unfold Cd.dep at hd;exact hd
   refine ⟨_,rfl,r,_,0,_,rfl,rfl,aX.of er,yL _ _,rfl,_,rfl,bf (bx (s:=Au b) (by cases b <;> decide +kernel)) ?_⟩
   refine ⟨_,rfl,r,_,0,_,rfl,rfl,aX.of er,yL _ _,Nat.le_of_lt (line 1 (by decide)),fun r1 hr1=>?_⟩
   have s0:=new (o:=.tup [V.str (Au b)]) hr1
   refine ⟨_,rfl,_,rfl,r,_,rfl,aX.of (s0 _ _ er),xj _ _,fun t yr=>?_⟩
   rw [DL]
   have s1:=s0.trans (new (o:=.tup us) yr)
   refine ⟨t,rfl,⟨us,aX.of ah⟩,cU (xs:=us) (fun i ys H'=>az (upd (upd H r1 (.tup [V.str (Au b)])) t (.tup us)) H'∧∃ ds,nc S (cs.take i) ds∧bV H' ds ys) ⟨fun _ _ z=>z,[],(by unfold nc;rfl),(by unfold bV;rfl)⟩ (fun i ys H' _ q=>aX.of (q.1 _ _ ah)) ?_ ?_⟩
   ·rintro i x ys H' hix ⟨sm,ds,hp,hc⟩
    obtain ⟨c,fX,nY⟩:=bg pR hix
    have O9:=(List.getElem?_eq_some_iff.mp fX).1
    have iz:=List.mem_of_getElem? fX
    have dd:c.dep≤n:=by
     have z:=eT iz
     omega
    have rm:ys.length≤i:=by
     have z:=ak (aN.mp hc)
     have z2:=ak (bH.mp hp)
     rw [List.length_take] at z2
     omega
    have sA:=s1.trans sm
    refine ⟨Ext.one,iH ⟨_,rfl,_,rfl,x,d,c,xs,kvs,S,rfl,nY.aB (aD.of sA),dd,ve gl iz,tD hil iz,Rd.same rd sA,rl.mono (fun u q z=>cD.same z sA),hf,fun v' c' H1 iJ hp1 hv=>⟨line _ (by omega),sm.trans iJ,ds++[c'],?_,?_⟩⟩⟩
    ·rw [take_snoc fX]
     exact bH.mpr (aH (bH.mp hp) hp1)
    ·exact aN.mpr (aH (aN.mp (hc.aB (aD.of iJ))) hv)
   rintro ys H' ⟨sm,ds,hp,hc⟩ q hq
   rw [nW,List.take_length] at hp
   have rm:ys.length=cs.length:=by
    have z:=ak (aN.mp hc)
    have z2:=ak (bH.mp hp)
    omega
   refine ⟨q,_,rfl,.inl ⟨bC.of ah,fun r2 hr2=>?_⟩⟩
   have s3:az H' (upd (upd H' q (.lst ys)) r2 (.tup ys)):=az.new (new hq) hr2
   have e1:H' r1=some (.tup [V.str (Au b)]):=sm _ _ (new yr _ _ ah)
   refine ⟨r1,r2,_,_,rfl,rfl,aX.of (s3 _ _ e1),aX.of ah,(by show 1+ys.length≤sizeLine;exact Nat.le_of_lt (line _ (by omega))),?_,?_,?_⟩
   ·intro z;cases z
   ·intro _ z
    subst z
    refine k (.ref r1) (.con b ds) _ ((s1.trans sm).trans s3) (by unfold Pt;exact ⟨ds,rfl,hp⟩) ?_
    unfold aW
    exact ⟨r1,[],rfl,s3 _ _ e1,hc.aB (aD.of s3)⟩
   ·intro _ _ r' hr'
    refine k (.ref r') (.con b ds) _ (((s1.trans sm).trans s3).trans (new hr')) (by unfold Pt;exact ⟨ds,rfl,hp⟩) ?_
    unfold aW
    exact ⟨r',ys,rfl,ah,(hc.aB (aD.of s3)).aB (aD.of (new hr'))⟩
abbrev vK:Stmt:=top 55
theorem vH:aL ["_law_case"] ["_law_case"] (aq vK):=⟨rfl,rfl,rfl,by decide +kernel,rfl,by decide +kernel,by decide +kernel⟩
theorem MV {f:Addr} {fd:FuncData} {Z:Cz} {n:Nat} {TM W fT fW:Addr} {dN dI:List Value} (F:dO K "_law_trimmed" "_law_trimmed" vK f fd) (T:Txt K mg Z.s) (U:gH K mg Z) (XT:dJ K mg TM W fT fW dN dI) :bF P w K mg base fh 1 f fd ["_law_case"] CG:=by
 refine F.ok vH (fun vs H Q E h=>?_) (fun cdv A outer s H vs Q E hr h=>?_)
 ·obtain ⟨v,kk,rfl,hv,hl,k1,k2⟩:=h
  rfl
 ·obtain ⟨v,kk,rfl,hv,hl,k1,k2⟩:=h
  have hu:=bD hr
  rw [show ay vK=[_,_] from rfl]
  refine ⟨_,(ao (bR (aO (v9 (uN hr)) (bZ (br ["_law_terms","_law_number"] [] [] rfl (by decide +kernel) (by decide +kernel) (by with_unfolding_all rfl) (by exact trivial) (by rfl) rfl (by rfl)) rfl (dD (pv 0)) (fun _ _ _ _=>(uW (K:=K) (n:=2) rfl rfl (cH (aQ (i:=0) (show List.Nodup (["_law_terms","_law_number"]:List Str) by decide +kernel) rfl (Or.inl rfl) (Or.inr rfl)) (cH (aQ (i:=1) (show List.Nodup (["_law_terms","_law_number"]:List Str) by decide +kernel) rfl (Or.inl rfl) (Or.inr rfl)) iM)))) (fun _ _ _ _=>(kC (PW.pt (vX (aO (FH (K:=K) rfl (uN hr)) (pv 0) (aG ai) (aV _)) (qw (aO yh (pv 1) aj (aV _))))))) (fun _ _ _ _=>aj)) (bh ai) (aV _)) (au (aJ jJ)) bE)
   (au (aJ (bB bN (by rfl) T.tuple boot_tuple (aa (bZ (br ["_law_one"] [] [] rfl (by decide +kernel) (by decide +kernel) (by with_unfolding_all rfl) (by exact trivial) (by rfl) rfl (by rfl)) rfl (dD (pv 0)) (fun _ _ _ _=>(aQ (i:=0) (show List.Nodup (["_law_one"]:List Str) by decide +kernel) rfl (Or.inl rfl) (Or.inr rfl))) (fun _ _ _ _=>(kC (aO (C0 (K:=K) rfl (uN hr)) (aF (NH (K:=K) rfl) (pv 0) aj (fun _ _=>rfl)) (aG ai) (aV _)))) (fun _ _ _ _=>(pv 0))) ai))))),?_⟩
  obtain ⟨t,us,rfl,et,pu⟩:=id hv
  have nW:=ak pu
  have nvf:∀ (q:Sm),(eG q=true↔q.1=[]∧q.2 < 0):=fun q=>by
   unfold eG
   rw [Bool.and_eq_true,List.isEmpty_iff]
   exact ⟨fun h=>⟨h.1,of_decide_eq_true h.2⟩,fun h=>⟨h.1,decide_eq_true h.2⟩⟩
  refine ⟨_,rfl,t,rfl,⟨us,aX.of et⟩,cU (xs:=us) (fun j ys H'=>az H H'∧ys=((kk.take j).filter eG).map fun _=>V.int 1) ⟨az.refl _,rfl⟩ (fun j ys H' _ q=>aX.of (q.1 _ _ et)) ?_ ?_⟩
  ·rintro j y ys H2 hj ⟨s2,rfl⟩
   obtain ⟨q,hq,pq,rfl,D⟩:=bg pu hj
   obtain ⟨tq,eq1,vs,Lr,pr⟩:=D.same s2
   have lv:=bY pr
   have jl:j < kk.length:=(List.getElem?_eq_some_iff.mp hq).1
   have lf:((kk.take j).filter eG).length≤(kk.take j).length:=List.length_filter_le _ _
   rw [List.length_take] at lf
   have sn:(kk.take (j+1)).filter eG=(kk.take j).filter eG++(if eG q=true then [q] else []):=by
    rw [take_snoc hq,List.filter_append]
    congr 1
    cases h:eG q with
    | true=>rw [List.filter_cons_of_pos h];rfl
    | false=>rw [List.filter_cons_of_neg (by rw [h];decide)];rfl
   refine ⟨pq,_,rfl,aX.of eq1,rfl,_,_,rfl,_,_,rfl,rfl,Ext.two,?_⟩
   refine ⟨_,rfl,Nat.zero_le _,fun e0 uq=>?_⟩
   have s3:=new (o:=.tup []) uq
   refine ⟨tq,e0,vs,rfl,rfl,aX.of (s3 _ _ Lr),aX.of ah,_,rfl,?_⟩
   by_cases hz:vs=[]
   ·have hq1:q.1=[]:=by rw [hz] at lv;exact List.length_eq_zero_iff.mp lv.symm
    refine bG hz ?_
    refine ⟨_,rfl,_,_,rfl,rfl,_,rfl,?_⟩
    by_cases hn:q.2 < 0
    ·refine bG hn ⟨?_,s2.trans s3,?_⟩
     ·rw [List.length_map];exact line _ (by omega)
     ·rw [sn,if_pos ((nvf q).mpr ⟨hq1,hn⟩),List.map_append];rfl
    ·refine bf hn ⟨s2.trans s3,?_⟩
     rw [sn,if_neg (fun z=>hn ((nvf q).mp z).2),List.append_nil]
   ·refine bf hz ?_
    have hq1:¬ q.1=[]:=fun z=>hz (List.length_eq_zero_iff.mp (by rw [lv,z];rfl))
    refine rq rfl ⟨s2.trans s3,?_⟩
    rw [sn,if_neg (fun z=>hq1 ((nvf q).mp z).1),List.append_nil]
  rintro ys H2 ⟨s2,rfl⟩ x hx
  rw [nW,List.take_length]
  refine ⟨Nat.zero_le _,fun l' hl'=>?_⟩
  have s3:=(s2.trans (new (o:=.lst ((kk.filter eG).map fun _=>V.int 1)) hx)).trans (new (o:=.lst []) hl')
  refine ⟨x,l',_,rfl,rfl,bC.of (new hl' _ _ ah),bC.of ah,_,rfl,?_⟩
  have ef:(kk.filter eG=[]↔kk.any eG=false):=by
   rw [List.filter_eq_nil_iff,List.any_eq_false]
  cases hn:kk.any eG with
  | true =>
   refine KP ?_ (k2 hn _ s3)
   have:¬ kk.filter eG=[]:=fun z=>by rw [ef.mp z] at hn;cases hn
   rw [decide_eq_false (fun z=>this (List.map_eq_nil_iff.mp z))]
   rfl
  | false =>
   refine rq (by rw [decide_eq_true (List.map_eq_nil_iff.mpr (ef.mpr hn))];rfl) ?_
   generalize upd (upd H2 x (.lst ((kk.filter eG).map fun _=>V.int 1))) l' (.lst [])=H3 at s3 ⊢
   refine ⟨_,rfl,t,rfl,⟨us,aX.of (s3 _ _ et)⟩,cU (xs:=us) (fun j ys H'=>az H H'∧Paired (fun u (q:Ps×Int)=>∃ p,u=V.ref p∧cD H' p q.1 q.2) ys ((kk.take j).filter jc)) ⟨s3,.nil⟩ (fun j ys H' _ q=>aX.of (q.1 _ _ et)) ?_ ?_⟩
   ·rintro j y ys H4 hj ⟨s4,py⟩
    obtain ⟨q,hq,pq,rfl,D⟩:=bg pu hj
    have D4:=D.same s4
    obtain ⟨tq,eq1,vs,Lr,pr⟩:=id D4
    have lv:=bY pr
    have jl:j < kk.length:=(List.getElem?_eq_some_iff.mp hq).1
    have ly:=ak py
    have lf:((kk.take j).filter jc).length≤(kk.take j).length:=List.length_filter_le _ _
    rw [List.length_take] at lf
    refine ⟨Ext.one,_,rfl,pq,_,0,_,rfl,rfl,aX.of eq1,rfl,Nat.zero_le _,fun e0 uq=>?_⟩
    have s5:=new (o:=.tup []) uq
    refine ⟨tq,e0,vs,rfl,rfl,aX.of (s5 _ _ Lr),aX.of ah,_,rfl,?_⟩
    have py5:=L2.Paired.cF py fun _ _ (z:∃ p,_=V.ref p∧cD H4 p _ _)=>(let ⟨p0,e,d⟩:=z;⟨p0,e,d.same s5⟩:∃ p,_=V.ref p∧cD (upd H4 e0 (.tup [])) p _ _)
    obtain ⟨a0,n0⟩:=q
    cases a0 with
    | nil =>
     have hz:vs=[]:=List.length_eq_zero_iff.mp lv
     refine rq (by rw [decide_eq_true hz];rfl) ⟨s4.trans s5,?_⟩
     rw [take_snoc hq,List.filter_append]
     show Paired _ ys (List.filter jc (List.take j kk)++[])
     rw [List.append_nil]
     exact py5
    | cons z0 r0 =>
     have hz:¬ vs=[]:=fun z=>by rw [z] at lv;cases lv
     refine KP (by rw [decide_eq_false hz];rfl) ⟨_,rfl,line _ (by omega),s4.trans s5,?_⟩
     rw [take_snoc hq,List.filter_append]
     exact aH py5 ⟨pq,rfl,D4.same s5⟩
   rintro ys H4 ⟨s4,py⟩ q0 wQ
   rw [nW,List.take_length] at py
   refine ⟨q0,_,rfl,.inl ⟨bC.of ah,fun r hr'=>?_⟩⟩
   have s6:=(new (o:=.lst ys) wQ).trans (new (o:=.tup ys) hr')
   exact k1 hn (.ref r) _ (s4.trans s6) ⟨r,ys,rfl,ah,L2.Paired.cF py fun _ _ ⟨p0,e,d⟩=>⟨p0,e,d.same s6⟩⟩
abbrev CN:Stmt:=top 56
theorem n8:aL ["_law_draw","_law_known","_law_other"] ["_law_draw","_law_known"] (aq CN):=⟨rfl,rfl,rfl,by decide +kernel,rfl,by decide +kernel,by decide +kernel⟩
seal L2.PE L2.PS L2.Al L2.PA L2.PT in
theorem QI {f:Addr} {fd:FuncData} {Z:Cz} {n:Nat} {TM W fT fW:Addr} {dN dI:List Value} (F:dO K "_law_unlike" "_law_unlike" CN f fd) (T:Txt K mg Z.s) (U:gH K mg Z) (XT:dJ K mg TM W fT fW dN dI) (fY:Dn P w K mg base 2 "_law_next" ["_law_draw","_law_size"] jH) (pV:Dn P w K mg base 3 "_law_sum" ["_law_draw","_law_things"] rH):bF P w K mg base fh 5 f fd ["_law_draw","_law_known"] IJ:=by
 obtain ⟨sS,nM,cy,bK,bL,cu⟩:=fY
 obtain ⟨Lk,E7,xC,pK,pN,xw⟩:=pV
 refine F.ok n8 (fun vs H Q E h=>?_) (fun cdv A outer s H vs Q E hr h=>?_)
 ·obtain ⟨d,l,xs,rfl,hd,hl,x1,Td,zR,k⟩:=h
  rfl
 ·obtain ⟨d,l,xs,rfl,hd,hl,x1,Td,zR,k⟩:=h
  have hu:=bD hr
  rw [show ay CN=[_,_] from rfl]
  refine ⟨_,(ao (aT (i:=2) n8.nd rfl (Or.inl rfl) (aF bM (bh (aa (aA xC (hr.mono (by first | decide | omega)) rfl pK pN xw .nil aE (aa (pv 0) (aa (pv 1) ai bO) bO)) (aa (aG (aa (aG ai) (aa (aA cy (hr.mono (by first | decide | omega)) rfl bK bL cu .nil aE (aa (pv 0) (aa aj ai aU) bO)) ai jt) ck)) ai ck) jt)) (aZ zy (aA cy (hr.mono (by first | decide | omega)) rfl bK bL cu .nil aE (aa (pv 0) (aa aj ai aU) bO)) aj) zj)) (au (aJ (aG (aa aP (aa (aG (aa (aG (aa (aG (aa (aF bM (pv 1) aj fq) (aa aj ai aU) iV)) ai ck)) (aa (aA cy (hr.mono (by first | decide | omega)) rfl bK bL cu .nil aE (aa (pv 0) (aa aj ai aU) bO)) ai jt) ck)) (aa aP (aa (pv 2) ai bO) aU) ck) aU))))),?_⟩
  have yk:l≠d:=by
   obtain ⟨x,y,ed⟩:=hd
   refine mK hl ed fun z=>?_
   cases xs with
   | nil=>exact absurd x1 (by decide)
   | cons a b=>cases z
  obtain ⟨x0,xr,rfl⟩:∃ x0 xr,xs=x0::xr:=by
   cases xs with
   | nil=>exact absurd x1 (by decide)
   | cons a b=>exact ⟨a,b,rfl⟩
  refine ⟨_,rfl,_,rfl,d,l,x0::xr,rfl,hd,hl,by omega,zR,fun ra ts n0 H1 b1 d1 Da Ca La Ia Sa=>?_⟩
  refine ⟨Nat.zero_le _,fun e0 uq=>?_⟩
  have s1:=new (o:=.tup []) uq
  refine ⟨_,rfl,d,2,rfl,d1.same s1,(by decide),fun r1 H2 h1 b2 d2=>⟨(szl 2),fun t1 ht1=>⟨(szl 2),fun q hq=>?_⟩⟩⟩
  have s3:=(new (o:=.tup [V.ref e0,.int (r1:Int)]) ht1).trans (new (o:=.lst [V.ref ra,V.ref t1]) hq)
  have ne0:e0≠d:=d1.ne uq
  have ee:H2 e0=some (.tup []):=b2 _ _ ah ne0
  have D3:=d2.same s3
  have nqd:q≠d:=(d2.same (new ht1)).ne hq
  have eq3:(upd (upd H2 t1 (.tup [V.ref e0,.int (r1:Int)])) q (.lst [V.ref ra,V.ref t1])) q=some (.lst [V.ref ra,V.ref t1]):=ah
  have et3:(upd (upd H2 t1 (.tup [V.ref e0,.int (r1:Int)])) q (.lst [V.ref ra,V.ref t1])) t1=some (.tup [V.ref e0,.int (r1:Int)]):=new hq _ _ ah
  have ee3:=s3 _ _ ee
  have WX:bQ d H1 (upd (upd H2 t1 (.tup [V.ref e0,.int (r1:Int)])) q (.lst [V.ref ra,V.ref t1])):=((bQ.of s1).trans b2).trans (bQ.of s3)
  have Da3:=Da.aB (d1.soft WX)
  have F3:=b1.trans WX
  generalize upd (upd H2 t1 (.tup [V.ref e0,.int (r1:Int)])) q (.lst [V.ref ra,V.ref t1])=H3 at s3 D3 eq3 et3 ee3 WX Da3 F3 ⊢
  refine ⟨_,rfl,d,5,rfl,D3,(by decide),fun r2 H4 h2 b4 d4=>⟨_,_,rfl,rfl,⟨by decide,by decide⟩,?_⟩⟩
  have h34:=D3.soft b4
  obtain ⟨ro,to,no,hix,Do,Go⟩:∃ (ro:Addr) (to:Ps) (no:Int),xO [V.ref ra,V.ref t1] ((r2:Int) / 4)=some (.ref ro)∧cD H4 ro to no∧Gs (x0::xr) to no:=by
   by_cases h:r2=4
   ·refine ⟨t1,[],(r1:Int),by rw [h];rfl,⟨e0,h34.t _ _ et3,[],h34.t _ _ ee3,.nil⟩,Canon.nil,⟨by show 0≤3;decide,fun p hp=>nomatch hp⟩,(fun p hp=>nomatch hp),⟨by omega,by omega⟩⟩
   ·have e:(r2:Int) / 4=0:=by omega
    exact ⟨ra,ts,n0,by rw [e];rfl,Da3.aB h34,Ca,La,Ia,Sa⟩
  refine ⟨q,_,_,_,rfl,rfl,bC.of (b4 _ _ eq3 nqd),hix,?_⟩
  have F4:=F3.trans b4
  have el4:=F4 _ _ hl yk
  refine ⟨_,rfl,l,_,_,_,rfl,rfl,bC.of el4,fE (j:=0) (v:=V.str x0) rfl,(szl 2),fun q1 hq1=>⟨(Nat.le_of_lt (line 1 (by decide))),fun q2 hq2=>?_⟩⟩
  have s5:=(new (o:=.tup [V.str x0,.int 1]) hq1).trans (new (o:=.tup [V.ref q1]) hq2)
  have n1d:q1≠d:=d4.ne hq1
  have n2d:q2≠d:=(d4.same (new hq1)).ne hq2
  refine ⟨_,rfl,d,9,rfl,d4.same s5,(by decide),fun r3 H6 h3 b6 d6=>⟨(szl 2),fun q3 nX=>⟨_,rfl,(szl 4),fun r hr'=>?_⟩⟩⟩
  have s7:=(new (o:=.tup [V.ref q2,.int (r3:Int)]) nX).trans (new (o:=.tup [V.str "compare",.ref q3,.str "!=",.ref ro]) hr')
  have D6:=((Do.aB (aD.of s5)).aB ((d4.same s5).soft b6)).aB (aD.of s7)
  have G0:Gs (x0::xr) [(x0,1)] (r3:Int):=⟨⟨.cons (fun _ h=>nomatch h) .nil,fun p hp=>by rw [List.mem_singleton.mp hp];show (1:Int)≠0;decide⟩,⟨by show 1≤3;decide,fun p hp=>by rw [List.mem_singleton.mp hp];exact ⟨by show -(2 ^ 60) < (1:Int);decide,by show (1:Int) < 2 ^ 60;decide⟩⟩,(fun p hp=>by rw [List.mem_singleton.mp hp];exact List.mem_cons_self ..),⟨by omega,by omega⟩⟩
  refine k (.ref r) (.cmp [(x0,1)] (r3:Int) "!=" to no) _ (((F4.trans (bQ.of s5)).trans b6).trans (bQ.of s7)) (d6.same s7) ?_ (by unfold Cd.dep;decide) (by unfold Ge;exact ⟨G0,by decide +kernel,Go⟩) (by unfold Cd.full;trivial) (by unfold Cd.dW;decide)
  unfold aW
  exact ⟨r,q3,ro,rfl,ah,⟨q2,new hr' _ _ ah,[.ref q1],s7 _ _ (b6 _ _ (ah) n2d),fP ⟨q1,rfl,s7 _ _ (b6 _ _ (new hq2 _ _ ah) n1d)⟩⟩,D6⟩
abbrev oQ:Stmt:=top 57
theorem eV:aL ["_law_draw","_law_known","_law_some","_law_way","_law_rows","_law_alone"] ["_law_draw","_law_known"] (aq oQ):=⟨rfl,rfl,rfl,by decide +kernel,rfl,by decide +kernel,by decide +kernel⟩
seal L2.PE L2.PS L2.Al L2.PA L2.PT in
theorem JP {f:Addr} {fd:FuncData} {Z:Cz} {n:Nat} {TM W fT fW:Addr} {dN dI:List Value} (F:dO K "_law_planted" "_law_planted" oQ f fd) (T:Txt K mg Z.s) (U:gH K mg Z) (XT:dJ K mg TM W fT fW dN dI) (fY:Dn P w K mg base 2 "_law_next" ["_law_draw","_law_size"] jH) (VW:Dn P w K mg base 5 "_law_unlike" ["_law_draw","_law_known"] IJ):bF P w K mg base fh 6 f fd ["_law_draw","_law_known"] yV:=by
 obtain ⟨sS,nM,cy,bK,bL,cu⟩:=fY
 obtain ⟨b2J,a7a,LW,FW,Gf,LL⟩:=VW
 refine F.ok eV (fun vs H Q E h=>?_) (fun cdv A outer s H vs Q E hr h=>?_)
 ·obtain ⟨d,l,xs,rfl,hd,hl,x1,Td,zR,k⟩:=h
  rfl
 ·obtain ⟨d,l,xs,rfl,hd,hl,x1,Td,zR,k⟩:=h
  have hu:=bD hr
  rw [show ay oQ=[_,_,_,_,_,_,_,_,_] from rfl]
  refine ⟨_,(ao (aT (i:=2) eV.nd rfl (Or.inr rfl) (bZ (br ["_law_k"] ["_law_draw","_law_known"] [0,1] rfl (by decide +kernel) (by decide +kernel) (by with_unfolding_all rfl) (by exact ⟨rfl,rfl,trivial⟩) (by rfl) rfl (by rfl)) rfl (fz rfl T.range (aa aj ai aU)) (fun _ _ _ _=>(aQ (i:=0) (show List.Nodup (["_law_k","_law_draw","_law_known"]:List Str) by decide +kernel) rfl (Or.inl rfl) (Or.inr rfl))) (fun _ _ _ _=>cA) (fun _ _ _ _=>(aA LW (hr.mono (by first | decide | omega)) rfl FW Gf LL .nil aE (aa (pv 1) (aa (pv 2) ai bO) bO))))) (ao (aT (i:=3) eV.nd rfl (Or.inl rfl) (aA cy (hr.mono (by first | decide | omega)) rfl bK bL cu .nil aE (aa (pv 0) (aa aj ai aU) bO))) (ao (nD (i:=4) eV.nd rfl (Or.inl rfl) (br ["_law_k"] ["_law_some"] [2] rfl (by decide +kernel) (by decide +kernel) (by with_unfolding_all rfl) (by exact ⟨rfl,trivial⟩) (by rfl) rfl (by rfl)) rfl (fz rfl T.range (aa aj ai aU)) (fun _ _ _ _=>(aQ (i:=0) (show List.Nodup (["_law_k","_law_some"]:List Str) by decide +kernel) rfl (Or.inl rfl) (Or.inr rfl))) (fun _ _ _ _=>cA) (fun _ _ _ _=>(aG (aa aP (aa (aG (aa aP (aa (aF (Br (K:=K) rfl) (pv 1) (aZ fR aj (pv 0)) zj) (aa (aF (Br (K:=K) rfl) (pv 1) (aZ dQ (aZ fR aj (pv 0)) aj) zj) ai iV) iV) aU)) ai ck) aU)))) (ao (bR (aO bW (pv 3) aj (aV _)) (au (aJ (aZ fS (jd zg (pv 4) kF (kE aj)) (bh (aa (aG (aa aP (aa (aG (aa aP (aa (aF bM (pv 2) aj fq) (aa (aF bM (pv 2) aj fq) (aa (aF bM (pv 2) aj fq) ai iV) iV) iV) aU)) ai ck) aU)) ai ck))))) bE) (ao (bR (aO bW (pv 3) aj (aV _)) (au (aJ (aZ fS (pv 4) (bh (aa (aG (aa aP (aa (aG (aa aP (aa (aG (aa (aG (aa (aG (aa (aF bM (pv 1) aj fq) (aa aj ai aU) iV)) ai ck)) (aa aj ai aU) ck)) (aa aP (aa (aG (aa (aG ai) (aa aj ai aU) ck)) ai ck) aU) ck) aU)) ai ck) aU)) ai ck))))) bE) (ao (bR (aO bW (pv 3) aj (aV _)) (au (aJ (aZ fS (pv 4) (bh (aa (aG (aa aP (aa (aF bM (pv 2) aj fq) ai iV) aU)) ai ck))))) bE) (ao (bR (aO bW (pv 3) aj (aV _)) (au (aJ (aZ fS (jd zg (pv 4) kF (kE aj)) (bh (aa (aG (aa aP (aa (aZ nF (aG (aa aP ai aU)) (bB bN (by rfl) T.tuple boot_tuple (aa (bZ (br ["_law_k"] [] [] rfl (by decide +kernel) (by decide +kernel) (by with_unfolding_all rfl) (by exact trivial) (by rfl) rfl (by rfl)) rfl (fz rfl T.range (aa aj ai aU)) (fun _ _ _ _=>(aQ (i:=0) (show List.Nodup (["_law_k"]:List Str) by decide +kernel) rfl (Or.inl rfl) (Or.inr rfl))) (fun _ _ _ _=>cA) (fun _ _ _ _=>(aG (aa aP (aa (aG (aa (aG ai) (aa (pv 0) ai bO) ck)) (aa aP (aa (aG (aa (aG ai) (aa aj ai aU) ck)) ai ck) aU) ck) aU)))) ai))) ai CF) aU)) ai ck))))) bE) (ao (aT (i:=5) eV.nd rfl (Or.inl rfl) (aG (aa aP (aa (aG (aa (aG ai) (aa (aA cy (hr.mono (by first | decide | omega)) rfl bK bL cu .nil aE (aa (pv 0) (aa aj ai aU) bO)) ai jt) ck)) (aa aP (aa (aG (aa (aG ai) (aa aj ai aU) ck)) ai ck) aU) ck) aU))) (au (aJ (aZ fS (jd zg (pv 4) kF (kE aj)) (bh (aa (aG (aa aP (aa (pv 5) ai bO) aU)) (aa (aG (aa aP (aa (aG (aa aP (aa (aF bM (pv 2) aj fq) (aa (pv 5) ai bO) iV) aU)) ai ck) aU)) (aa (aG (aa aP (aa (aF bM (pv 2) aj fq) ai iV) aU)) ai ck) ck) ck))))))))))))),?_⟩
  have yk:l≠d:=by
   obtain ⟨x,y,ed⟩:=hd
   refine mK hl ed fun z=>?_
   cases xs with
   | nil=>exact absurd x1 (by decide)
   | cons a b=>cases z
  refine ⟨(7:Int),rfl,by decide,by decide,jj (n:=(7:Int).toNat) (fun i ys H'=>bQ d H H'∧Dr H' d∧∃ cs:List Cd,Paired (fun u c=>aW H' c u) ys cs∧cs.length=i∧∀ c∈cs,Ge xs c∧c.full∧c.dep≤1∧c.dW≤1) ⟨(fun _ _ z _=>z),hd,[],.nil,rfl,(fun c h=>nomatch h)⟩ ?_ ?_⟩
  ·rintro i ys H' hi ⟨F,D,cs,pc,lc,hg⟩
   have hi:i < 7:=hi
   have ly:=ak pc
   refine ⟨Ext.one,iH ⟨_,rfl,_,rfl,d,l,xs,rfl,D,F _ _ hl yk,x1,Td,zR,fun v c H5 b5 d5 ht Cg Vg hfu lQ=>⟨line _ (by omega),F.trans b5,d5,cs++[c],aH (L2.Paired.cF pc fun _ _ z=>z.aB (D.soft b5)) ht,by rw [List.length_append,lc];rfl,fun z hz=>?_⟩⟩⟩
   rcases List.mem_append.mp hz with z' | z'
   ·exact hg z z'
   ·rw [List.mem_singleton.mp z']
    exact ⟨Vg,hfu,Cg,lQ⟩
  rintro IA H1 ⟨F1,D1,cs7,pc1,lc1,hg⟩ sl hsl
  have s1:=new (o:=.lst IA) hsl
  have esl:(upd H1 sl (.lst IA)) sl=some (.lst IA):=ah
  have nsd:sl≠d:=D1.ne hsl
  have F2:=F1.new (o:=.lst IA) hsl
  have D2:=D1.same s1
  have pc2:=L2.Paired.cF pc1 fun _ _ (z:aW H1 _ _)=>z.aB (aD.of s1)
  generalize upd H1 sl (.lst IA)=H2 at s1 esl F2 D2 pc2 ⊢
  refine ⟨_,rfl,d,5,rfl,D2,(by decide),fun w0 H3 hw0 b3 d3=>?_⟩
  have F3:=F2.trans b3
  have NZ:=b3 _ _ esl nsd
  have CY:=L2.Paired.cF pc2 fun _ _ (z:aW H2 _ _)=>z.aB (D2.soft b3)
  have lc1:cs7.length=7:=lc1
  clear pc1 pc2 s1 esl
  obtain ⟨c0,c1,c2,c3,c4,c5,c6,rfl⟩:∃ c0 c1 c2 c3 c4 c5 c6,cs7=[c0,c1,c2,c3,c4,c5,c6]:=by
   match cs7,lc1 with
   | [c0,c1,c2,c3,c4,c5,c6],_=>exact ⟨c0,c1,c2,c3,c4,c5,c6,rfl⟩
  cases CY with | cons k0 CY =>
  cases CY with | cons k1 CY =>
  cases CY with | cons k2 CY =>
  cases CY with | cons k3 CY =>
  cases CY with | cons k4 CY =>
  cases CY with | cons k5 CY =>
  cases CY with | cons k6 CY =>
  cases CY
  rename_i u0 u1 u2 u3 u4 u5 u6
  have G:∀ c,c∈[c0,c1,c2,c3,c4,c5,c6]→Ge xs c∧c.full∧c.dep≤1∧c.dW≤1:=hg
  generalize Yt:[u0,u1,u2,u3,u4,u5,u6]=IA at NZ
  refine ⟨(3:Int),rfl,by decide,by decide,jj (n:=(3:Int).toNat) (fun i ys H'=>az H3 H'∧iK H' ys (([Cd.con false [c0,c1],.con false [c2,c3],.con false [c4,c5]].take i).map .hold)) ⟨az.refl _,.nil⟩ ?_ ?_⟩
  ·rintro i ys H' hi ⟨sm,py⟩
   have hi:i < 3:=hi
   have ly:=ak py
   rw [List.length_map,List.length_take] at ly
   obtain ⟨ca,cb,ua,ub,hA,hB,ka,kb,hR⟩:∃ ca cb ua ub,xO IA (2*(0+(i:Int)))=some ua∧xO IA (2*(0+(i:Int))+1)=some ub∧aW H3 ca ua∧aW H3 cb ub∧[Cd.con false [c0,c1],.con false [c2,c3],.con false [c4,c5]][i]?=some (.con false [ca,cb]):=by
    subst Yt
    have:i=0∨i=1∨i=2:=by omega
    rcases this with e | e | e <;> subst e
    ·exact ⟨c0,c1,u0,u1,rfl,rfl,k0,k1,rfl⟩
    ·exact ⟨c2,c3,u2,u3,rfl,rfl,k2,k3,rfl⟩
    ·exact ⟨c4,c5,u4,u5,rfl,rfl,k4,k5,rfl⟩
   refine ⟨Ext.one,iH ⟨_,rfl,_,rfl,_,_,rfl,rfl,.inl ⟨by decide,by decide⟩,sl,_,_,_,rfl,rfl,bC.of (sm _ _ NZ),hA,?_⟩⟩
   refine ⟨_,rfl,_,rfl,_,_,rfl,rfl,.inl ⟨by decide,by decide⟩,_,_,rfl,rfl,sl,_,_,_,rfl,rfl,bC.of (sm _ _ NZ),hB,(szl 3),fun t1 ht1=>⟨(szl 2),fun t2 um=>⟨line _ (by omega),?_⟩⟩⟩
   have s2:=(new (o:=.tup [V.str "or",ua,ub]) ht1).trans (new (o:=.tup [V.str "hold",.ref t1]) um)
   refine ⟨sm.trans s2,?_⟩
   rw [take_snoc hR,List.map_append]
   refine aH (aS py (aD.of s2)) ⟨t2,.ref t1,rfl,ah,?_⟩
   unfold aW
   refine ⟨t1,[ua,ub],rfl,new um _ _ ah,aN.mpr (.cons ((ka.aB (aD.of sm)).aB (aD.of s2)) (.cons ((kb.aB (aD.of sm)).aB (aD.of s2)) .nil))⟩
  rintro T8 H4 ⟨s4,py⟩ rl hrl
  have e3:([Cd.con false [c0,c1],.con false [c2,c3],.con false [c4,c5]].take (3:Int).toNat).map Rw.hold=[.hold (.con false [c0,c1]),.hold (.con false [c2,c3]),.hold (.con false [c4,c5])]:=rfl
  rw [e3] at py
  have s5:=s4.trans (new (o:=.lst T8) hrl)
  have R5:=aS py (aD.of (new (o:=.lst T8) hrl))
  have Tz:(upd H4 rl (.lst T8)) rl=some (.lst T8):=ah
  have frl:H rl=none:=F3.was d3 (s4.free hrl)
  generalize upd H4 rl (.lst T8)=H5 at s5 R5 Tz ⊢
  have F5:=F3.trans (bQ.of s5)
  have D5:=d3.same s5
  have Ls:=s5 _ _ NZ
  have Pa:=aD.of s5
  have k0:=k0.aB Pa
  have k1:=k1.aB Pa
  have k2:=k2.aB Pa
  have k3:=k3.aB Pa
  have k4:=k4.aB Pa
  have k5:=k5.aB Pa
  have k6:=k6.aB Pa
  clear s4 py e3 s5 Pa
  cases R5 with | cons g0 R5 =>
  cases R5 with | cons g1 R5 =>
  cases R5 with | cons g2 R5 =>
  cases R5
  rename_i v0 v1 v2
  have m0:∀ c∈[c0,c1],Ge xs c∧c.full∧c.dep≤1∧c.dW≤1:=fun c hc=>G c (by simp at hc ⊢;rcases hc with e | e <;> simp [e])
  have m1:∀ c∈[c2,c3],Ge xs c∧c.full∧c.dep≤1∧c.dW≤1:=fun c hc=>G c (by simp at hc ⊢;rcases hc with e | e <;> simp [e])
  have m2:∀ c∈[c4,c5],Ge xs c∧c.full∧c.dep≤1∧c.dW≤1:=fun c hc=>G c (by simp at hc ⊢;rcases hc with e | e <;> simp [e])
  have o0:=j6 (b:=false) m0 (by show 1≤2;decide) (by show 2≤8;decide)
  have o1:=j6 (b:=false) m1 (by show 1≤2;decide) (by show 2≤8;decide)
  have o2:=j6 (b:=false) m2 (by show 1≤2;decide) (by show 2≤8;decide)
  have A4:xO IA 4=some u4:=by rw [← Yt];rfl
  have A5:xO IA 5=some u5:=by rw [← Yt];rfl
  have A6:xO IA 6=some u6:=by rw [← Yt];rfl
  have VY:xV [v0,v1,v2] none (some 2)=[v0,v1]:=rfl
  have VZ:xV [v0,v1,v2] none (some 1)=[v0]:=rfl
  have fin:∀ (r:Addr) (us:List V) (cs:List Cd) (H6:Hp),bQ d H5 H6→Dr H6 d→H6 r=none→iK H6 us (cs.map .hold)→cs.length≤5→(∀ c∈cs,Ge xs c∧c.full∧c.dep≤3∧c.dW≤8)→Q (.ref r) (upd H6 r (.lst us)):=fun r us cs H6 b D6 hr0 hT hl5 hgd=>by
   have sr:=new (o:=.lst us) hr0
   exact k r us cs _ ((F5.trans b).trans (bQ.of sr)) (D6.same sr) ((F5.trans b).was D6 hr0) ah (aS hT (aD.of sr)) hl5 hgd
  have gn:∀ (n:Int),Small n→Gs xs [] n:=fun n h=>⟨Canon.nil,⟨by show 0≤3;decide,fun p hp=>nomatch hp⟩,(fun p hp=>nomatch hp),h⟩
  have Gy:∀ {H6:Hp} {q e:Addr} {n:Int},H6 q=some (.tup [.ref e,.int n])→H6 e=some (.tup [])→cD H6 q [] n:=fun h1 h2=>⟨_,h1,[],h2,.nil⟩
  clear k
  by_cases z0:w0=0
  ·refine ⟨_,rfl,rfl,_,rfl,bG (by rw [z0];rfl) ?_⟩
   refine ⟨_,rfl,_,rfl,rl,_,rfl,bC.of Tz,fun p1 hp1=>?_⟩
   rw [VY]
   have s6:=new (o:=.lst [v0,v1]) hp1
   refine ⟨_,rfl,sl,_,_,_,rfl,rfl,bC.of (s6 _ _ Ls),A4,?_⟩
   refine ⟨_,rfl,sl,_,_,_,rfl,rfl,bC.of (s6 _ _ Ls),A5,?_⟩
   refine ⟨_,rfl,sl,_,_,_,rfl,rfl,bC.of (s6 _ _ Ls),A6,(szl 4),fun t1 ht1=>⟨(szl 2),fun t2 um=>⟨(Nat.le_of_lt (line 1 (by decide))),fun q hq=>?_⟩⟩⟩
   have s7:=((new (o:=.tup [V.str "or",u4,u5,u6]) ht1).trans (new (o:=.tup [V.str "hold",.ref t1]) um)).trans (new (o:=.lst [V.ref t2]) hq)
   have sA:=s6.trans s7
   have hk:=aD.of sA
   refine ⟨p1,q,_,_,rfl,rfl,s7 _ _ ah,ah,(szl 3),fun r hr'=>?_⟩
   have m3:∀ c∈[c4,c5,c6],Ge xs c∧c.full∧c.dep≤1∧c.dW≤1:=fun c hc=>G c (by simp at hc ⊢;rcases hc with e | e | e <;> simp [e])
   refine fin r ([v0,v1]++[V.ref t2]) [.con false [c0,c1],.con false [c2,c3],.con false [c4,c5,c6]] _ (bQ.of sA) (D5.same sA) hr' (.cons (cK.aB hk (r:=.hold _) g0) (.cons (cK.aB hk (r:=.hold _) g1) (.cons ⟨t2,.ref t1,rfl,new hq _ _ ah,?_⟩ .nil))) (by show 3≤5;decide) fun c hc=>?_
   ·unfold aW
    exact ⟨t1,[u4,u5,u6],rfl,new hq _ _ (new um _ _ ah),aN.mpr (.cons (k4.aB hk) (.cons (k5.aB hk) (.cons (k6.aB hk) .nil)))⟩
   ·simp only [List.mem_cons,List.not_mem_nil,or_false] at hc
    rcases hc with e | e | e <;> subst e
    ·exact o0
    ·exact o1
    ·exact j6 m3 (by show 1≤3;decide) (by show 3≤8;decide)
  refine ⟨_,rfl,rfl,_,rfl,bf (fun z=>z0 (by have:=V.int.inj z;omega)) ?_⟩
  by_cases z1:w0=1
  ·refine ⟨_,rfl,rfl,_,rfl,bG (by rw [z1];rfl) ?_⟩
   obtain ⟨x0,hx0,hxm⟩:∃ x0,(xs.map V.str)[0]?=some (V.str x0)∧x0∈xs:=by
    cases xs with
    | nil=>exact absurd x1 (by decide)
    | cons a b=>exact ⟨a,rfl,List.mem_cons_self ..⟩
   have Zy:=F5 _ _ hl yk
   refine ⟨_,rfl,_,rfl,l,_,_,_,rfl,rfl,bC.of Zy,fE (j:=0) hx0,(szl 2),fun q1 hq1=>⟨(Nat.le_of_lt (line 1 (by decide))),fun q2 hq2=>⟨(szl 2),fun q3 nX=>⟨Nat.zero_le _,fun e0 uq=>⟨(szl 2),fun q4 Yw=>⟨(szl 4),fun t1 ht1=>⟨(szl 2),fun t2 um=>⟨(Nat.le_of_lt (line 1 (by decide))),fun q hq=>?_⟩⟩⟩⟩⟩⟩⟩⟩
   have y1:=new (o:=.tup [V.str x0,.int 1]) hq1
   have y2:=new (o:=.tup [V.ref q1]) hq2
   have y3:=new (o:=.tup [V.ref q2,.int 0]) nX
   have y4:=new (o:=.tup []) uq
   have y5:=new (o:=.tup [V.ref e0,.int 5]) Yw
   have y6:=new (o:=.tup [V.str "compare",.ref q3,.str "<",.ref q4]) ht1
   have y7:=new (o:=.tup [V.str "hold",.ref t1]) um
   have y8:=new (o:=.lst [V.ref t2]) hq
   have s7:=((((((y1.trans y2).trans y3).trans y4).trans y5).trans y6).trans y7).trans y8
   have hk:=aD.of s7
   refine ⟨rl,q,_,_,rfl,rfl,s7 _ _ Tz,ah,(szl 4),fun r hr'=>?_⟩
   have G0:Gs xs [(x0,1)] 0:=⟨⟨.cons (fun _ h=>nomatch h) .nil,fun p hp=>by rw [List.mem_singleton.mp hp];show (1:Int)≠0;decide⟩,⟨by show 1≤3;decide,fun p hp=>by rw [List.mem_singleton.mp hp];exact ⟨by show -(2 ^ 60) < (1:Int);decide,by show (1:Int) < 2 ^ 60;decide⟩⟩,(fun p hp=>by rw [List.mem_singleton.mp hp];exact hxm),⟨by decide,by decide⟩⟩
   refine fin r ([v0,v1,v2]++[V.ref t2]) [.con false [c0,c1],.con false [c2,c3],.con false [c4,c5],.cmp [(x0,1)] 0 "<" [] 5] _ (bQ.of s7) (D5.same s7) hr' (.cons (cK.aB hk (r:=.hold _) g0) (.cons (cK.aB hk (r:=.hold _) g1) (.cons (cK.aB hk (r:=.hold _) g2) (.cons ⟨t2,.ref t1,rfl,y8 _ _ ah,?_⟩ .nil)))) (by show 4≤5;decide) fun c hc=>?_
   ·unfold aW
    refine ⟨t1,q3,q4,rfl,y8 _ _ (y7 _ _ ah),⟨q2,y8 _ _ (y7 _ _ (y6 _ _ (y5 _ _ (y4 _ _ ah)))),[.ref q1],y8 _ _ (y7 _ _ (y6 _ _ (y5 _ _ (y4 _ _ (y3 _ _ ah))))),fP ⟨q1,rfl,y8 _ _ (y7 _ _ (y6 _ _ (y5 _ _ (y4 _ _ (y3 _ _ (y2 _ _ ah))))))⟩⟩,Gy (y8 _ _ (y7 _ _ (y6 _ _ ah))) (y8 _ _ (y7 _ _ (y6 _ _ (y5 _ _ ah))))⟩
   ·simp only [List.mem_cons,List.not_mem_nil,or_false] at hc
    rcases hc with e | e | e | e <;> subst e
    ·exact o0
    ·exact o1
    ·exact o2
    ·exact ⟨by unfold Ge;exact ⟨G0,by decide +kernel,gn 5 ⟨by decide,by decide⟩⟩,by unfold Cd.full;trivial,by unfold Cd.dep;decide,by unfold Cd.dW;decide⟩
  refine ⟨_,rfl,rfl,_,rfl,bf (fun z=>z1 (by have:=V.int.inj z;omega)) ?_⟩
  by_cases z2:w0=2
  ·refine ⟨_,rfl,rfl,_,rfl,bG (by rw [z2];rfl) ?_⟩
   refine ⟨_,rfl,_,rfl,sl,_,_,_,rfl,rfl,bC.of Ls,A6,(szl 2),fun t2 um=>⟨(Nat.le_of_lt (line 1 (by decide))),fun q hq=>?_⟩⟩
   have s7:=(new (o:=.tup [V.str "hold",u6]) um).trans (new (o:=.lst [V.ref t2]) hq)
   have hk:=aD.of s7
   refine ⟨rl,q,_,_,rfl,rfl,s7 _ _ Tz,ah,(szl 4),fun r hr'=>?_⟩
   refine fin r ([v0,v1,v2]++[V.ref t2]) [.con false [c0,c1],.con false [c2,c3],.con false [c4,c5],c6] _ (bQ.of s7) (D5.same s7) hr' (.cons (cK.aB hk (r:=.hold _) g0) (.cons (cK.aB hk (r:=.hold _) g1) (.cons (cK.aB hk (r:=.hold _) g2) (.cons ⟨t2,u6,rfl,new hq _ _ ah,k6.aB hk⟩ .nil)))) (by show 4≤5;decide) fun c hc=>?_
   simp only [List.mem_cons,List.not_mem_nil,or_false] at hc
   rcases hc with e | e | e | e <;> subst e
   ·exact o0
   ·exact o1
   ·exact o2
   ·exact we (G _ (by simp))
  refine ⟨_,rfl,rfl,_,rfl,bf (fun z=>z2 (by have:=V.int.inj z;omega)) ?_⟩
  by_cases z3:w0=3
  ·refine ⟨_,rfl,rfl,_,rfl,bG (by rw [z3];rfl) ?_⟩
   refine ⟨_,rfl,_,rfl,rl,_,rfl,bC.of Tz,fun p1 hp1=>?_⟩
   rw [VZ]
   have s6:=new (o:=.lst [v0]) hp1
   refine ⟨(Nat.le_of_lt (line 1 (by decide))),fun t0 ht0=>?_⟩
   have s7:=new (o:=.tup [V.str "and"]) ht0
   refine ⟨(7:Int),rfl,by decide,by decide,jj (n:=(7:Int).toNat) (fun i ys H'=>az (upd (upd H5 p1 (.lst [v0])) t0 (.tup [V.str "and"])) H'∧∃ cs:List Cd,Paired (fun u c=>aW H' c u) ys cs∧cs.length=i∧∀ c∈cs,Ge xs c∧c.full∧c.dep≤1∧c.dW≤1) ⟨az.refl _,[],.nil,rfl,(fun c h=>nomatch h)⟩ ?_ ?_⟩
   ·rintro i ys H' hi ⟨sm,cs,pc,lc,Vg⟩
    have hi:i < 7:=hi
    have ly:=ak pc
    refine ⟨Ext.one,iH ⟨Nat.zero_le _,fun e0 uq=>⟨_,rfl,(szl 2),fun q1 hq1=>⟨Nat.zero_le _,fun e1 Gp=>⟨(szl 2),fun q2 hq2=>⟨(szl 4),fun t ht=>⟨line _ (by omega),?_⟩⟩⟩⟩⟩⟩⟩
    have y1:=new (o:=.tup []) uq
    have y2:=new (o:=.tup [V.ref e0,.int (0+(i:Int))]) hq1
    have y3:=new (o:=.tup []) Gp
    have y4:=new (o:=.tup [V.ref e1,.int 3]) hq2
    have y5:=new (o:=.tup [V.str "compare",.ref q1,.str "!=",.ref q2]) ht
    have sy:=(((y1.trans y2).trans y3).trans y4).trans y5
    refine ⟨sm.trans sy,cs++[.cmp [] (0+(i:Int)) "!=" [] 3],aH (L2.Paired.cF pc fun _ _ z=>z.aB (aD.of sy)) ?_,by rw [List.length_append,lc];rfl,fun z hz=>?_⟩
    ·unfold aW
     exact ⟨t,q1,q2,rfl,ah,Gy (y5 _ _ (y4 _ _ (y3 _ _ ah))) (y5 _ _ (y4 _ _ (y3 _ _ (y2 _ _ ah)))),Gy (y5 _ _ ah) (y5 _ _ (y4 _ _ ah))⟩
    ·rcases List.mem_append.mp hz with z' | z'
     ·exact Vg z z'
     ·rw [List.mem_singleton.mp z']
      exact ⟨by unfold Ge;exact ⟨gn _ ⟨by omega,by omega⟩,by decide +kernel,gn 3 ⟨by decide,by decide⟩⟩,by unfold Cd.full;trivial,by unfold Cd.dep;decide,by unfold Cd.dW;decide⟩
   rintro ys H8 ⟨s8,cs,pc,lc,Vg⟩ q hq
   have lc:cs.length=7:=lc
   have ly:=ak pc
   refine ⟨q,_,rfl,.inl ⟨bC.of ah,fun tt htt=>?_⟩⟩
   have s9:=(new (o:=.lst ys) hq).trans (new (o:=.tup ys) htt)
   refine ⟨t0,tt,_,_,rfl,rfl,aX.of (s9 _ _ (s8 _ _ ah)),aX.of ah,(by show 1+ys.length≤sizeLine;exact Nat.le_of_lt (line _ (by omega))),?_,?_,?_⟩
   ·intro z;cases z
   ·intro _ z
    rw [z] at ly
    exact absurd (show 0=7 from ly.trans lc) (by decide)
   intro _ _ tc htc
   refine ⟨(szl 2),fun t2 um=>⟨(Nat.le_of_lt (line 1 (by decide))),fun q5 hq5=>?_⟩⟩
   have y1:=new (o:=.tup ([V.str "and"]++ys)) htc
   have y2:=new (o:=.tup [V.str "hold",.ref tc]) um
   have y3:=new (o:=.lst [V.ref t2]) hq5
   have sy:=(s9.trans y1).trans (y2.trans y3)
   have sB:=(s7.trans s8).trans sy
   have sA:=s6.trans sB
   have hk:=aD.of sA
   refine ⟨p1,q5,_,_,rfl,rfl,sB _ _ ah,ah,(szl 2),fun r hr'=>?_⟩
   refine fin r ([v0]++[V.ref t2]) [.con false [c0,c1],.con true cs] _ (bQ.of sA) (D5.same sA) hr' (.cons (cK.aB hk (r:=.hold _) g0) (.cons ⟨t2,.ref tc,rfl,y3 _ _ ah,?_⟩ .nil)) (by show 2≤5;decide) fun c hc=>?_
   ·unfold aW
    exact ⟨tc,ys,rfl,y3 _ _ (y2 _ _ ah),aN.mpr (L2.Paired.cF pc fun _ _ z=>z.aB (aD.of sy))⟩
   ·simp only [List.mem_cons,List.not_mem_nil,or_false] at hc
    rcases hc with e | e <;> subst e
    ·exact o0
    ·exact j6 Vg (by omega) (by omega)
  refine ⟨_,rfl,rfl,_,rfl,bf (fun z=>z3 (by have:=V.int.inj z;omega)) ?_⟩
  refine ⟨Nat.zero_le _,fun e0 uq=>?_⟩
  have y0:=new (o:=.tup []) uq
  have ne0:e0≠d:=D5.ne uq
  refine ⟨_,rfl,d,2,rfl,D5.same y0,(by decide),fun r4 H6 h4 b6 d6=>⟨(szl 2),fun q1 hq1=>⟨Nat.zero_le _,fun e1 Gp=>⟨(szl 2),fun q2 hq2=>⟨(szl 4),fun al hal=>?_⟩⟩⟩⟩⟩
  have y1:=new (o:=.tup [V.ref e0,.int (r4:Int)]) hq1
  have y2:=new (o:=.tup []) Gp
  have y3:=new (o:=.tup [V.ref e1,.int 0]) hq2
  have y4:=new (o:=.tup [V.str "compare",.ref q1,.str "!=",.ref q2]) hal
  have sy:=((y1.trans y2).trans y3).trans y4
  have b7:=((bQ.of y0).trans b6).trans (bQ.of sy)
  have D7:=d6.same sy
  have kal:aW (upd (upd (upd (upd H6 q1 (.tup [V.ref e0,.int (r4:Int)])) e1 (.tup [])) q2 (.tup [V.ref e1,.int 0])) al (.tup [V.str "compare",.ref q1,.str "!=",.ref q2])) (.cmp [] (r4:Int) "!=" [] 0) (.ref al):=by
   unfold aW
   exact ⟨al,q1,q2,rfl,ah,Gy (y4 _ _ (y3 _ _ (y2 _ _ ah))) (sy _ _ (b6 _ _ ah ne0)),Gy (y4 _ _ ah) (y4 _ _ (y3 _ _ ah))⟩
  have ga:Ge xs (.cmp [] (r4:Int) "!=" [] 0)∧(Cd.cmp [] (r4:Int) "!=" [] 0).full∧(Cd.cmp [] (r4:Int) "!=" [] 0).dep≤1∧(Cd.cmp [] (r4:Int) "!=" [] 0).dW≤1:=⟨by unfold Ge;exact ⟨gn _ ⟨by omega,by omega⟩,by decide +kernel,gn 0 ⟨by decide,by decide⟩⟩,by unfold Cd.full;trivial,by unfold Cd.dep;decide,by unfold Cd.dW;decide⟩
  generalize upd (upd (upd (upd H6 q1 (.tup [V.ref e0,.int (r4:Int)])) e1 (.tup [])) q2 (.tup [V.ref e1,.int 0])) al (.tup [V.str "compare",.ref q1,.str "!=",.ref q2])=H7 at sy b7 D7 kal y4 ⊢
  have VL:=b7 _ _ Ls nsd
  have Yz:=D5.soft b7
  have FU:rl≠d:=hd.ne frl
  have a7s:=b7 _ _ Tz FU
  refine ⟨_,rfl,_,rfl,rl,_,rfl,bC.of a7s,fun p1 hp1=>?_⟩
  rw [VY]
  have ZH:=new (o:=.lst [v0,v1]) hp1
  refine ⟨_,rfl,(szl 2),fun t1 ht1=>?_⟩
  have Xf:=new (o:=.tup [V.str "hold",.ref al]) ht1
  refine ⟨_,rfl,sl,_,_,_,rfl,rfl,bC.of (Xf _ _ (ZH _ _ VL)),A4,_,rfl,(szl 3),fun t2 um=>⟨(szl 2),fun t3 Yu=>?_⟩⟩
  have Xe:=new (o:=.tup [V.str "or",u4,.ref al]) um
  have T7:=new (o:=.tup [V.str "hold",.ref t2]) Yu
  refine ⟨_,rfl,sl,_,_,_,rfl,rfl,bC.of (T7 _ _ (Xe _ _ (Xf _ _ (ZH _ _ VL)))),A6,(szl 2),fun t4 ht4=>⟨(szl 3),fun q hq=>?_⟩⟩
  have T6:=new (o:=.tup [V.str "hold",u6]) ht4
  have Tc:=new (o:=.lst [V.ref t1,.ref t3,.ref t4]) hq
  have sz:=((((ZH.trans Xf).trans Xe).trans T7).trans T6).trans Tc
  have hz:=aD.of sz
  have Yy:=Yz.trans hz
  refine ⟨p1,q,_,_,rfl,rfl,Tc _ _ (T6 _ _ (T7 _ _ (Xe _ _ (Xf _ _ ah)))),ah,(szl 5),fun r hr'=>?_⟩
  have m4:∀ c∈[c4,Cd.cmp [] (r4:Int) "!=" [] 0],Ge xs c∧c.full∧c.dep≤1∧c.dW≤1:=fun c hc=>by
   simp only [List.mem_cons,List.not_mem_nil,or_false] at hc
   rcases hc with e | e <;> subst e
   ·exact G _ (by simp)
   ·exact ga
  refine fin r ([v0,v1]++[V.ref t1,.ref t3,.ref t4]) [.con false [c0,c1],.con false [c2,c3],.cmp [] (r4:Int) "!=" [] 0,.con false [c4,.cmp [] (r4:Int) "!=" [] 0],c6] _ (b7.trans (bQ.of sz)) (D7.same sz) hr' (.cons (cK.aB Yy (r:=.hold _) g0) (.cons (cK.aB Yy (r:=.hold _) g1) (.cons ⟨t1,.ref al,rfl,Tc _ _ (T6 _ _ (T7 _ _ (Xe _ _ ah))),kal.aB hz⟩ (.cons ⟨t3,.ref t2,rfl,Tc _ _ (T6 _ _ ah),?_⟩ (.cons ⟨t4,u6,rfl,Tc _ _ ah,k6.aB Yy⟩ .nil))))) (by show 5≤5;decide) fun c hc=>?_
  ·unfold aW
   exact ⟨t2,[u4,.ref al],rfl,Tc _ _ (T6 _ _ (T7 _ _ ah)),aN.mpr (.cons (k4.aB Yy) (.cons (kal.aB hz) .nil))⟩
  ·simp only [List.mem_cons,List.not_mem_nil,or_false] at hc
   rcases hc with e | e | e | e | e <;> subst e
   ·exact o0
   ·exact o1
   ·exact we ga
   ·exact j6 m4 (by show 1≤2;decide) (by show 2≤8;decide)
   ·exact we (G _ (by simp))
abbrev oV:Stmt:=top 58
theorem cQ:aL ["_law_rows","_law_told_here","_law_sums","_law_unknowns","_law_conditions","_law_row","_law_found","_law_condition_here","_law_more"] ["_law_rows","_law_told_here"] (aq oV):=⟨rfl,rfl,rfl,by decide +kernel,rfl,by decide +kernel,by decide +kernel⟩
theorem JV {f:Addr} {fd:FuncData} {Z:Cz} {n:Nat} {TM W fT fW:Addr} {dN dI:List Value} (F:dO K "_law_owed" "_law_owed" oV f fd) (T:Txt K mg Z.s) (U:gH K mg Z) (XT:dJ K mg TM W fT fW dN dI) (BK:Dn P w K mg base 3 "_law_put_in" ["_law_one","_law_sums"] AD) (DG:Dn P w K mg base 6 "_law_all_put_in" ["_law_told_here","_law_sums"] (rJ 3)) (w4:Dn P w K mg base 4 "_law_opposite" ["_law_told_here"] (mh 3)) (w6:Dn P w K mg base 7 "_law_cases" ["_law_told_here"] (jT 3)) (mX:Dn P w K mg base 1 "_law_paired" ["_law_ones","_law_others"] jU) (Sh:Dn P w K mg base 1 "_law_trimmed" ["_law_case"] CG):bF P w K mg base fh 9 f fd ["_law_rows","_law_told_here"] yY:=by
 obtain ⟨VB,RK,q9,nH,nJ,qV⟩:=BK
 obtain ⟨RM,NR,iR,gY,gZ,iP⟩:=DG
 obtain ⟨RO,Lf,jo,g8,ic,jk⟩:=w4
 obtain ⟨a7h,Vy,vm,qG,qM,vh⟩:=w6
 obtain ⟨Lm,Gv,xD,su,sM,xx⟩:=mX
 obtain ⟨a7b,YE,GX,C7,Dk,GO⟩:=Sh
 refine F.ok cQ (fun vs H Q E h=>?_) (fun cdv A outer s H vs Q E hr h=>?_)
 ·obtain ⟨a,us,rs,v,c,rfl,ha,hT,hR,hl,YB,ht,hc,k1,k2⟩:=h
  rfl
 ·obtain ⟨a,us,rs,v,c,rfl,ha,hT,hR,hl,YB,ht,hc,k1,k2⟩:=h
  have hu:=bD hr
  rw [show ay oV=[_,_,_,_,_,_,_,_] from rfl]
  refine ⟨_,(ao (aT (i:=2) cQ.nd rfl (Or.inl rfl) mG)
   (ao (aT (i:=3) cQ.nd rfl (Or.inl rfl) aj)
   (ao (aT (i:=4) cQ.nd rfl (Or.inl rfl) (bh ai))
   (ao (eX PassesOwn.never rfl (eK (pv 0)) (aQ (i:=5) cQ.nd rfl (Or.inl rfl)) (au (bR (aO bW (aF aK (pv 5) aj (fun _ _=>rfl)) aP (aV _)) (ao (kD hu (pv 2) (aF aK (pv 5) aj (fun _ _=>rfl)) (aG (aa (aG (aa (aG (aa (aZ kI aP (bB qU (by rfl) T.str boot_str (aa (pv 3) ai))) (aa aj ai))) ai)) (aa aj ai))) rfl)
   (au (CS (i:=3) cQ.nd rfl (Or.inl rfl) aj zP))) (au (bR (aO bW (aF aK (pv 5) aj (fun _ _=>rfl)) aP (aV _)) (au (kD hu (pv 2) (aF aK (pv 5) aj (fun _ _=>rfl)) (aA q9 (hr.mono (by first | decide | omega)) rfl nH nJ qV .nil aE (aa (aF aK (pv 5) aj (fun _ _=>rfl)) (aa (pv 2) ai))) rfl)) (au (cV (jz PySem.F.plainAttrs_list PySem.F.slot_list_append PySem.F.type_list_append dZ (pv 4) (aa (aA iR (hr.mono (by first | decide | omega)) rfl gY gZ iP .nil aE (aa (aF aK (pv 5) aj (fun _ _=>rfl)) (aa (pv 2) ai))) ai)))))))))
   (ao (cV (jz PySem.F.plainAttrs_list PySem.F.slot_list_append PySem.F.type_list_append dZ (pv 4) (aa (aA jo (hr.mono (by first | decide | omega)) rfl g8 ic jk .nil aE (aa (aA iR (hr.mono (by first | decide | omega)) rfl gY gZ iP .nil aE (aa (pv 1) (aa (pv 2) ai))) ai)) ai)))
   (ao (aT (i:=6) cQ.nd rfl (Or.inl rfl) (bh (aa (aG ai) ai)))
   (ao (eX PassesOwn.never rfl (eK (pv 4)) (aQ (i:=7) cQ.nd rfl (Or.inl rfl)) (ao (aT (i:=8) cQ.nd rfl (Or.inl rfl) (aA vm (hr.mono (by first | decide | omega)) rfl qG qM vh .nil aE (aa (pv 7) ai)))
   (ao (bR (aO C1 (pv 8) jJ (aV _)) (au (aJ jJ)) bE)
   (ao (nD (i:=6) cQ.nd rfl (Or.inl rfl) (br ["_law_one"] [] [] rfl (by decide +kernel) (by decide +kernel) (by with_unfolding_all rfl) (by exact trivial) (by rfl) rfl (by rfl)) rfl (eK (bZ (br ["_law_case"] [] [] rfl (by decide +kernel) (by decide +kernel) (by with_unfolding_all rfl) (by exact trivial) (by rfl) rfl (by rfl)) rfl (eK (aA xD (hr.mono (by first | decide | omega)) rfl su sM xx .nil aE (aa (pv 6) (aa (pv 8) ai)))) (fun _ _ _ _=>(aQ (i:=0) (show List.Nodup (["_law_case"]:List Str) by decide +kernel) rfl (Or.inl rfl) (Or.inr rfl))) (fun _ _ _ _=>cA) (fun _ _ _ _=>(aA GX (hr.mono (by first | decide | omega)) rfl C7 Dk GO .nil aE (aa (pv 0) ai))))) (fun _ _ _ _=>(aQ (i:=0) (show List.Nodup (["_law_one"]:List Str) by decide +kernel) rfl (Or.inl rfl) (Or.inr rfl))) (fun _ _ _ _=>(kC (aO EH (pv 0) jJ (aV _)))) (fun _ _ _ _=>(pv 0)))
   (au (bR (aO yi (bS bP (by rfl) T.len PySem.boot_len (aa (pv 6) ai)) aj (aV _)) (au (aJ jJ)) bE))))))
   (au (aJ (pv 6)))))))))),?_⟩
  intro fd hfd
  refine ⟨Nat.zero_le _,fun L hL=>?_⟩
  have hL0:=jA hL
  have nfL:fd≠L:=av ah hL
  have s0:=(new (o:=.dK []) hfd).trans (new (o:=.lst []) hL)
  have UY:=ak hT
  refine ⟨_,rfl,a,rfl,⟨us,bC.of (s0 _ _ ha)⟩,jZ (xs:=us) (fun i σ H'=>∃ (kvs:List (Key×V)) (S:Sb) (m:Nat) (Ac:List Cd) (ys:List V) (a5:Option V),σ=[some (.ref a),some v,some (.ref fd),some (.int (m:Int)),some (.ref L),a5,none,none,none]∧az H H'∧H' fd=some (.dK kvs)∧Rl (LY H') kvs S∧H' L=some (.lst ys)∧Paired (fun u c=>aW H' c u) ys Ac∧dR (rs.take i)=(S,m,Ac)∧OJ (rs.take i) S m∧(∀ c∈Ac,T5 c)∧Ac.length≤i) ⟨[],[],0,[],[],none,rfl,s0,new hL _ _ ah,.nil,ah,.nil,rfl,OJ.nil,(fun c h=>nomatch h),Nat.le_refl _⟩ (fun i σ H' _ ⟨_,_,_,_,_,_,_,q,_⟩=>bC.of (q _ _ ha)) ?_ ?_⟩
  ·rintro i x0 σ H2 hi ⟨kvs,S,m,Ac,ys,a5,rfl,sm,ef,rl,eL,pc,hdr,J,hcd,lcd⟩
   obtain ⟨r,vd,Bu⟩:=bg hT hi
   have Bu:=Bu.aB (aD.of sm)
   have hok:=hR i r vd
   have il:i < rs.length:=(List.getElem?_eq_some_iff.mp vd).1
   have ltk:(rs.take i).length=i:=by rw [List.length_take];omega
   have an:=nS i rs
   have em:=J.em
   have few:=J.few (by omega)
   have lk:=rl.len
   have rm:=ak pc
   have kz:kvs.length < sizeLine:=line _ (by have:=J.sl;omega)
   have dput:∀ (x:Str) (q:Addr) (mm:Sm) (H3:Hp),az H2 H3→cD H3 q mm.1 mm.2 →
     az H (upd H3 fd (.dK (putK kvs (Sum.inr x) (V.ref q))))∧Rl (LY (upd H3 fd (.dK (putK kvs (Sum.inr x) (V.ref q))))) (putK kvs (Sum.inr x) (V.ref q)) (fK S x mm)∧(upd H3 fd (.dK (putK kvs (Sum.inr x) (V.ref q)))) L=some (.lst ys)∧Paired (fun u c=>aW (upd H3 fd (.dK (putK kvs (Sum.inr x) (V.ref q)))) c u) ys Ac:=fun x q mm H3 s3 D3=>by
    have Zz:=s3 _ _ ef
    have b3:bQ fd H3 (upd H3 fd (.dK (putK kvs (Sum.inr x) (V.ref q)))):=bQ.upd
    have hk:aD H3 (upd H3 fd (.dK (putK kvs (Sum.inr x) (V.ref q)))):=aD.soft b3 Zz IM
    exact ⟨fun b o z=>b3 _ _ (s3 _ _ (sm _ _ z)) (av z hfd),Rl.put (rl.mono fun u q z=>(cD.same z s3).aB hk) (D3.aB hk),b3 _ _ (s3 _ _ eL) nfL.symm,L2.Paired.cF pc fun _ _ z=>(z.aB (aD.of s3)).aB hk⟩
   cases r with
   | any x =>
    obtain ⟨pr,rfl,ep⟩:=Bu
    have em1:m < 19:=by
     have:=nS (i+1) rs
     rw [take_snoc vd,dj] at this
     have:dY (rs.take i)+1≤dY rs:=this
     omega
    refine ⟨_,rfl,pr,_,0,_,rfl,rfl,aX.of ep,rfl,rfl,_,rfl,bG rfl ?_⟩
    refine ⟨_,rfl,(m:Int),rfl,IC ⟨m,by omega⟩,_,_,rfl,rfl,Nat.le_of_lt (line _ (Nat.le_trans (OV ⟨m,by omega⟩) (by decide))),(szl 2),fun q1 hq1=>⟨(Nat.le_of_lt (line 1 (by decide))),fun q2 hq2=>⟨(szl 2),fun q3 nX=>?_⟩⟩⟩
    have s3:=((new (o:=.tup [.str (uk m),.int 1]) hq1).trans (new (o:=.tup [.ref q1]) hq2)).trans (new (o:=.tup [.ref q2,.int 0]) nX)
    have D3:cD (upd (upd (upd H2 q1 (.tup [.str (uk m),.int 1])) q2 (.tup [.ref q1])) q3 (.tup [.ref q2,.int 0])) q3 [(uk m,1)] 0:=⟨q2,ah,[.ref q1],new nX _ _ ah,fP ⟨q1,rfl,new nX _ _ (new hq2 _ _ ah)⟩⟩
    refine ⟨_,rfl,_,rfl,pr,_,1,_,rfl,rfl,aX.of (s3 _ _ ep),rfl,fd,_,rfl,xM.k (k:=Sum.inr x) (s3 _ _ ef) kz,?_⟩
    obtain ⟨z1,z2,z3,z4⟩:=dput x q3 ([(uk m,1)],0) _ s3 D3
    refine ⟨_,rfl,_,_,rfl,rfl,?_⟩
    exact ⟨_,fK S x ([(uk m,1)],0),m+1,Ac,ys,_,rfl,z1,ah,z2,z3,z4,by rw [take_snoc vd,Ab,hdr];rfl,by rw [take_snoc vd];exact J.any x,hcd,by omega⟩
   | lt x b c0 =>
    obtain ⟨pr,q0,rfl,ep,Dq⟩:=Bu
    refine ⟨_,rfl,pr,_,0,_,rfl,rfl,aX.of ep,rfl,rfl,_,rfl,bf (bx (by decide +kernel)) ?_⟩
    refine ⟨_,rfl,pr,_,0,_,rfl,rfl,aX.of ep,rfl,rfl,_,rfl,bG rfl ?_⟩
    refine ⟨_,rfl,pr,_,2,_,rfl,rfl,aX.of ep,rfl,_,rfl,q0,fd,b,c0,kvs,S,rfl,Dq,.inl ef,rl,hok.2.1,(fun p hp=>(J.ks _).mpr (hok.2.2.1 p hp)),few,fun q T9 H3 s3 g3 D3=>?_⟩
    refine ⟨_,rfl,_,rfl,pr,_,1,_,rfl,rfl,aX.of (s3 _ _ ep),rfl,fd,_,rfl,xM.k (k:=Sum.inr x) (s3 _ _ ef) kz,?_⟩
    obtain ⟨z1,z2,z3,z4⟩:=dput x q (T9,c0+gE S b) H3 s3 D3
    exact ⟨_,fK S x (T9,c0+gE S b),m,Ac,ys,_,rfl,z1,ah,z2,z3,z4,by rw [take_snoc vd,Ab,hdr];show (fK S x (gt (jS S b),_),m,Ac)=_;rw [Pd g3],by rw [take_snoc vd];exact J.lt x (fun p hp=>hok.2.2.1 p hp) g3,hcd,by omega⟩
   | hold c1 =>
    obtain ⟨pr,q0,rfl,ep,hq⟩:=Bu
    obtain ⟨hge,hfu,Cg,lQ⟩:=hok
    refine ⟨_,rfl,pr,_,0,_,rfl,rfl,aX.of ep,rfl,rfl,_,rfl,bf (bx (by decide +kernel)) ?_⟩
    refine ⟨_,rfl,pr,_,0,_,rfl,rfl,aX.of ep,rfl,rfl,_,rfl,bf (bx (by decide +kernel)) ?_⟩
    refine ⟨_,rfl,.inl ⟨rfl,_,bC.of eL⟩,_,rfl,pr,_,1,_,rfl,rfl,aX.of ep,rfl,_,rfl,q0,fd,c1,gI (rs.take i),kvs,S,rfl,hq,Cg,hge,gU (fun x hx=>(J.ks x).mpr hx) (Ge.G7 hge),.inl ef,rl,few,fun v' c' H3 s3 pR hv'=>?_⟩
    have ZA:=s3 _ _ eL
    refine ⟨L,_,_,rfl,rfl,ZA,line _ (by omega),?_⟩
    have b4:bQ L H3 (upd H3 L (.lst (ys++[v']))):=bQ.upd
    have hk:aD H3 (upd H3 L (.lst (ys++[v']))):=aD.soft b4 ZA gJ
    refine ⟨kvs,S,m,Ac++[c'],ys++[v'],_,rfl,fun b o z=>b4 _ _ (s3 _ _ (sm _ _ z)) (av z hL0),b4 _ _ (s3 _ _ ef) nfL,rl.mono fun u q z=>(cD.same z s3).aB hk,ah,aH (L2.Paired.cF pc fun _ _ z=>(z.aB (aD.of s3)).aB hk) (hv'.aB hk),?_,by rw [take_snoc vd];exact J.hold c1,fun z hz=>?_,by rw [List.length_append];exact Nat.succ_le_succ lcd⟩
    ·rw [take_snoc vd,Ab,hdr]
     show (S,m,Ac++[EC S c1])=_
     rw [mF pR]
    ·rcases List.mem_append.mp hz with z' | z'
     ·exact hcd z z'
     ·rw [List.mem_singleton.mp z']
      exact LH J (by omega) hge hfu Cg lQ pR
  rintro σ H2 ⟨kvs,S,m,Ac,ys,a5,rfl,sm,ef,rl,eL,pc,hdr,J,hcd,lcd⟩
  rw [UY,List.take_length] at hdr J
  have em:=J.em
  have few:=J.few (by omega)
  have rm:=ak pc
  obtain ⟨hge,hfu,Cg,lQ⟩:=id hc
  refine ⟨_,rfl,.inl ⟨rfl,_,bC.of eL⟩,_,rfl,_,rfl,v,fd,c,gI rs,kvs,S,rfl,ht.aB (aD.of sm),Cg,hge,gU (fun x hx=>(J.ks x).mpr hx) (Ge.G7 hge),.inl ef,rl,few,fun v2 c' H3 s3 pR hv2=>?_⟩
  have hco:=LH J (by omega) hge hfu Cg lQ pR
  refine ⟨v2,c',xZ 19,rfl,hv2,hco.dp,hco.gh,fun v3 H4 s4 To=>?_⟩
  have Ey:=s3.trans s4
  have eL4:=Ey _ _ eL
  refine ⟨L,_,_,rfl,rfl,eL4,line _ (by omega),?_⟩
  have b5:bQ L H4 (upd H4 L (.lst (ys++[v3]))):=bQ.upd
  have hk:aD H4 (upd H4 L (.lst (ys++[v3]))):=aD.soft b5 eL4 gJ
  have s5:az H (upd H4 L (.lst (ys++[v3]))):=fun b o z=>b5 _ _ (Ey _ _ (sm _ _ z)) (av z hL0)
  have eL5:(upd H4 L (.lst (ys++[v3]))) L=some (.lst (ys++[v3])):=ah
  have Xn:Paired (fun u c=>aW (upd H4 L (.lst (ys++[v3]))) c u) (ys++[v3]) (Ac++[c'.cY]):=aH (L2.Paired.cF pc fun _ _ z=>(z.aB (aD.of Ey)).aB hk) (To.aB hk)
  have Vh:∀ z∈Ac++[c'.cY],T5 z:=fun z hz=>by
   rcases List.mem_append.mp hz with z' | z'
   ·exact hcd z z'
   ·rw [List.mem_singleton.mp z']
    exact hco.cY
  have eF:ED rs c=uK (Ac++[c'.cY]):=by rw [QD,hdr];show uK (Ac++[EC S c.cY])=_;rw [mF (Je pR)]
  have l5:(Ac++[c'.cY]).length≤31:=by rw [List.length_append];show Ac.length+1≤31;omega
  generalize upd H4 L (.lst (ys++[v3]))=H5 at s5 eL5 Xn ⊢
  generalize Ac++[c'.cY]=dz at Xn Vh eF l5
  generalize ys++[v3]=yz at eL5 Xn
  clear hk b5 eL4 Ey s3 s4 hv2 To pc eL rl ef
  refine ⟨Nat.zero_le _,fun t0 ht0=>⟨(Nat.le_of_lt (line 1 (by decide))),fun f0 hf0=>?_⟩⟩
  have s6:=(new (o:=.tup []) ht0).trans (new (o:=.lst [V.ref t0]) hf0)
  have hf6:lG (upd (upd H5 t0 (.tup [])) f0 (.lst [V.ref t0])) f0 [[]]:=⟨_,ah,.cons ⟨t0,[],rfl,new hf0 _ _ ah,.nil⟩ .nil⟩
  have eL6:=s6 _ _ eL5
  have pc6:=L2.Paired.cF Xn fun _ _ (z:aW H5 _ _)=>z.aB (aD.of s6)
  have sB:=s5.trans s6
  generalize upd (upd H5 t0 (.tup [])) f0 (.lst [V.ref t0])=H6 at hf6 eL6 pc6 sB s6 ⊢
  have lyz:=ak pc6
  refine ⟨_,rfl,L,rfl,⟨yz,bC.of eL6⟩,jZ (xs:=yz) (fun j σ H'=>∃ (f:Addr) (A1:Cs) (a7 a8:Option V),σ=[some (.ref a),some v,some (.ref fd),some (.int (m:Int)),some (.ref L),a5,some (.ref f),a7,a8]∧az H6 H'∧lG H' f A1∧uK (dz.take j)=some A1∧A1.length≤64∧∀ k∈A1,k.length≤16*j∧∀ q∈k,q.1≠[]) ⟨f0,[[]],none,none,rfl,az.refl _,hf6,rfl,(by show 1≤64;decide),(fun k hk=>by rw [List.mem_singleton.mp hk];exact ⟨Nat.zero_le _,fun q h=>nomatch h⟩)⟩ (fun j σ H' _ ⟨_,_,_,_,_,q,_⟩=>bC.of (q _ _ eL6)) ?_ ?_⟩
  ·rintro j x σ H7 hj ⟨f,A1,a7,a8,rfl,s7,hf7,hcf,O7,hw⟩
   obtain ⟨cc,Rm,nY⟩:=bg pc6 hj
   have iz:=List.mem_of_getElem? Rm
   have hO:=Vh cc iz
   have jl:j < dz.length:=(List.getElem?_eq_some_iff.mp Rm).1
   refine ⟨_,rfl,x,cc,xZ 19,rfl,nY.aB (aD.of s7),hO.dp,hO.gh,hO.fu,by have:=hO.lv;omega,fun h64 lm cs H8 s8 hlm ce=>?_,fun h64 H8 s8=>?_⟩
   rotate_left
   ·refine ⟨_,rfl,rfl,_,rfl,bG rfl ?_⟩
    exact k2 (by rw [eF];exact BN (i:=j+1) (by rw [take_snoc Rm,mY,hcf];exact sZ h64)) _ ((sB.trans s7).trans s8)
   refine ⟨_,rfl,rfl,_,rfl,bf (fun z=>by cases z) ?_⟩
   have lcs:=gD.len hO.gh.ok ce
   have ZI:=gD.oB ce
   have b6g:=hO.lv
   refine ⟨_,rfl,_,rfl,f,lm,A1,cs,rfl,hf7.same s8,hlm,O7,by omega,(fun k hk=>by have:=(hw k hk).1;omega),(fun k hk=>by have:=ZI k hk;omega),fun P H9 s9 hP=>?_⟩
   obtain ⟨vP,eP,pP⟩:=id hP
   have lvP:=ak pP
   have lbo:=dU cs A1
   have lb4:A1.length*cs.length≤64*64:=Nat.mul_le_mul O7 (by omega)
   have wb:∀ k∈bq A1 cs,k.length≤900:=fun k hk=>by
    obtain ⟨a',ha',b',hb',rfl⟩:=j8 hk
    have:=(hw a' ha').1
    have:=ZI b' hb'
    rw [List.length_append]
    omega
   refine ⟨P,rfl,⟨_,bC.of eP⟩,eg (xs:=vP) (fun i ys H'=>az H9 H'∧Paired (W0 H') ys ((bq A1 cs).take i)) ⟨az.refl _,.nil⟩ (fun i ys H' _ q=>bC.of (q.1 _ _ eP)) ?_ ?_⟩
   ·rintro i y ys H' hi ⟨ZX,py⟩
    obtain ⟨k0,hk0,hy⟩:=bg pP hi
    have ly:=ak py
    rw [List.length_take] at ly
    have lz:ys.length < sizeLine:=line _ (by omega)
    refine ⟨Ext.one,iH ⟨_,rfl,y,k0,rfl,hy.aB (aD.of ZX),wb k0 (List.mem_of_getElem? hk0),fun hn v' H'' s'' hv'=>⟨lz,ZX.trans s'',?_⟩,fun hn H'' s''=>⟨lz,ZX.trans s'',?_⟩⟩⟩
    ·rw [take_snoc hk0]
     exact aH (L2.Paired.cF py fun _ _ z=>z.aB (aD.of s'')) (.inr ⟨hn,hv'⟩)
    ·rw [take_snoc hk0]
     exact aH (L2.Paired.cF py fun _ _ z=>z.aB (aD.of s'')) (.inl ⟨hn,rfl⟩)
   rintro ys Hl ⟨uD,py⟩ qi hqi
   rw [lvP,List.take_length] at py
   have sq:=new (o:=.lst ys) hqi
   have py:=L2.Paired.cF py fun _ _ (z:W0 Hl _ _)=>z.aB (aD.of sq)
   have eqi:(upd Hl qi (.lst ys)) qi=some (.lst ys):=ah
   have sC:=((s7.trans s8).trans s9).trans (uD.trans sq)
   generalize upd Hl qi (.lst ys)=Mi at sq py eqi sC ⊢
   have ly:=ak py
   refine ⟨qi,rfl,⟨_,bC.of eqi⟩,eg (xs:=ys) (fun i zs H'=>H'=Mi∧Paired (iL Mi) zs (gW ((bq A1 cs).take i))) ⟨rfl,.nil⟩ (fun i zs H' _ q=>by rw [q.1];exact bC.of eqi) ?_ ?_⟩
   ·rintro i y zs H' hi ⟨rfl,pz⟩
    obtain ⟨k0,hk0,hy⟩:=bg py hi
    have lz:=ak pz
    have Ti:=nu ((bq A1 cs).take i)
    rw [List.length_take] at Ti
    rw [take_snoc hk0,qe]
    rcases hy with ⟨hn,rfl⟩ | ⟨hn,Vb⟩
    ·refine ⟨Ext.one,_,rfl,rfl,_,rfl,rq rfl ⟨rfl,?_⟩⟩
     rw [if_pos hn,List.append_nil]
     exact pz
    ·obtain ⟨rr,ur,rfl,er,pr⟩:=id Vb
     refine ⟨Ext.one,_,rfl,rfl,_,rfl,KP rfl ⟨_,rfl,line _ (by omega),rfl,?_⟩⟩
     rw [if_neg (by rw [hn];decide)]
     exact aH pz Vb
   rintro zs H' ⟨rfl,pz⟩ qz hqz
   rw [ly,List.take_length,Az cs (fun k hk=>(hw k hk).2)] at pz
   have sz:=new (o:=.lst zs) hqz
   have Nv:=ak pz
   have hlz:lG (upd H' qz (.lst zs)) qz (bq A1 (gW cs)):=⟨zs,ah,L2.Paired.cF pz fun _ _ z=>z.aB (aD.of sz)⟩
   rw [dU] at Nv
   refine ⟨_,rfl,qz,_,rfl,.inl (bC.of ah),_,_,rfl,rfl,_,rfl,?_⟩
   by_cases hb:A1.length*(gW cs).length≤64
   ·refine bf (by rw [Nv];omega) ⟨qz,bq A1 (gW cs),_,_,rfl,sC.trans sz,hlz,?_,by rw [dU];exact hb,fun k hk=>?_⟩
    ·rw [take_snoc Rm,mY,hcf]
     exact xh ce h64 hb
    ·have w:=vo (n:=16*j) (m:=16) hw (fun k hk=>by have:=ZI k hk;omega) k hk
     exact ⟨by have:=w.1;omega,w.2⟩
   ·refine bG (by rw [Nv];omega) ?_
    exact k2 (by rw [eF];exact BN (i:=j+1) (by rw [take_snoc Rm,mY,hcf];exact sY ce (by omega))) _ (sB.trans (sC.trans sz))
  ·rintro σ H7 ⟨f,A1,a7,a8,rfl,s7,hf7,hcf,O7,hw⟩
   rw [lyz,List.take_length] at hcf
   exact ⟨_,rfl,k1 A1 (by rw [eF];exact hcf) f H7 (sB.trans s7) hf7⟩
abbrev vM:Stmt:=top 59
theorem mj:aL ["_law_debt_here","e"] ["_law_debt_here"] (aq vM):=⟨rfl,rfl,rfl,by decide +kernel,rfl,by decide +kernel,by decide +kernel⟩
theorem MZ {f:Addr} {fd:FuncData} {Z:Cz} {n:Nat} {TM W fT fW:Addr} {dN dI:List Value} (F:dO K "_law_refused" "_law_refused" vM f fd) (T:Txt K mg Z.s) (U:gH K mg Z) (XT:dJ K mg TM W fT fW dN dI) {Db:Addr} (W:TX K mg Db) (VU:∃ a1 a2 a3 a4 a5,XRf K mg TM a1 a2 a3 a4 a5) (z9:G1 P w K mg base TM 21 "owed" ["debt"] (uT Z Db TM)):bF P w K mg base fh 23 f fd ["_law_debt_here"] (CH Z Db):=by
 obtain ⟨a1,a2,a3,a4,a5,XR⟩:=VU
 obtain ⟨NV,Ld,DX,zE,zL,DP⟩:=z9
 refine F.ok mj (fun vs H Q E h=>?_) (fun cdv A outer s H vs Q E hr h=>?_)
 ·obtain ⟨p,rs,c,rfl,hD,hR,hl,YB,hc,hno,k⟩:=h
  rfl
 ·obtain ⟨p,rs,c,rfl,hD,hR,hl,YB,hc,hno,k⟩:=h
  have hu:=bD hr
  rw [show ay vM=[_,_] from rfl]
  refine ⟨_,(ao (MH (i:=1) rfl rfl XT.ct XT.cw XT.hin rfl XT.mgW mj.nd rfl rfl (fun pn xe E hp=>au (cV (aA DX (hr.mono (by decide)) rfl zE zL DP .nil hp (aa (pv 0) ai)))) (fun a oe pn hc hd hn=>(ao (bR (PW.pt (vW (vZ (bS (kY (K:=K) rfl XR.xi (List.mem_cons_self ..) hc hd hn) (by rfl) T.isinstance boot_isinstance (aa (pv 1) (aa (aG (aa (jy (v:=.ref a1) rfl XR.m1 rfl) (aa (jy (v:=.ref a2) rfl XR.m2 rfl) (aa (jy (v:=.ref a3) rfl XR.m3 rfl) ai)))) ai)))) (rS (vZ (bS (kY (K:=K) rfl XR.xi (List.mem_cons_self ..) hc hd hn) (by rfl) T.isinstance boot_isinstance (aa (pv 1) (aa (aG (aa (jy (v:=.ref a4) rfl XR.m4 rfl) (aa (jy (v:=.ref a5) rfl XR.m5 rfl) ai))) ai))))))) (au (aJ AW)) bE) (au (aJ (CW (bS (kY (K:=K) rfl XR.xi (List.mem_cons_self ..) hc hd hn) (by rfl) T.isinstance boot_isinstance (aa (pv 1) (aa (jy (v:=.ref TM) rfl XT.mgT rfl) ai))) (CV (bS (kY (K:=K) rfl XR.xi (List.mem_cons_self ..) hc hd hn) (by rfl) T.isinstance boot_isinstance (aa (pv 1) (aa (MP (v:=.ty "ValueError") rfl XT.mgV PyProof.Rows.Boot.«ValueError» rfl) ai))))))))))
   (au (aJ AW))),?_⟩
  refine ⟨_,rfl,p,rs,c,rfl,hD,hR,hl,YB,hc,(fun F hF=>by rw [hno] at hF;cases hF),fun _ h64 H1 s1=>?_⟩
  intro σ' a hσ ha
  obtain ⟨x0,x1,rfl⟩:∃ x0 x1,σ'=[x0,x1]:=by
   match σ',hσ with
   | [x0,x1],_=>exact ⟨x0,x1,rfl⟩
  refine ⟨_,rfl,(szl 3),fun t ht=>?_⟩
  have s2:=s1.trans (new (o:=.tup [V.ref a1,V.ref a2,V.ref a3]) ht)
  refine ⟨_,false,rfl,.inr ⟨t,_,_,rfl,ah,rR [a1,a2,a3],fun vs h=>vV (as:=[a1,a2,a3]) h,XR.k1⟩,_,rfl,zN ?_⟩
  refine ⟨_,rfl,(szl 2),fun t2 um=>?_⟩
  have s3:=s2.trans (new (o:=.tup [V.ref a4,V.ref a5]) um)
  refine ⟨_,false,rfl,.inr ⟨t2,_,_,rfl,ah,rR [a4,a5],fun vs h=>vV (as:=[a4,a5]) h,XR.k2⟩,_,rfl,zN ?_⟩
  refine ⟨_,rfl,_,true,rfl,.inl ⟨_,rfl,fun v h=>h,XR.k3⟩,true,rfl,pQ ?_⟩
  exact ⟨_,rfl,_,true,rfl,.inl ⟨_,rfl,fun v h=>h,XR.k4⟩,k _ s3⟩
abbrev xT:Stmt:=top 61
theorem iX:aL ["_law_script","_law_draw","_law_things","_law_k","_law_rows","_law_known","_law_told_here","_law_debt_here","_law_due"] ["_law_script"] (aq xT):=⟨rfl,rfl,rfl,by decide +kernel,rfl,by decide +kernel,by decide +kernel⟩
seal L2.PE L2.PS L2.Al L2.PA L2.PT in
theorem QM {f:Addr} {fd:FuncData} {Z:Cz} {n:Nat} {TM W fT fW:Addr} {dN dI:List Value} (F:dO K "law" "law" xT f fd) (T:Txt K mg Z.s) (U:gH K mg Z) (XT:dJ K mg TM W fT fW dN dI) {Db:Addr} (W:TX K mg Db) (GD:Dn P w K mg base 2 "_law_cell_at" ["_law_script","_law_k"] (CK K)) (fY:Dn P w K mg base 2 "_law_next" ["_law_draw","_law_size"] jH) (N8:Dn P w K mg base 3 "_law_names" ["_law_draw","_law_many"] yX) (Od:Dn P w K mg base 8 "_law_ahead" ["_law_draw","_law_things"] vE) (ig:Dn P w K mg base 5 "_law_condition" ["_law_draw","_law_things","_law_deep"] (kj 2)) (N7:Dn P w K mg base 6 "_law_planted" ["_law_draw","_law_known"] yV) (Oc:Dn P w K mg base 8 "_law_debt" ["_law_rows","_law_told_here"] (yZ Z Db)) (Oa:Dn P w K mg base 9 "_law_owed" ["_law_rows","_law_told_here"] yY) (Si:Dn P w K mg base 23 "_law_refused" ["_law_debt_here"] (CH Z Db)) (z9:G1 P w K mg base TM 21 "owed" ["debt"] (uT Z Db TM)) (N9:Dn P w K mg base 1 "_law_told" ["_law_cases_here"] (zb Z)):bF P w K mg base fh 24 f fd ["_law_script"] (Ew K):=by
 obtain ⟨Tv,RL,tL,pL,pO,tF⟩:=GD
 obtain ⟨sS,nM,cy,bK,bL,cu⟩:=fY
 obtain ⟨YL,Vu,Ow,Kd,Kr,Oh⟩:=N8
 obtain ⟨YQ,VA,OA,Kf,Ku,Oj⟩:=Od
 obtain ⟨uv,qR,gf,fB,fD,fZ⟩:=ig
 obtain ⟨YK,Vt,GZ,C9,Dm,GQ⟩:=N7
 obtain ⟨YO,Vx,SS,Nt,ND,SD⟩:=Oc
 obtain ⟨YM,Vv,Ox,Ke,Ks,Oi⟩:=Oa
 obtain ⟨a7e,YF,GY,C8,Dl,GP⟩:=Si
 obtain ⟨NV,Ld,DX,zE,zL,DP⟩:=z9
 obtain ⟨b6D,b2H,SO,Np,Nz,Sy⟩:=N9
 refine F.ok iX (fun vs H Q E h=>?_) (fun cdv A outer s H vs Q E hr h=>?_)
 ·obtain ⟨a,ns,rfl,hS,hz,k⟩:=h
  rfl
 ·obtain ⟨a,ns,rfl,hS,hz,k⟩:=h
  have hu:=bD hr
  rw [show ay xT=[_,_,_,_] from rfl]
  refine ⟨_,(ao (aT (i:=1) iX.nd rfl (Or.inl rfl) (bh (aa (aA tL (hr.mono (by first | decide | omega)) rfl pL pO tF .nil aE (aa (pv 0) (aa aj ai aU) bO)) (aa aj ai aU) jt))) (ao (aT (i:=2) iX.nd rfl (Or.inl rfl) (aZ fS (aA Ow (hr.mono (by first | decide | omega)) rfl Kd Kr Oh .nil aE (aa (pv 1) (aa aj ai aU) bO)) (bh (aa aP ai aU)))) (ao (eX PassesOwn.never rfl (fz rfl T.range (aa aj ai aU)) (aQ (i:=3) iX.nd rfl (Or.inl rfl)) (ao (Jj (aA OA (hr.mono (by first | decide | omega)) rfl Kf Ku Oj .nil aE (aa (bh (aa (aA tL (hr.mono (by first | decide | omega)) rfl pL pO tF .nil aE (aa (pv 0) (aa (aZ dQ aj (pv 3)) ai CF) bO)) (aa aj ai aU) jt)) (aa (pv 2) ai bO) II)) (rV rfl (cH (aQ (i:=4) iX.nd rfl (Or.inl rfl)) (cH (aQ (i:=5) iX.nd rfl (Or.inl rfl)) iM)))) (ao (bR (aO bW (aA cy (hr.mono (by first | decide | omega)) rfl bK bL cu .nil aE (aa (pv 1) (aa aj ai aU) bO)) aj (aV _)) (au (aT (i:=4) iX.nd rfl (Or.inl rfl) (aZ fS (aZ CZ (bh (aa (aG (aa aP (aa (aF bM (pv 2) aj fq) ai iV) aU)) ai ck)) aj) (pv 4)))) bE) (ao (aT (i:=6) iX.nd rfl (Or.inl rfl) (aA gf (hr.mono (by first | decide | omega)) rfl fB fD fZ .nil aE (aa (bh (aa (aA tL (hr.mono (by first | decide | omega)) rfl pL pO tF .nil aE (aa (pv 0) (aa (aZ dQ aj (pv 3)) ai CF) bO)) (aa aj ai aU) jt)) (aa (pv 5) (aa aj ai aU) bO) II))) (ao (bR (aO bW (aA cy (hr.mono (by first | decide | omega)) rfl bK bL cu .nil aE (aa (pv 1) (aa aj ai aU) bO)) aj (aV _)) (au (aT (i:=4) iX.nd rfl (Or.inl rfl) (aZ fS (pv 4) (aA GZ (hr.mono (by first | decide | omega)) rfl C9 Dm GQ .nil aE (aa (pv 1) (aa (pv 5) ai bO) bO))))) bE) (ao (aT (i:=7) iX.nd rfl (Or.inl rfl) (aA SS (hr.mono (by first | decide | omega)) rfl Nt ND SD .nil aE (aa (pv 4) (aa (pv 6) ai bO) bO))) (ao (aT (i:=8) iX.nd rfl (Or.inl rfl) (aA Ox (hr.mono (by first | decide | omega)) rfl Ke Ks Oi .nil aE (aa (pv 4) (aa (pv 6) ai bO) bO))) (ao (bR (PW.pt (vX (aO C1 (pv 8) jJ (aV _)) (qw (Jf (vZ (aA GY (hr.mono (by first | decide | omega)) rfl C8 Dl GP .nil aE (aa (pv 7) ai bO))))))) (au (aJ AW)) bE) (au (bR (PW.pt (vX (aO EH (pv 8) jJ (aV _)) (qw (aO (QG 6 (uL hr)) (aA SO (hr.mono (by first | decide | omega)) rfl Np Nz Sy .nil aE (aa (aA DX (hr.mono (by first | decide | omega)) rfl zE zL DP .nil UG (aa (pv 7) ai bO)) ai jt)) (pv 8) (aV _))))) (au (aJ AW)) bE)))))))))) (au (aJ AW))))),?_⟩
  refine ⟨_,rfl,a,ns,0,rfl,hS,fun r0=>⟨(szl 2),fun d hd=>?_⟩⟩
  have s0:=new (o:=.lst [V.int r0,V.int 0]) hd
  have D0:Dr (upd H d (.lst [V.int r0,V.int 0])) d:=⟨r0,0,ah⟩
  generalize upd H d (.lst [V.int r0,V.int 0])=H0 at s0 D0 ⊢
  refine ⟨_,rfl,d,3,rfl,D0,(by decide),fun nl nm H1 b1 d1 fnl enl lnm hnm=>⟨(Nat.le_of_lt (line 1 (by decide))),fun q0 wQ=>?_⟩⟩
  have y1:=new (o:=.lst [V.str "#a"]) wQ
  refine ⟨nl,q0,_,_,rfl,rfl,y1 _ _ enl,ah,(by rw [List.length_map];show nm.length+1≤sizeLine;exact Nat.le_of_lt (line _ (by omega))),fun th hth=>?_⟩
  have y2:=new (o:=.lst (nm.map V.str++[V.str "#a"])) hth
  have eth:(upd (upd H1 q0 (.lst [V.str "#a"])) th (.lst (nm.map V.str++[V.str "#a"]))) th=some (.lst ((nm++(["#a"]:List Str)).map V.str)):=by rw [ah,List.map_append];rfl
  have D2:=(d1.same y1).same y2
  have QS:th≠d:=(d1.same y1).ne hth
  have sH:az H (upd (upd H1 q0 (.lst [V.str "#a"])) th (.lst (nm.map V.str++[V.str "#a"]))):=fun b o z=>y2 _ _ (y1 _ _ (b1 _ _ (s0 _ _ z) (av z hd)))
  have lxs:(nm++(["#a"]:List Str)).length=4:=by rw [List.length_append,lnm];rfl
  have hxs:∀ x∈nm++(["#a"]:List Str),x.length≤100:=fun x hx=>by
   rcases List.mem_append.mp hx with z | z
   ·have:=hnm x z;omega
   ·rw [List.mem_singleton.mp z];decide +kernel
  generalize upd (upd H1 q0 (.lst [V.str "#a"])) th (.lst (nm.map V.str++[V.str "#a"]))=H2 at eth D2 sH ⊢
  generalize nm++(["#a"]:List Str)=xs at eth lxs hxs
  clear y1 y2 d1 b1 enl wQ hth D0 s0
  refine ⟨(2:Int),rfl,by decide,by decide,nL (n:=(2:Int).toNat) (fun i σ H'=>∃ o3 o4 o5 o6 o7 o8:Option V,σ=[some (.ref a),some (.ref d),some (.ref th),o3,o4,o5,o6,o7,o8]∧az H H'∧Dr H' d∧H' th=some (.lst (xs.map V.str))) ⟨none,none,none,none,none,none,rfl,sH,D2,eth⟩ ?_ ?_⟩
  ·rintro i σ H3 hi ⟨o3,o4,o5,o6,o7,o8,rfl,sH3,D3,VJ⟩
   refine ⟨_,rfl,_,rfl,_,_,rfl,rfl,a,ns,1+i,(by rw [Int.zero_add,Int.natCast_add];rfl),vA sH3 hS,fun r2=>⟨(szl 2),fun d1 hd1=>?_⟩⟩
   have sd:=new (o:=.lst [V.int r2,V.int 0]) hd1
   refine ⟨_,rfl,d1,th,xs,rfl,⟨r2,0,ah⟩,sd _ _ VJ,by omega,by omega,hxs,fun r rw' kn us rs ks H4 b4 D4 fr er frw fkn erw hT hR l7 ekn kpos k7 lS=>?_⟩
   have s4:az H3 H4:=fun b o z=>b4 _ _ (sd _ _ z) (av z hd1)
   refine ⟨r,_,rfl,aX.of er,rfl,_,_,rfl,_,_,rfl,rfl,?_⟩
   have D4:=D3.same s4
   have sH4:=sH3.trans s4
   have VI:=s4 _ _ VJ
   have UO:rw'≠d:=D3.ne (jA frw)
   have Th:kn≠d:=D3.ne (jA fkn)
   have a7:dY rs≤7:=Nat.le_trans (vj rs) l7
   refine ⟨_,rfl,d,8,rfl,D4,(by decide),fun r4 H5 h4 b5 D5=>⟨rfl,_,rfl,?_⟩⟩
   have h45:=D4.soft b5
   have sH5:az H H5:=fun b o z=>b5 _ _ (sH4 _ _ z) (av z hd)
   have VM:=b5 _ _ erw UO
   have Se:=b5 _ _ ekn Th
   have RW:=b5 _ _ VI QS
   have YA:=aS hT h45
   clear erw ekn VI hT b5 h45
   by_cases z4:r4=0
   ·refine bG (by rw [z4];rfl) ?_
    obtain ⟨x0,hx0⟩:∃ x0,(xs.map V.str)[0]?=some (V.str x0):=by
     cases xs with
     | nil=>cases lxs
     | cons a b=>exact ⟨a,rfl⟩
    refine ⟨_,rfl,th,_,_,_,rfl,rfl,bC.of RW,fE (j:=0) hx0,(szl 2),fun q1 hq1=>⟨(Nat.le_of_lt (line 1 (by decide))),fun q2 hq2=>?_⟩⟩
    refine ⟨q2,10,[V.ref q1],rfl,rfl,ah,by decide,by decide,(by show 1*10≤sizeLine;exact Nat.le_of_lt (line _ (by decide))),fun q3 nX=>?_⟩
    have y1:=new (o:=.tup [V.str "any",V.str x0]) hq1
    have y2:=new (o:=.lst [V.ref q1]) hq2
    have e10:(List.replicate ((10:Int).toNat) [V.ref q1]).flatten=List.replicate 10 (V.ref q1):=AQ _ 10
    rw [e10]
    have y3:=new (o:=.lst (List.replicate 10 (V.ref q1))) nX
    have nW:=ak YA
    refine ⟨_,rfl,q3,rw',_,_,rfl,rfl,ah,y3 _ _ (y2 _ _ (y1 _ _ VM)),(by rw [List.length_replicate];exact Nat.le_of_lt (line _ (by omega))),fun q4 Yw=>?_⟩
    have y4:=new (o:=.lst (List.replicate 10 (V.ref q1)++us)) Yw
    have sy:=((y1.trans y2).trans y3).trans y4
    have hTa:iK (upd (upd (upd (upd H5 q1 (.tup [V.str "any",V.str x0])) q2 (.lst [V.ref q1])) q3 (.lst (List.replicate 10 (V.ref q1)))) q4 (.lst (List.replicate 10 (V.ref q1)++us))) (List.replicate 10 (V.ref q1)++us) (List.replicate 10 (.any x0)++rs):=cT (yc (r:=.any x0) ⟨q1,rfl,y4 _ _ (y3 _ _ (y2 _ _ ah))⟩ 10) (aS YA (aD.of sy))
    have era:(upd (upd (upd (upd H5 q1 (.tup [V.str "any",V.str x0])) q2 (.lst [V.ref q1])) q3 (.lst (List.replicate 10 (V.ref q1)))) q4 (.lst (List.replicate 10 (V.ref q1)++us))) q4=some (.lst (List.replicate 10 (V.ref q1)++us)):=ah
    have nra:q4≠d:=(((D5.same y1).same y2).same y3).ne Yw
    have Tt:lV (List.replicate 10 (.any x0)++rs):=hR.behind
    have Tn:∀ x∈ks,x∈gI (List.replicate 10 (.any x0)++rs)∧x.length≤100:=fun x hx=>⟨Dp x (lS x hx).1,(lS x hx).2⟩
    have lra:(List.replicate 10 (Rw.any x0)++rs).length≤17:=by rw [List.length_append,List.length_replicate];omega
    have ara:dY (List.replicate 10 (.any x0)++rs)≤17:=by rw [dj,BV];omega
    have Da:=D5.same sy
    have sHa:=sH5.trans sy
    have VH:=sy _ _ RW
    have R6:=sy _ _ Se
    have a4n:(List.replicate 10 (V.ref q1)++us).length≤100:=by rw [List.length_append,List.length_replicate];omega
    generalize upd (upd (upd (upd H5 q1 (.tup [V.str "any",V.str x0])) q2 (.lst [V.ref q1])) q3 (.lst (List.replicate 10 (V.ref q1)))) q4 (.lst (List.replicate 10 (V.ref q1)++us))=Ha at hTa era Da sHa VH R6 sy y4 ⊢
    generalize List.replicate 10 (V.ref q1)++us=ua at hTa era a4n
    generalize List.replicate 10 (Rw.any x0)++rs=ra at hTa Tt Tn lra ara
    refine ⟨_,rfl,_,rfl,_,_,rfl,rfl,a,ns,3+i,(by rw [Int.zero_add,Int.natCast_add];rfl),vA sHa hS,fun r5=>⟨(szl 2),fun d2 hd2=>?_⟩⟩
    have sd:=new (o:=.lst [V.int r5,V.int 0]) hd2
    refine ⟨_,rfl,d2,kn,1,ks,rfl,by decide,⟨r5,0,ah⟩,sd _ _ R6,by omega,(fun z hz=>(Tn z hz).2),fun vc cc H6 b6 d6 ht Cg hgd hfu lQ=>?_⟩
    have s6:az Ha H6:=fun b o z=>b6 _ _ (sd _ _ z) (av z hd2)
    have Ve:cc.dW≤3:=lQ
    have hcf:∀ l:List Rw,(∀ x∈ks,x∈gI l)→CP (gI l) (.hold cc):=fun l h=>⟨(Ge.of hgd).mono h,hfu,by omega,by omega⟩
    have D6:=Da.same s6
    have sH6:=sHa.trans s6
    have RV:=s6 _ _ VH
    have R8:=s6 _ _ R6
    have RY:=s6 _ _ era
    have hT6:=aS hTa (aD.of s6)
    refine ⟨_,rfl,d,3,rfl,D6,(by decide),fun r6 H7 h6 b7 d7=>⟨rfl,_,rfl,?_⟩⟩
    have UP:q4≠d:=nra
    have Vm:=D6.soft b7
    have Qm:az H H7:=fun b o z=>b7 _ _ (sH6 _ _ z) (av z hd)
    have DA:=b7 _ _ RY UP
    have R7:=b7 _ _ R8 Th
    have zX:=b7 _ _ RV QS
    have Ro:=aS hT6 Vm
    have NJ:=ht.aB Vm
    by_cases z6:r6=0
    ·refine bG (by rw [z6];rfl) ?_
     refine ⟨_,rfl,_,rfl,_,rfl,d,kn,ks,rfl,d7,R7,kpos,by omega,(fun z hz=>(Tn z hz).2),fun pl ups cps H8 b8 d8 fpl epl Vj lp hgp=>?_⟩
     have Rq:=d7.soft b8
     have RX:=b8 _ _ DA UP
     have Vl:=aS Ro Rq
     obtain ⟨q1,q2,q3⟩:=lV.holds (cs:=cps) Tt (fun x hx=>(Tn x hx).1) hgp
     have nW:=ak Vl
     have lpl:=ak Vj
     rw [List.length_map] at lpl
     refine ⟨q4,pl,_,_,rfl,rfl,RX,epl,Nat.le_of_lt (line _ (by omega)),fun rf hrf=>?_⟩
     have s9:=new (o:=.lst (ua++ups)) hrf
     have Uw:az H H8:=fun b o z=>b8 _ _ (Qm _ _ z) (av z hd)
     have Vk:=aS (cT Vl Vj) (aD.of s9)
     have hRf:lV (ra++cps.map .hold):=q1
     have lf:(ra++cps.map Rw.hold).length≤30:=by rw [List.length_append,List.length_map];omega
     have af:dY (ra++cps.map .hold)≤19:=by rw [q3];omega
     have hcc:CP (gI (ra++cps.map .hold)) (.hold cc):=hcf _ fun x hx=>by rw [q2];exact (Tn x hx).1
     refine ⟨_,rfl,_,rfl,rf,(ua++ups),(ra++cps.map Rw.hold),vc,cc,rfl,ah,Vk,hRf,lf,(NJ.aB Rq).aB (aD.of s9),hcc,fun pd Hl uD RI hD=>?_⟩
     refine ⟨_,rfl,_,rfl,rf,(ua++ups),(ra++cps.map Rw.hold),vc,cc,rfl,uD _ _ (ah),aS (Vk) (aD.of uD),hRf,lf,af,((NJ.aB Rq).aB (aD.of s9)).aB (aD.of uD),hcc,fun F hF lr Mi mD Rh=>?_,fun hN Mi mD=>?_⟩
     ·refine ⟨_,rfl,rfl,_,rfl,bf (fun z=>by cases z) (rq rfl ?_)⟩
      refine ⟨_,rfl,rfl,_,rfl,KP rfl ⟨_,rfl,pd,(ra++cps.map Rw.hold),cc,rfl,hD.same mD,hRf,lf,af,hcc,(fun F' Rp sem Qs SN s12 RH hca=>?_),(fun K0=>by rw [hF] at K0;cases K0)⟩⟩
      have eF:F'=F:=Option.some.inj (Rp.symm.trans hF)
      subst eF
      refine ⟨Qs,F',rfl,hca,sem.1,(fun k hk=>by have:=(sem.2.1 k hk).1;have:((ra++cps.map Rw.hold)).length≤30:=lf;omega),fun lt H13 pe hlt=>⟨_,rfl,qK (by decide) hlt (Rh.same (s12.trans pe)) ⟨_,rfl,rq rfl ?_⟩⟩⟩
      have sz:=((uD.trans mD).trans s12).trans pe
      exact ⟨_,_,_,_,_,_,rfl,(Uw.trans s9).trans sz,(d8.same s9).same sz,sz _ _ (s9 _ _ (b8 _ _ zX QS))⟩
     ·refine ⟨_,rfl,rfl,_,rfl,bG rfl ⟨_,rfl,pd,(ra++cps.map Rw.hold),cc,rfl,hD.same mD,hRf,lf,af,hcc,hN,fun SN s12=>⟨_,rfl,rq rfl ?_⟩⟩⟩
      have sz:=(uD.trans mD).trans s12
      exact ⟨_,rfl,rfl,_,rfl,rq rfl (rq rfl ⟨_,_,_,_,_,_,rfl,(Uw.trans s9).trans sz,(d8.same s9).same sz,sz _ _ (s9 _ _ (b8 _ _ zX QS))⟩)⟩
    ·refine bf (fun z=>z6 (by have:=V.int.inj z;omega)) ?_
     have hcc:=hcf ra fun x hx=>(Tn x hx).1
     have lf:(ra).length≤30:=by omega
     have af:dY ra≤19:=by omega
     refine ⟨_,rfl,_,rfl,q4,ua,ra,vc,cc,rfl,DA,Ro,Tt,lf,NJ,hcc,fun pd Hl uD RI hD=>?_⟩
     refine ⟨_,rfl,_,rfl,q4,ua,ra,vc,cc,rfl,uD _ _ (DA),aS (Ro) (aD.of uD),Tt,lf,af,(NJ).aB (aD.of uD),hcc,fun F hF lr Mi mD Rh=>?_,fun hN Mi mD=>?_⟩
     ·refine ⟨_,rfl,rfl,_,rfl,bf (fun z=>by cases z) (rq rfl ?_)⟩
      refine ⟨_,rfl,rfl,_,rfl,KP rfl ⟨_,rfl,pd,ra,cc,rfl,hD.same mD,Tt,lf,af,hcc,(fun F' Rp sem Qs SN s12 RH hca=>?_),(fun K0=>by rw [hF] at K0;cases K0)⟩⟩
      have eF:F'=F:=Option.some.inj (Rp.symm.trans hF)
      subst eF
      refine ⟨Qs,F',rfl,hca,sem.1,(fun k hk=>by have:=(sem.2.1 k hk).1;have:(ra).length≤30:=lf;omega),fun lt H13 pe hlt=>⟨_,rfl,qK (by decide) hlt (Rh.same (s12.trans pe)) ⟨_,rfl,rq rfl ?_⟩⟩⟩
      have sz:=((uD.trans mD).trans s12).trans pe
      exact ⟨_,_,_,_,_,_,rfl,(Qm).trans sz,(d7).same sz,sz _ _ (zX)⟩
     ·refine ⟨_,rfl,rfl,_,rfl,bG rfl ⟨_,rfl,pd,ra,cc,rfl,hD.same mD,Tt,lf,af,hcc,hN,fun SN s12=>⟨_,rfl,rq rfl ?_⟩⟩⟩
      have sz:=(uD.trans mD).trans s12
      exact ⟨_,rfl,rfl,_,rfl,rq rfl (rq rfl ⟨_,_,_,_,_,_,rfl,(Qm).trans sz,(d7).same sz,sz _ _ (zX)⟩)⟩
   ·refine bf (fun z=>z4 (by have:=V.int.inj z;omega)) ?_
    have lr5:rs.length≤17:=by omega
    have b5v:us.length≤100:=by have:=ak YA;omega
    have Kv:=lS
    have a4a:=UO
    refine ⟨_,rfl,_,rfl,_,_,rfl,rfl,a,ns,3+i,(by rw [Int.zero_add,Int.natCast_add];rfl),vA sH5 hS,fun r5=>⟨(szl 2),fun d2 hd2=>?_⟩⟩
    have sd:=new (o:=.lst [V.int r5,V.int 0]) hd2
    refine ⟨_,rfl,d2,kn,1,ks,rfl,by decide,⟨r5,0,ah⟩,sd _ _ Se,by omega,(fun z hz=>(Kv z hz).2),fun vc cc H6 b6 d6 ht Cg hgd hfu lQ=>?_⟩
    have s6:az H5 H6:=fun b o z=>b6 _ _ (sd _ _ z) (av z hd2)
    have Ve:cc.dW≤3:=lQ
    have hcf:∀ l:List Rw,(∀ x∈ks,x∈gI l)→CP (gI l) (.hold cc):=fun l h=>⟨(Ge.of hgd).mono h,hfu,by omega,by omega⟩
    have D6:=D5.same s6
    have sH6:=sH5.trans s6
    have RV:=s6 _ _ RW
    have R8:=s6 _ _ Se
    have RY:=s6 _ _ VM
    have hT6:=aS YA (aD.of s6)
    refine ⟨_,rfl,d,3,rfl,D6,(by decide),fun r6 H7 h6 b7 d7=>⟨rfl,_,rfl,?_⟩⟩
    have UP:rw'≠d:=a4a
    have Vm:=D6.soft b7
    have Qm:az H H7:=fun b o z=>b7 _ _ (sH6 _ _ z) (av z hd)
    have DA:=b7 _ _ RY UP
    have R7:=b7 _ _ R8 Th
    have zX:=b7 _ _ RV QS
    have Ro:=aS hT6 Vm
    have NJ:=ht.aB Vm
    by_cases z6:r6=0
    ·refine bG (by rw [z6];rfl) ?_
     refine ⟨_,rfl,_,rfl,_,rfl,d,kn,ks,rfl,d7,R7,kpos,by omega,(fun z hz=>(Kv z hz).2),fun pl ups cps H8 b8 d8 fpl epl Vj lp hgp=>?_⟩
     have Rq:=d7.soft b8
     have RX:=b8 _ _ DA UP
     have Vl:=aS Ro Rq
     obtain ⟨q1,q2,q3⟩:=lV.holds (cs:=cps) hR (fun x hx=>(Kv x hx).1) hgp
     have nW:=ak Vl
     have lpl:=ak Vj
     rw [List.length_map] at lpl
     refine ⟨rw',pl,_,_,rfl,rfl,RX,epl,Nat.le_of_lt (line _ (by omega)),fun rf hrf=>?_⟩
     have s9:=new (o:=.lst (us++ups)) hrf
     have Uw:az H H8:=fun b o z=>b8 _ _ (Qm _ _ z) (av z hd)
     have Vk:=aS (cT Vl Vj) (aD.of s9)
     have hRf:lV (rs++cps.map .hold):=q1
     have lf:(rs++cps.map Rw.hold).length≤30:=by rw [List.length_append,List.length_map];omega
     have af:dY (rs++cps.map .hold)≤19:=by rw [q3];omega
     have hcc:CP (gI (rs++cps.map .hold)) (.hold cc):=hcf _ fun x hx=>by rw [q2];exact (Kv x hx).1
     refine ⟨_,rfl,_,rfl,rf,(us++ups),(rs++cps.map Rw.hold),vc,cc,rfl,ah,Vk,hRf,lf,(NJ.aB Rq).aB (aD.of s9),hcc,fun pd Hl uD RI hD=>?_⟩
     refine ⟨_,rfl,_,rfl,rf,(us++ups),(rs++cps.map Rw.hold),vc,cc,rfl,uD _ _ (ah),aS (Vk) (aD.of uD),hRf,lf,af,((NJ.aB Rq).aB (aD.of s9)).aB (aD.of uD),hcc,fun F hF lr Mi mD Rh=>?_,fun hN Mi mD=>?_⟩
     ·refine ⟨_,rfl,rfl,_,rfl,bf (fun z=>by cases z) (rq rfl ?_)⟩
      refine ⟨_,rfl,rfl,_,rfl,KP rfl ⟨_,rfl,pd,(rs++cps.map Rw.hold),cc,rfl,hD.same mD,hRf,lf,af,hcc,(fun F' Rp sem Qs SN s12 RH hca=>?_),(fun K0=>by rw [hF] at K0;cases K0)⟩⟩
      have eF:F'=F:=Option.some.inj (Rp.symm.trans hF)
      subst eF
      refine ⟨Qs,F',rfl,hca,sem.1,(fun k hk=>by have:=(sem.2.1 k hk).1;have:((rs++cps.map Rw.hold)).length≤30:=lf;omega),fun lt H13 pe hlt=>⟨_,rfl,qK (by decide) hlt (Rh.same (s12.trans pe)) ⟨_,rfl,rq rfl ?_⟩⟩⟩
      have sz:=((uD.trans mD).trans s12).trans pe
      exact ⟨_,_,_,_,_,_,rfl,(Uw.trans s9).trans sz,(d8.same s9).same sz,sz _ _ (s9 _ _ (b8 _ _ zX QS))⟩
     ·refine ⟨_,rfl,rfl,_,rfl,bG rfl ⟨_,rfl,pd,(rs++cps.map Rw.hold),cc,rfl,hD.same mD,hRf,lf,af,hcc,hN,fun SN s12=>⟨_,rfl,rq rfl ?_⟩⟩⟩
      have sz:=(uD.trans mD).trans s12
      exact ⟨_,rfl,rfl,_,rfl,rq rfl (rq rfl ⟨_,_,_,_,_,_,rfl,(Uw.trans s9).trans sz,(d8.same s9).same sz,sz _ _ (s9 _ _ (b8 _ _ zX QS))⟩)⟩
    ·refine bf (fun z=>z6 (by have:=V.int.inj z;omega)) ?_
     have hcc:=hcf rs fun x hx=>(Kv x hx).1
     have lf:(rs).length≤30:=by omega
     have af:dY rs≤19:=by omega
     refine ⟨_,rfl,_,rfl,rw',us,rs,vc,cc,rfl,DA,Ro,hR,lf,NJ,hcc,fun pd Hl uD RI hD=>?_⟩
     refine ⟨_,rfl,_,rfl,rw',us,rs,vc,cc,rfl,uD _ _ (DA),aS (Ro) (aD.of uD),hR,lf,af,(NJ).aB (aD.of uD),hcc,fun F hF lr Mi mD Rh=>?_,fun hN Mi mD=>?_⟩
     ·refine ⟨_,rfl,rfl,_,rfl,bf (fun z=>by cases z) (rq rfl ?_)⟩
      refine ⟨_,rfl,rfl,_,rfl,KP rfl ⟨_,rfl,pd,rs,cc,rfl,hD.same mD,hR,lf,af,hcc,(fun F' Rp sem Qs SN s12 RH hca=>?_),(fun K0=>by rw [hF] at K0;cases K0)⟩⟩
      have eF:F'=F:=Option.some.inj (Rp.symm.trans hF)
      subst eF
      refine ⟨Qs,F',rfl,hca,sem.1,(fun k hk=>by have:=(sem.2.1 k hk).1;have:(rs).length≤30:=lf;omega),fun lt H13 pe hlt=>⟨_,rfl,qK (by decide) hlt (Rh.same (s12.trans pe)) ⟨_,rfl,rq rfl ?_⟩⟩⟩
      have sz:=((uD.trans mD).trans s12).trans pe
      exact ⟨_,_,_,_,_,_,rfl,(Qm).trans sz,(d7).same sz,sz _ _ (zX)⟩
     ·refine ⟨_,rfl,rfl,_,rfl,bG rfl ⟨_,rfl,pd,rs,cc,rfl,hD.same mD,hR,lf,af,hcc,hN,fun SN s12=>⟨_,rfl,rq rfl ?_⟩⟩⟩
      have sz:=(uD.trans mD).trans s12
      exact ⟨_,rfl,rfl,_,rfl,rq rfl (rq rfl ⟨_,_,_,_,_,_,rfl,(Qm).trans sz,(d7).same sz,sz _ _ (zX)⟩)⟩
  rintro σ H' ⟨_,_,_,_,_,_,rfl,_⟩
  exact k _
abbrev oJ:Stmt:=inClass (top 2) 0
theorem nU:aL ["self","words"] ["self","words"] (aq oJ):=⟨rfl,rfl,rfl,by decide +kernel,rfl,by decide +kernel,by decide +kernel⟩
theorem JL {f:Addr} {fd:FuncData} {Z:Cz} {n:Nat} {TM W fT fW:Addr} {dN dI:List Value} (F:dO K "__init__" "WritError.__init__" oJ f fd) (T:Txt K mg Z.s) (U:gH K mg Z) (XT:dJ K mg TM W fT fW dN dI) :bF P w K mg base fh 1 f fd ["self","words"] (nv TM):=by
 refine F.ok nU (fun vs H Q E h=>?_) (fun cdv A outer s H vs Q E hr h=>?_)
 ·obtain ⟨a,v,rfl,ha,k⟩:=h
  rfl
 ·obtain ⟨a,v,rfl,ha,k⟩:=h
  have hu:=bD hr
  rw [show ay oJ=[_] from rfl]
  refine ⟨_,(au (cV (JE XT.ct rfl XT.mgV XT.gv (aa (pv 0) (aa (pv 1) ai))))),?_⟩
  exact ⟨_,rfl,_,rfl,a,v,rfl,ha,k⟩
abbrev kr:Stmt:=inClass (top 3) 0
theorem qo:aL ["self","words"] ["self","words"] (aq kr):=⟨rfl,rfl,rfl,by decide +kernel,rfl,by decide +kernel,by decide +kernel⟩
theorem FJ {f:Addr} {fd:FuncData} {Z:Cz} {n:Nat} {TM W fT fW:Addr} {dN dI:List Value} (F:dO K "__init__" "TooMany.__init__" kr f fd) (T:Txt K mg Z.s) (U:gH K mg Z) (XT:dJ K mg TM W fT fW dN dI) (N6:∃ fd,bF P w K mg base fh 1 fW fd ["self","words"] (nv TM)∧Binds K fd ["self","words"] []):bF P w K mg base fh 2 f fd ["self","words"] (nv TM):=by
 obtain ⟨b6B,Ov,Og⟩:=N6
 refine F.ok qo (fun vs H Q E h=>?_) (fun cdv A outer s H vs Q E hr h=>?_)
 ·obtain ⟨a,v,rfl,ha,k⟩:=h
  rfl
 ·obtain ⟨a,v,rfl,ha,k⟩:=h
  have hu:=bD hr
  rw [show ay kr=[_] from rfl]
  refine ⟨_,(au (cV (MO rfl XT.mgW XT.g1 XT.g2 XT.g3 XT.g4 XT.g5 Ov (hr.mono (by decide)) Og aE (aa (pv 0) (aa (pv 1) ai))))),?_⟩
  exact ⟨_,rfl,_,rfl,a,v,rfl,ha,k⟩
theorem Ai {Z:Cz} {f0 f1 f2 f3:Addr} {Lj Li Lh Lg:FuncData} (T:Txt K mg Z.s) (U:gH K mg Z) (F0:dO K "opposite" "Compare.opposite" ud f0 Lj) (h0:Meth K (fJ Z 0) "opposite" f0) (b0:Binds K Lj ["self"] []) (F1:dO K "opposite" "Turned.opposite" tV f1 Li) (h1:Meth K (fJ Z 1) "opposite" f1) (b1:Binds K Li ["self"] []) (F2:dO K "opposite" "Every.opposite" t9 f2 Lh) (h2:Meth K (fJ Z 2) "opposite" f2) (b2:Binds K Lh ["self"] []) (F3:dO K "opposite" "Some.opposite" tY f3 Lg) (h3:Meth K (fJ Z 3) "opposite" f3) (b3:Binds K Lg ["self"] []) (gu:Mr P w K mg base 1 Z.c ["self","one","sign","other"] (jv Z)) (DH:Ot P w K mg) (gq:Mr P w K mg base 1 Z.o ["self","conditions"] (dM Z.o)) (gr:Mr P w K mg base 1 Z.e ["self","conditions"] (dM Z.e)):∀ n,M4 P w K mg base (n+2) Z "opposite" ["self"] (iB Z n):=by
 refine Df (lv:=fun n=>n+2) (sp:=fun n=>iB Z n) (fun j=>match j with | 0=>f0 | 1=>f1 | 2=>f2 | _=>f3) (fun j=>match j with | 0=>Lj | 1=>Li | 2=>Lh | _=>Lg) (fun j hj=>?_) (fun j hj=>?_) (a1U Z) (fun n R j hj=>?_)
 ·match j,hj with
  | 0,_=>exact h0
  | 1,_=>exact h1
  | 2,_=>exact h2
  | 3,_=>exact h3
 ·match j,hj with
  | 0,_=>exact b0
  | 1,_=>exact b1
  | 2,_=>exact b2
  | 3,_=>exact b3
 ·match j,hj with
  | 0,_=>exact Ni (n:=n) F0 T U gu DH
  | 1,_=>exact MX (n:=n) F1 T U
  | 2,_=>exact Ng (n:=n) F2 T U R gq
  | 3,_=>exact M6 (n:=n) F3 T U R gr
theorem DT {Z:Cz} {f0 f1 f2 f3:Addr} {Lj Li Lh Lg:FuncData} (T:Txt K mg Z.s) (U:gH K mg Z) (F0:dO K "put_in" "Compare.put_in" uc f0 Lj) (h0:Meth K (fJ Z 0) "put_in" f0) (b0:Binds K Lj ["self","sums"] []) (F1:dO K "put_in" "Turned.put_in" tU f1 Li) (h1:Meth K (fJ Z 1) "put_in" f1) (b1:Binds K Li ["self","sums"] []) (F2:dO K "put_in" "Every.put_in" tZ f2 Lh) (h2:Meth K (fJ Z 2) "put_in" f2) (b2:Binds K Lh ["self","sums"] []) (F3:dO K "put_in" "Some.put_in" tX f3 Lg) (h3:Meth K (fJ Z 3) "put_in" f3) (b3:Binds K Lg ["self","sums"] []) (mW:Mt P w K mg base 5 Z.s "put_in" ["self","sums"] (vC Z.s)) (gu:Mr P w K mg base 1 Z.c ["self","one","sign","other"] (jv Z)) (kW:Mr P w K mg base 1 Z.t ["self","condition"] (ny Z)) (gr:Mr P w K mg base 1 Z.e ["self","conditions"] (dM Z.e)) (gq:Mr P w K mg base 1 Z.o ["self","conditions"] (dM Z.o)):∀ n,M4 P w K mg base (n+5) Z "put_in" ["self","sums"] (gi Z n):=by
 refine Df (lv:=fun n=>n+5) (sp:=fun n=>gi Z n) (fun j=>match j with | 0=>f0 | 1=>f1 | 2=>f2 | _=>f3) (fun j=>match j with | 0=>Lj | 1=>Li | 2=>Lh | _=>Lg) (fun j hj=>?_) (fun j hj=>?_) (UD Z) (fun n R j hj=>?_)
 ·match j,hj with
  | 0,_=>exact h0
  | 1,_=>exact h1
  | 2,_=>exact h2
  | 3,_=>exact h3
 ·match j,hj with
  | 0,_=>exact b0
  | 1,_=>exact b1
  | 2,_=>exact b2
  | 3,_=>exact b3
 ·match j,hj with
  | 0,_=>exact Nh (n:=n) F0 T U mW gu
  | 1,_=>exact MW (n:=n) F1 T U R kW
  | 2,_=>exact Nf (n:=n) F2 T U R gr
  | 3,_=>exact M5 (n:=n) F3 T U R gq
theorem GS {Z:Cz} {TM W fT fW:Addr} {dN dI:List Value} {f0 f1 f2 f3:Addr} {Lj Li Lh Lg:FuncData} (T:Txt K mg Z.s) (U:gH K mg Z) (XT:dJ K mg TM W fT fW dN dI) (F0:dO K "cases" "Compare.cases" AO f0 Lj) (h0:Meth K (fJ Z 0) "cases" f0) (b0:Binds K Lj ["self"] []) (F1:dO K "cases" "Turned.cases" AL f1 Li) (h1:Meth K (fJ Z 1) "cases" f1) (b1:Binds K Li ["self"] []) (F2:dO K "cases" "Every.cases" AN f2 Lh) (h2:Meth K (fJ Z 2) "cases" f2) (b2:Binds K Lh ["self"] []) (F3:dO K "cases" "Some.cases" AM f3 Lg) (h3:Meth K (fJ Z 3) "cases" f3) (b3:Binds K Lg ["self"] []) (w5:Mt P w K mg base 5 Z.s "less" ["self","other"] (vD Z.s)) (Sn:Dn P w K mg base 6 "less_one" ["total"] (nA Z.s)) (qS:G1 P w K mg base TM 5 "cases_of_both" ["ones","others"] (qk Z TM)) (wZ:G1 P w K mg base TM 4 "refuse_too_many" ["count"] (vB TM)) (cY:∀ n,M4 P w K mg base (n+2) Z "opposite" ["self"] (iB Z n)):∀ n,PM P w K mg base TM (n+6) Z "cases" ["self"] (vF Z TM n):=by
 refine EN (lv:=fun n=>n+6) (sp:=fun n=>vF Z TM n) (fun j=>match j with | 0=>f0 | 1=>f1 | 2=>f2 | _=>f3) (fun j=>match j with | 0=>Lj | 1=>Li | 2=>Lh | _=>Lg) (fun j hj=>?_) (fun j hj=>?_) (cx0 Z TM) (fun n R j hj=>?_)
 ·match j,hj with
  | 0,_=>exact h0
  | 1,_=>exact h1
  | 2,_=>exact h2
  | 3,_=>exact h3
 ·match j,hj with
  | 0,_=>exact b0
  | 1,_=>exact b1
  | 2,_=>exact b2
  | 3,_=>exact b3
 ·match j,hj with
  | 0,_=>exact QO (n:=n) F0 T U XT w5 Sn
  | 1,_=>exact QJ (n:=n) F1 T U XT (cY n) R
  | 2,_=>exact QN (n:=n) F2 T U XT R qS
  | 3,_=>exact QL (n:=n) F3 T U XT R wZ
theorem GR {Z:Cz} {TM W fT fW:Addr} {dN dI:List Value} {f:Addr} {fd:FuncData} (T:Txt K mg Z.s) (U:gH K mg Z) (XT:dJ K mg TM W fT fW dN dI) (F:dO K "_law_condition" "_law_condition" mw f fd) (hm:mg "_law_condition"=some (.ref f)) (hk:PySem.W.keepIn K (.ref f)=true) (hb:Binds K fd ["_law_draw","_law_things","_law_deep"] []) (fY:Dn P w K mg base 2 "_law_next" ["_law_draw","_law_size"] jH) (pV:Dn P w K mg base 3 "_law_sum" ["_law_draw","_law_things"] rH):∀ n,Dn P w K mg base (n+3) "_law_condition" ["_law_draw","_law_things","_law_deep"] (kj n) :=
 sW (lv:=fun n=>n+3) (sp:=fun n=>kj n) hm hk hb (Qo) fun n R=>JO (n:=n) F T U XT fY pV R
theorem LP {Z:Cz} {TM W fT fW:Addr} {dN dI:List Value} {f:Addr} {fd:FuncData} (T:Txt K mg Z.s) (U:gH K mg Z) (XT:dJ K mg TM W fT fW dN dI) (F:dO K "_law_made" "_law_made" mC f fd) (hm:mg "_law_made"=some (.ref f)) (hk:PySem.W.keepIn K (.ref f)=true) (hb:Binds K fd ["_law_told_here"] []) (d_init:Mr P w K mg base 1 Z.s ["self","terms","number"] (lZ Z.s)) (gu:Mr P w K mg base 1 Z.c ["self","one","sign","other"] (jv Z)) (kW:Mr P w K mg base 1 Z.t ["self","condition"] (ny Z)) (gr:Mr P w K mg base 1 Z.e ["self","conditions"] (dM Z.e)) (gq:Mr P w K mg base 1 Z.o ["self","conditions"] (dM Z.o)):∀ n,Dn P w K mg base (n+2) "_law_made" ["_law_told_here"] (nB Z n) :=
 sW (lv:=fun n=>n+2) (sp:=fun n=>nB Z n) hm hk hb (R0 Z) fun n R=>M9 (n:=n) F T U XT d_init gu kW gr gq R
theorem LQ {Z:Cz} {TM W fT fW:Addr} {dN dI:List Value} {f:Addr} {fd:FuncData} (T:Txt K mg Z.s) (U:gH K mg Z) (XT:dJ K mg TM W fT fW dN dI) (F:dO K "_law_opposite" "_law_opposite" qu f fd) (hm:mg "_law_opposite"=some (.ref f)) (hk:PySem.W.keepIn K (.ref f)=true) (hb:Binds K fd ["_law_told_here"] []) :∀ n,Dn P w K mg base (n+1) "_law_opposite" ["_law_told_here"] (mh n) :=
 sW (lv:=fun n=>n+1) (sp:=fun n=>mh n) hm hk hb (Vc) fun n R=>Na (n:=n) F T U XT  R
theorem DU {Z:Cz} {TM W fT fW:Addr} {dN dI:List Value} {f:Addr} {fd:FuncData} (T:Txt K mg Z.s) (U:gH K mg Z) (XT:dJ K mg TM W fT fW dN dI) (F:dO K "_law_cases" "_law_cases" jx f fd) (hm:mg "_law_cases"=some (.ref f)) (hk:PySem.W.keepIn K (.ref f)=true) (hb:Binds K fd ["_law_told_here"] []) (pX:Dn P w K mg base 3 "_law_compared" ["_law_told_here"] ju) (a4p:∀ n,Dn P w K mg base (n+1) "_law_opposite" ["_law_told_here"] (mh n)) (mX:Dn P w K mg base 1 "_law_paired" ["_law_ones","_law_others"] jU):∀ n,Dn P w K mg base (n+4) "_law_cases" ["_law_told_here"] (jT n) :=
 sW (lv:=fun n=>n+4) (sp:=fun n=>jT n) hm hk hb (NL) fun n R=>FP (n:=n) F T U XT pX (a4p n) mX R
theorem LO {Z:Cz} {TM W fT fW:Addr} {dN dI:List Value} {f:Addr} {fd:FuncData} (T:Txt K mg Z.s) (U:gH K mg Z) (XT:dJ K mg TM W fT fW dN dI) (F:dO K "_law_all_put_in" "_law_all_put_in" tW f fd) (hm:mg "_law_all_put_in"=some (.ref f)) (hk:PySem.W.keepIn K (.ref f)=true) (hb:Binds K fd ["_law_told_here","_law_sums"] []) (BK:Dn P w K mg base 3 "_law_put_in" ["_law_one","_law_sums"] AD):∀ n,Dn P w K mg base (n+3) "_law_all_put_in" ["_law_told_here","_law_sums"] (rJ n) :=
 sW (lv:=fun n=>n+3) (sp:=fun n=>rJ n) hm hk hb (UH) fun n R=>M3 (n:=n) F T U XT BK R
end
end Hw
namespace Hw
open PySem L2 PyProof.Rows
theorem ZG {A:FuncData} {B:List Str} (us:List Value) (hl:us.length=0) (k:bindArgs A ⟨[],[]⟩=pure (B.zip [])):bindArgs A ⟨us,[]⟩=pure (B.zip us):=match us,hl with | [],_=>k
theorem iU {A:FuncData} {B:List Str} (us:List Value) (hl:us.length=1) (k:∀ a,bindArgs A ⟨[a],[]⟩=pure (B.zip [a])):bindArgs A ⟨us,[]⟩=pure (B.zip us):=match us,hl with | [a],_=>k a
theorem gg {A:FuncData} {B:List Str} (us:List Value) (hl:us.length=2) (k:∀ a b,bindArgs A ⟨[a,b],[]⟩=pure (B.zip [a,b])):bindArgs A ⟨us,[]⟩=pure (B.zip us):=match us,hl with | [a,b],_=>k a b
theorem PR {A:FuncData} {B:List Str} (us:List Value) (hl:us.length=3) (k:∀ a b c,bindArgs A ⟨[a,b,c],[]⟩=pure (B.zip [a,b,c])):bindArgs A ⟨us,[]⟩=pure (B.zip us):=match us,hl with | [a,b,c],_=>k a b c
theorem ZF {A:FuncData} {B:List Str} (us:List Value) (hl:us.length=4) (k:∀ a b c d,bindArgs A ⟨[a,b,c,d],[]⟩=pure (B.zip [a,b,c,d])):bindArgs A ⟨us,[]⟩=pure (B.zip us):=match us,hl with | [a,b,c,d],_=>k a b c d
theorem ZE {A:FuncData} {B:List Str} (us:List Value) (hl:us.length=5) (k:∀ a b c d e,bindArgs A ⟨[a,b,c,d,e],[]⟩=pure (B.zip [a,b,c,d,e])):bindArgs A ⟨us,[]⟩=pure (B.zip us):=match us,hl with | [a,b,c,d,e],_=>k a b c d e
theorem all_mk {l:PySem.W.OpenLaw} {w:World} {K:PySem.W.Frag} {h:Heap} {mg:Str→Option Value} {fa Cs Cc Ct Ce Co Db Wr TM e1 e2 e3 e4 e5 OD f1 f2 f3 f4 f5 f6 f7 f8 f9 VG Zx Zw Zv Zu Zt Zs Zr Zq Zp Zo Zn Zm Zl Zk Zj Zi Zh Zg Zf Ze Zd f32 Zc f34 f35 Zb Za Y9 Y8 Y7 Y6 Y5 Y4 Y3 Y0 YZ YY f48 YX f50 YW f52 YV YU YT YS YR f58 RT Tw:Addr} {HE OT:Str} {Ek:Addr} {HX rB Eg:List Value} {Aw Ie:Bool} {HA:List Str} {Ei:Option Bool} {HV:Option Addr} {HS HQ HN HL HJ:Option Value} {HF OU:Str} {El:Addr} {HY oA Eh:List Value} {Ax Ig:Bool} {HB:List Str} {Ej:Option Bool} {HW:Option Addr} {HU HR HP HM HK:Option Value} {tcd:ClassData} {oe:Nat} {t1 t2 t3 t4 t5 t6 u1 u2 u3 u4 u5 u6 tM:Tok} (X:K.In h) (G:h.Ns mainGlobals mg) (hfa:mg "law"=some (.ref fa))
  {od1 an1 od2 an2 od3 an3 od4 an4 od5 an5 od6 an6 od7 an7 od8 an8 od9 an9 a2X b0U a2W b0T a2V b0S a2U b0R a2T b0Q a2S b0P a2R b0O a2Q b0N a2P b0M a2O b0L a2N b0K a2M b0J a2L b0I a2K b0H a2J b0G a2I b0F a2H b0E a2G b0D a2F b0C a2E b0B a2D b0A a2C b0z a2B b0y a2A b0x a2z b0w a2y b0v a2x b0u a2w b0t a2v b0s a2u b0r a2t b0q a2s b0p a2r b0o a2q b0n a2p b0m a2o b0l a2n b0k a2m b0j a2l b0i a2k b0h a2j b0g a2i b0f a2h b0e a2g b0d a2f b0c a2e b0b a2d b0a a2c a99 a2b WY a2a a98 a1Z a97:Option Addr} {sl1 sl2 sl3 sl4 sl5 sl6 sl7 sl8 sl9 a0N a0M a0L a0K a0J a0I a0H a0G a0F a0E a0D a0C a0B a0A a0z a0y a0x a0w a0v a0u a0s a0r a0q a0p a0o a0n a0m a0l a0k a0j a0i a0h a0g a0f a0e a0d a0c a0b a0a Z9 Z8 Z7 Z6 Z5 Z4 Z3 Z2 Z1 Z0 ZZ ZY:Array (Option Value)} {oc1 kV1 dc1 pm1 cd1 ct1 oc2 kV2 dc2 pm2 cd2 ct2 oc3 kV3 dc3 pm3 cd3 ct3 oc4 kV4 dc4 pm4 cd4 ct4 oc5 kV5 dc5 pm5 cd5 ct5 oc6 kV6 dc6 pm6 cd6 ct6 oc7 kV7 dc7 pm7 cd7 ct7 oc8 kV8 dc8 pm8 cd8 ct8 oc9 kV9 dc9 pm9 cd9 ct9 a3W a6p a8p a1P WT a9e a3V a6o a8o a1O WS a9d a3U a6n a8n a1N WR a9c a3T a6m a8m a1M WQ a9b a3S a6l a8l a1L WO a9a a3R a6k a8k a1K WN a89 a3Q a6j a8j a1J WM a88 a3P a6i a8i a1I WL a87 a3O a6h a8h a1H WK a86 a3N a6g a8g a1G WJ a85 a3M a6f a8f a1F WI a84 a3L a6e a8e a1E WH a83 a3K a6d a8d a1D WG a82 a3J a6c a8c a1C WE a81 a3I a6b a8b a1B WD a80 a3H a6a a8a a1A WC a8Z a3G a59 a79 a1z WB a8Y a3F a5Z a78 a1y WA a8X a3E a5Y a77 a1x Wz a8W a3D a5X a76 a1w Wy a8V a3C a5W a75 a1v Wx a8U a3B a5V a74 a1u Ww a8T a3A a5U a73 a1t Wv a8S a3z a5T a72 a1s Wu a8R a3y a5S a71 a1r Wt a8Q a3x a5R a70 a1q Ws a8P a3w a5Q a7Z a1p Wq a8O a3v a5P a7Y a1o Wo a8N a3u a5O a7X a1n Wn a8M a3t a5N a7W a1m Wm a8L a3s a5M a7V a1l Wl a8K a3r a5L a7U a1k Wk a8J a3q a5K a7T a1j Wj a8I a3p a5J a7S a1i Wi a8H a3o a5I a7R a1h Wh a8G a3n a5H a7Q a1g Wg a8F a3m a5G a7P a1f Wf a8E a3l a5F a7O a1e We a8D a3k a5E a7N a1d Wd a8C a3j a5D a7M a1c Wc a8B a3i a5C a7L a1b Wb a8A a3h a5B a7K a1a Wa a8z a3g a5A a7J a09 V9 a8y a3f a5z a7I a08 V8 a8x a3e a5y a7H a07 V7 a8w a3d a5x a7G a06 V6 a8v a3c a5w a7F a05 V5 a8u a3b a5v a7E a04 V4 a8t a3a U4 VT UE Sv V0 a2Z a5u a7D a03 V3 a8s a2Y a5t a7C a02 V2 a8r:Value}
  (RC:PySem.W.nsIn K mainGlobals "Sum"=some (some (.ref Cs))) (JA:PySem.W.plainGet K Cs Str.empty=true) (KU:PySem.W.hasDictIn K Cs=true) (Jq:PySem.W.plainOver K Cs=true) (IV:PySem.W.findIn K (.ref Cs) "__setattr__"=some (some (.builtin "object.__setattr__"))) (J8:PySem.W.makesIn K Cs=true) (KH:PySem.W.keepIn K (.ref Cs)=true)
  (RG:PySem.W.nsIn K mainGlobals "Compare"=some (some (.ref Cc))) (JD:PySem.W.plainGet K Cc Str.empty=true) (KZ:PySem.W.hasDictIn K Cc=true) (Jt:PySem.W.plainOver K Cc=true) (IY:PySem.W.findIn K (.ref Cc) "__setattr__"=some (some (.builtin "object.__setattr__"))) (Kc:PySem.W.makesIn K Cc=true) (KL:PySem.W.keepIn K (.ref Cc)=true)
  (RB:PySem.W.nsIn K mainGlobals "Turned"=some (some (.ref Ct))) (Jz:PySem.W.plainGet K Ct Str.empty=true) (KS:PySem.W.hasDictIn K Ct=true) (Jp:PySem.W.plainOver K Ct=true) (IU:PySem.W.findIn K (.ref Ct) "__setattr__"=some (some (.builtin "object.__setattr__"))) (J7:PySem.W.makesIn K Ct=true) (KG:PySem.W.keepIn K (.ref Ct)=true)
  (RE:PySem.W.nsIn K mainGlobals "Every"=some (some (.ref Ce))) (JC:PySem.W.plainGet K Ce Str.empty=true) (KY:PySem.W.hasDictIn K Ce=true) (Js:PySem.W.plainOver K Ce=true) (IX:PySem.W.findIn K (.ref Ce) "__setattr__"=some (some (.builtin "object.__setattr__"))) (Ka:PySem.W.makesIn K Ce=true) (KJ:PySem.W.keepIn K (.ref Ce)=true)
  (RD:PySem.W.nsIn K mainGlobals "Some"=some (some (.ref Co))) (JB:PySem.W.plainGet K Co Str.empty=true) (KW:PySem.W.hasDictIn K Co=true) (Jr:PySem.W.plainOver K Co=true) (IW:PySem.W.findIn K (.ref Co) "__setattr__"=some (some (.builtin "object.__setattr__"))) (J9:PySem.W.makesIn K Co=true) (KI:PySem.W.keepIn K (.ref Co)=true)
  (RA:PySem.W.nsIn K mainGlobals "Debt"=some (some (.ref Db))) (Jy:PySem.W.plainGet K Db Str.empty=true) (KR:PySem.W.hasDictIn K Db=true) (Jo:PySem.W.plainOver K Db=true) (IT:PySem.W.findIn K (.ref Db) "__setattr__"=some (some (.builtin "object.__setattr__"))) (J6:PySem.W.makesIn K Db=true) (KD:PySem.W.keepIn K (.ref Db)=true)
  (Ry:PySem.W.nsIn K mainGlobals "WritError"=some (some (.ref Wr))) (HC:K.lookup Wr=some (excClassObj HE OT Wr Ek HX rB Aw HA Eg Ie Ei HV HS HQ HN HL HJ "ValueError.__new__")) (Cp:PySem.W.nsOkIn K Ek=true) (Cr:PySem.W.nsIn K Ek "__init__"=some (some (.ref RT))) (Cy:PySem.W.isFn K (.ref RT)=true) (Cv:PySem.W.keepIn K (.ref Wr)=true) (Hy:rB.contains (.type "ValueError")=true) (Ih:rB.contains (.type "AttributeError")=false) (HG:rB.contains (.type "NameError")=false) (HZ:rB.contains (.type "BaseException")=true)
  (Rz:PySem.W.nsIn K mainGlobals "TooMany"=some (some (.ref TM))) (HD:K.lookup TM=some (excClassObj HF OU TM El HY oA Ax HB Eh Ig Ej HW HU HR HP HM HK "ValueError.__new__")) (Cq:PySem.W.nsOkIn K El=true) (Cu:PySem.W.nsIn K El "__init__"=some (some (.ref Tw))) (CA:PySem.W.isFn K (.ref Tw)=true) (Cw:PySem.W.keepIn K (.ref TM)=true) (Hz:oA.contains (.type "ValueError")=true) (Ii:oA.contains (.type "AttributeError")=false) (HH:oA.contains (.type "NameError")=false) (Ic:oA.contains (.type "BaseException")=true)
  (a1:PySem.W.findIn K (.ref Cs) "__init__"=some (some (.ref f1))) (i1:PySem.W.isFn K (.ref f1)=true)
  (l1:K.lookup f1=some ⟨oc1,od1,.func (PySem.W.fnOf "__init__" "Sum.__init__" (aI vU) (ay vU) (aq vU) .none kV1 dc1 pm1 an1 cd1 ct1),sl1⟩) (c1:PySem.W.codeIn K cd1 "Sum.__init__"=true) (k1:PySem.W.keepIn K (.ref f1)=true)
  (a2:PySem.W.findIn K (.ref Cs) "plus"=some (some (.ref f2))) (i2:PySem.W.isFn K (.ref f2)=true)
  (l2:K.lookup f2=some ⟨oc2,od2,.func (PySem.W.fnOf "plus" "Sum.plus" (aI vO) (ay vO) (aq vO) .none kV2 dc2 pm2 an2 cd2 ct2),sl2⟩) (c2:PySem.W.codeIn K cd2 "Sum.plus"=true) (k2:PySem.W.keepIn K (.ref f2)=true)
  (a3:PySem.W.findIn K (.ref Cs) "times"=some (some (.ref f3))) (i3:PySem.W.isFn K (.ref f3)=true)
  (l3:K.lookup f3=some ⟨oc3,od3,.func (PySem.W.fnOf "times" "Sum.times" (aI oK) (ay oK) (aq oK) .none kV3 dc3 pm3 an3 cd3 ct3),sl3⟩) (c3:PySem.W.codeIn K cd3 "Sum.times"=true) (k3:PySem.W.keepIn K (.ref f3)=true)
  (a4:PySem.W.findIn K (.ref Cs) "less"=some (some (.ref f4))) (i4:PySem.W.isFn K (.ref f4)=true)
  (l4:K.lookup f4=some ⟨oc4,od4,.func (PySem.W.fnOf "less" "Sum.less" (aI vS) (ay vS) (aq vS) .none kV4 dc4 pm4 an4 cd4 ct4),sl4⟩) (c4:PySem.W.codeIn K cd4 "Sum.less"=true) (k4:PySem.W.keepIn K (.ref f4)=true)
  (a5:PySem.W.findIn K (.ref Cs) "put_in"=some (some (.ref f5))) (i5:PySem.W.isFn K (.ref f5)=true)
  (l5:K.lookup f5=some ⟨oc5,od5,.func (PySem.W.fnOf "put_in" "Sum.put_in" (aI oO) (ay oO) (aq oO) .none kV5 dc5 pm5 an5 cd5 ct5),sl5⟩) (c5:PySem.W.codeIn K cd5 "Sum.put_in"=true) (k5:PySem.W.keepIn K (.ref f5)=true)
  (a6:PySem.W.findIn K (.ref Db) "__init__"=some (some (.ref f6))) (i6:PySem.W.isFn K (.ref f6)=true)
  (l6:K.lookup f6=some ⟨oc6,od6,.func (PySem.W.fnOf "__init__" "Debt.__init__" (aI ku) (ay ku) (aq ku) .none kV6 dc6 pm6 an6 cd6 ct6),sl6⟩) (c6:PySem.W.codeIn K cd6 "Debt.__init__"=true) (k6:PySem.W.keepIn K (.ref f6)=true)
  (a7:PySem.W.findIn K (.ref Cc) "__init__"=some (some (.ref f7))) (i7:PySem.W.isFn K (.ref f7)=true)
  (l7:K.lookup f7=some ⟨oc7,od7,.func (PySem.W.fnOf "__init__" "Compare.__init__" (aI oY) (ay oY) (aq oY) .none kV7 dc7 pm7 an7 cd7 ct7),sl7⟩) (c7:PySem.W.codeIn K cd7 "Compare.__init__"=true) (k7:PySem.W.keepIn K (.ref f7)=true)
  (a8:PySem.W.findIn K (.ref Ct) "__init__"=some (some (.ref f8))) (i8:PySem.W.isFn K (.ref f8)=true)
  (l8:K.lookup f8=some ⟨oc8,od8,.func (PySem.W.fnOf "__init__" "Turned.__init__" (aI oM) (ay oM) (aq oM) .none kV8 dc8 pm8 an8 cd8 ct8),sl8⟩) (c8:PySem.W.codeIn K cd8 "Turned.__init__"=true) (k8:PySem.W.keepIn K (.ref f8)=true)
  (a9:PySem.W.findIn K (.ref Ce) "__init__"=some (some (.ref f9))) (i9:PySem.W.isFn K (.ref f9)=true)
  (l9:K.lookup f9=some ⟨oc9,od9,.func (PySem.W.fnOf "__init__" "Several.__init__" (aI gO) (ay gO) (aq gO) .none kV9 dc9 pm9 an9 cd9 ct9),sl9⟩) (c9:PySem.W.codeIn K cd9 "Several.__init__"=true) (k9:PySem.W.keepIn K (.ref f9)=true)
  (a10:PySem.W.findIn K (.ref Co) "__init__"=some (some (.ref VG))) (i10:PySem.W.isFn K (.ref VG)=true)
  (l10:K.lookup VG=some ⟨a3W,a2X,.func (PySem.W.fnOf "__init__" "Several.__init__" (aI gO) (ay gO) (aq gO) .none a6p a8p a1P b0U WT a9e),a0N⟩) (c10:PySem.W.codeIn K WT "Several.__init__"=true) (k10:PySem.W.keepIn K (.ref VG)=true)
  (a11:PySem.W.findIn K (.ref Cc) "put_in"=some (some (.ref Zx))) (i11:PySem.W.isFn K (.ref Zx)=true)
  (l11:K.lookup Zx=some ⟨a3V,a2W,.func (PySem.W.fnOf "put_in" "Compare.put_in" (aI uc) (ay uc) (aq uc) .none a6o a8o a1O b0T WS a9d),a0M⟩) (c11:PySem.W.codeIn K WS "Compare.put_in"=true) (Yr:PySem.W.keepIn K (.ref Zx)=true)
  (a12:PySem.W.findIn K (.ref Ct) "put_in"=some (some (.ref Zw))) (i12:PySem.W.isFn K (.ref Zw)=true)
  (l12:K.lookup Zw=some ⟨a3U,a2V,.func (PySem.W.fnOf "put_in" "Turned.put_in" (aI tU) (ay tU) (aq tU) .none a6n a8n a1N b0S WR a9c),a0L⟩) (c12:PySem.W.codeIn K WR "Turned.put_in"=true) (Yq:PySem.W.keepIn K (.ref Zw)=true)
  (a13:PySem.W.findIn K (.ref Ce) "put_in"=some (some (.ref Zv))) (i13:PySem.W.isFn K (.ref Zv)=true)
  (l13:K.lookup Zv=some ⟨a3T,a2U,.func (PySem.W.fnOf "put_in" "Every.put_in" (aI tZ) (ay tZ) (aq tZ) .none a6m a8m a1M b0R WQ a9b),a0K⟩) (c13:PySem.W.codeIn K WQ "Every.put_in"=true) (Yp:PySem.W.keepIn K (.ref Zv)=true)
  (a14:PySem.W.findIn K (.ref Co) "put_in"=some (some (.ref Zu))) (i14:PySem.W.isFn K (.ref Zu)=true)
  (l14:K.lookup Zu=some ⟨a3S,a2T,.func (PySem.W.fnOf "put_in" "Some.put_in" (aI tX) (ay tX) (aq tX) .none a6l a8l a1L b0Q WO a9a),a0J⟩) (c14:PySem.W.codeIn K WO "Some.put_in"=true) (Yo:PySem.W.keepIn K (.ref Zu)=true)
  (a15:PySem.W.findIn K (.ref Cc) "opposite"=some (some (.ref Zt))) (i15:PySem.W.isFn K (.ref Zt)=true)
  (l15:K.lookup Zt=some ⟨a3R,a2S,.func (PySem.W.fnOf "opposite" "Compare.opposite" (aI ud) (ay ud) (aq ud) .none a6k a8k a1K b0P WN a89),a0I⟩) (c15:PySem.W.codeIn K WN "Compare.opposite"=true) (Yn:PySem.W.keepIn K (.ref Zt)=true)
  (a16:PySem.W.findIn K (.ref Ct) "opposite"=some (some (.ref Zs))) (i16:PySem.W.isFn K (.ref Zs)=true)
  (l16:K.lookup Zs=some ⟨a3Q,a2R,.func (PySem.W.fnOf "opposite" "Turned.opposite" (aI tV) (ay tV) (aq tV) .none a6j a8j a1J b0O WM a88),a0H⟩) (c16:PySem.W.codeIn K WM "Turned.opposite"=true) (Ym:PySem.W.keepIn K (.ref Zs)=true)
  (a17:PySem.W.findIn K (.ref Ce) "opposite"=some (some (.ref Zr))) (i17:PySem.W.isFn K (.ref Zr)=true)
  (l17:K.lookup Zr=some ⟨a3P,a2Q,.func (PySem.W.fnOf "opposite" "Every.opposite" (aI t9) (ay t9) (aq t9) .none a6i a8i a1I b0N WL a87),a0G⟩) (c17:PySem.W.codeIn K WL "Every.opposite"=true) (Yl:PySem.W.keepIn K (.ref Zr)=true)
  (a18:PySem.W.findIn K (.ref Co) "opposite"=some (some (.ref Zq))) (i18:PySem.W.isFn K (.ref Zq)=true)
  (l18:K.lookup Zq=some ⟨a3O,a2P,.func (PySem.W.fnOf "opposite" "Some.opposite" (aI tY) (ay tY) (aq tY) .none a6h a8h a1H b0M WK a86),a0F⟩) (c18:PySem.W.codeIn K WK "Some.opposite"=true) (Yk:PySem.W.keepIn K (.ref Zq)=true)
  (a19:PySem.W.findIn K (.ref Cc) "cases"=some (some (.ref Zp))) (i19:PySem.W.isFn K (.ref Zp)=true)
  (l19:K.lookup Zp=some ⟨a3N,a2O,.func (PySem.W.fnOf "cases" "Compare.cases" (aI AO) (ay AO) (aq AO) .none a6g a8g a1G b0L WJ a85),a0E⟩) (c19:PySem.W.codeIn K WJ "Compare.cases"=true) (Yj:PySem.W.keepIn K (.ref Zp)=true)
  (a20:PySem.W.findIn K (.ref Ct) "cases"=some (some (.ref Zo))) (i20:PySem.W.isFn K (.ref Zo)=true)
  (iT:K.lookup Zo=some ⟨a3M,a2N,.func (PySem.W.fnOf "cases" "Turned.cases" (aI AL) (ay AL) (aq AL) .none a6f a8f a1F b0K WI a84),a0D⟩) (c20:PySem.W.codeIn K WI "Turned.cases"=true) (Yi:PySem.W.keepIn K (.ref Zo)=true)
  (a21:PySem.W.findIn K (.ref Ce) "cases"=some (some (.ref Zn))) (i21:PySem.W.isFn K (.ref Zn)=true)
  (l21:K.lookup Zn=some ⟨a3L,a2M,.func (PySem.W.fnOf "cases" "Every.cases" (aI AN) (ay AN) (aq AN) .none a6e a8e a1E b0J WH a83),a0C⟩) (c21:PySem.W.codeIn K WH "Every.cases"=true) (Yh:PySem.W.keepIn K (.ref Zn)=true)
  (a22:PySem.W.findIn K (.ref Co) "cases"=some (some (.ref Zm))) (i22:PySem.W.isFn K (.ref Zm)=true)
  (l22:K.lookup Zm=some ⟨a3K,a2L,.func (PySem.W.fnOf "cases" "Some.cases" (aI AM) (ay AM) (aq AM) .none a6d a8d a1D b0I WG a82),a0B⟩) (c22:PySem.W.codeIn K WG "Some.cases"=true) (Yg:PySem.W.keepIn K (.ref Zm)=true)
  (a23:PySem.W.nsIn K mainGlobals "sum_of"=some (some (.ref Zl)))
  (l23:K.lookup Zl=some ⟨a3J,a2K,.func (PySem.W.fnOf "sum_of" "sum_of" (aI oN) (ay oN) (aq oN) .none a6c a8c a1C b0H WE a81),a0A⟩) (c23:PySem.W.codeIn K WE "sum_of"=true) (Ye:PySem.W.keepIn K (.ref Zl)=true)
  (a24:PySem.W.nsIn K mainGlobals "_law_mixed"=some (some (.ref Zk)))
  (l24:K.lookup Zk=some ⟨a3I,a2J,.func (PySem.W.fnOf "_law_mixed" "_law_mixed" (aI oS) (ay oS) (aq oS) .none a6b a8b a1B b0G WD a80),a0z⟩) (c24:PySem.W.codeIn K WD "_law_mixed"=true) (Yd:PySem.W.keepIn K (.ref Zk)=true)
  (a25:PySem.W.nsIn K mainGlobals "_law_cell_at"=some (some (.ref Zj)))
  (l25:K.lookup Zj=some ⟨a3H,a2I,.func (PySem.W.fnOf "_law_cell_at" "_law_cell_at" (aI kB) (ay kB) (aq kB) .none a6a a8a a1A b0F WC a8Z),a0y⟩) (c25:PySem.W.codeIn K WC "_law_cell_at"=true) (Yc:PySem.W.keepIn K (.ref Zj)=true)
  (a26:PySem.W.nsIn K mainGlobals "_law_next"=some (some (.ref Zi)))
  (l26:K.lookup Zi=some ⟨a3G,a2H,.func (PySem.W.fnOf "_law_next" "_law_next" (aI vR) (ay vR) (aq vR) .none a59 a79 a1z b0E WB a8Y),a0x⟩) (c26:PySem.W.codeIn K WB "_law_next"=true) (Yb:PySem.W.keepIn K (.ref Zi)=true)
  (a27:PySem.W.nsIn K mainGlobals "_law_kept"=some (some (.ref Zh)))
  (l27:K.lookup Zh=some ⟨a3F,a2G,.func (PySem.W.fnOf "_law_kept" "_law_kept" (aI qv) (ay qv) (aq qv) .none a5Z a78 a1y b0D WA a8X),a0w⟩) (c27:PySem.W.codeIn K WA "_law_kept"=true) (X8:PySem.W.keepIn K (.ref Zh)=true)
  (a28:PySem.W.nsIn K mainGlobals "_law_names"=some (some (.ref Zg)))
  (l28:K.lookup Zg=some ⟨a3E,a2F,.func (PySem.W.fnOf "_law_names" "_law_names" (aI mz) (ay mz) (aq mz) .none a5Y a77 a1x b0C Wz a8W),a0v⟩) (c28:PySem.W.codeIn K Wz "_law_names"=true) (X7:PySem.W.keepIn K (.ref Zg)=true)
  (a29:PySem.W.nsIn K mainGlobals "_law_gathered"=some (some (.ref Zf)))
  (l29:K.lookup Zf=some ⟨a3D,a2E,.func (PySem.W.fnOf "_law_gathered" "_law_gathered" (aI gP) (ay gP) (aq gP) .none a5X a76 a1w b0B Wy a8V),a0u⟩) (c29:PySem.W.codeIn K Wy "_law_gathered"=true) (X6:PySem.W.keepIn K (.ref Zf)=true)
  (a30:PySem.W.nsIn K mainGlobals "less_one"=some (some (.ref Ze)))
  (l30:K.lookup Ze=some ⟨a3C,a2D,.func (PySem.W.fnOf "less_one" "less_one" (aI i0) (ay i0) (aq i0) .none a5W a75 a1v b0A Wx a8U),a0s⟩) (c30:PySem.W.codeIn K Wx "less_one"=true) (X5:PySem.W.keepIn K (.ref Ze)=true)
  (a31:PySem.W.nsIn K mainGlobals "cases_of_both"=some (some (.ref Zd)))
  (l31:K.lookup Zd=some ⟨a3B,a2C,.func (PySem.W.fnOf "cases_of_both" "cases_of_both" (aI oZ) (ay oZ) (aq oZ) .none a5V a74 a1u b0z Ww a8T),a0r⟩) (c31:PySem.W.codeIn K Ww "cases_of_both"=true) (X4:PySem.W.keepIn K (.ref Zd)=true)
  (a32:PySem.W.nsIn K mainGlobals "refuse_too_many"=some (some (.ref f32)))
  (l32:K.lookup f32=some ⟨a3A,a2B,.func (PySem.W.fnOf "refuse_too_many" "refuse_too_many" (aI vL) (ay vL) (aq vL) .none a5U a73 a1t b0y Wv a8S),a0q⟩) (c32:PySem.W.codeIn K Wv "refuse_too_many"=true) (X3:PySem.W.keepIn K (.ref f32)=true)
  (a33:PySem.W.nsIn K mainGlobals "_law_sum"=some (some (.ref Zc)))
  (l33:K.lookup Zc=some ⟨a3z,a2A,.func (PySem.W.fnOf "_law_sum" "_law_sum" (aI vN) (ay vN) (aq vN) .none a5T a72 a1s b0x Wu a8R),a0p⟩) (c33:PySem.W.codeIn K Wu "_law_sum"=true) (X0:PySem.W.keepIn K (.ref Zc)=true)
  (a34:PySem.W.nsIn K mainGlobals "_law_condition"=some (some (.ref f34)))
  (l34:K.lookup f34=some ⟨a3y,a2z,.func (PySem.W.fnOf "_law_condition" "_law_condition" (aI mw) (ay mw) (aq mw) .none a5S a71 a1r b0w Wt a8Q),a0o⟩) (c34:PySem.W.codeIn K Wt "_law_condition"=true) (XZ:PySem.W.keepIn K (.ref f34)=true)
  (a35:PySem.W.nsIn K mainGlobals "_law_made"=some (some (.ref f35)))
  (l35:K.lookup f35=some ⟨a3x,a2y,.func (PySem.W.fnOf "_law_made" "_law_made" (aI mC) (ay mC) (aq mC) .none a5R a70 a1q b0v Ws a8P),a0n⟩) (c35:PySem.W.codeIn K Ws "_law_made"=true) (XY:PySem.W.keepIn K (.ref f35)=true)
  (a36:PySem.W.nsIn K mainGlobals "once"=some (some (.ref Zb)))
  (l36:K.lookup Zb=some ⟨a3w,a2x,.func (PySem.W.fnOf "once" "once" (aI vQ) (ay vQ) (aq vQ) .none a5Q a7Z a1p b0u Wq a8O),a0m⟩) (c36:PySem.W.codeIn K Wq "once"=true) (XX:PySem.W.keepIn K (.ref Zb)=true)
  (a37:PySem.W.nsIn K mainGlobals "unknown"=some (some (.ref Za)))
  (l37:K.lookup Za=some ⟨a3v,a2w,.func (PySem.W.fnOf "unknown" "unknown" (aI iZ) (ay iZ) (aq iZ) .none a5P a7Y a1o b0t Wo a8N),a0l⟩) (c37:PySem.W.codeIn K Wo "unknown"=true) (XU:PySem.W.keepIn K (.ref Za)=true)
  (a38:PySem.W.nsIn K mainGlobals "is_never"=some (some (.ref Y9)))
  (l38:K.lookup Y9=some ⟨a3u,a2v,.func (PySem.W.fnOf "is_never" "is_never" (aI jb) (ay jb) (aq jb) .none a5O a7X a1n b0s Wn a8M),a0k⟩) (c38:PySem.W.codeIn K Wn "is_never"=true) (XS:PySem.W.keepIn K (.ref Y9)=true)
  (a39:PySem.W.nsIn K mainGlobals "is_never_met"=some (some (.ref Y8)))
  (l39:K.lookup Y8=some ⟨a3t,a2u,.func (PySem.W.fnOf "is_never_met" "is_never_met" (aI eW) (ay eW) (aq eW) .none a5N a7W a1m b0r Wm a8L),a0j⟩) (c39:PySem.W.codeIn K Wm "is_never_met"=true) (XQ:PySem.W.keepIn K (.ref Y8)=true)
  (a40:PySem.W.nsIn K mainGlobals "without_plain"=some (some (.ref Y7)))
  (l40:K.lookup Y7=some ⟨a3s,a2t,.func (PySem.W.fnOf "without_plain" "without_plain" (aI iY) (ay iY) (aq iY) .none a5M a7V a1l b0q Wl a8K),a0i⟩) (c40:PySem.W.codeIn K Wl "without_plain"=true) (XO:PySem.W.keepIn K (.ref Y7)=true)
  (a41:PySem.W.nsIn K mainGlobals "cases_with"=some (some (.ref Y6)))
  (l41:K.lookup Y6=some ⟨a3r,a2s,.func (PySem.W.fnOf "cases_with" "cases_with" (aI oH) (ay oH) (aq oH) .none a5L a7U a1k b0p Wk a8J),a0h⟩) (c41:PySem.W.codeIn K Wk "cases_with"=true) (XN:PySem.W.keepIn K (.ref Y6)=true)
  (a42:PySem.W.nsIn K mainGlobals "owed"=some (some (.ref Y5)))
  (l42:K.lookup Y5=some ⟨a3q,a2r,.func (PySem.W.fnOf "owed" "owed" (aI oR) (ay oR) (aq oR) .none a5K a7T a1j b0o Wj a8I),a0g⟩) (c42:PySem.W.codeIn K Wj "owed"=true) (XM:PySem.W.keepIn K (.ref Y5)=true)
  (a43:PySem.W.nsIn K mainGlobals "_law_ahead"=some (some (.ref Y4)))
  (l43:K.lookup Y4=some ⟨a3p,a2q,.func (PySem.W.fnOf "_law_ahead" "_law_ahead" (aI o9) (ay o9) (aq o9) .none a5J a7S a1i b0n Wi a8H),a0f⟩) (c43:PySem.W.codeIn K Wi "_law_ahead"=true) (XJ:PySem.W.keepIn K (.ref Y4)=true)
  (a44:PySem.W.nsIn K mainGlobals "_law_debt"=some (some (.ref Y3)))
  (l44:K.lookup Y3=some ⟨a3o,a2p,.func (PySem.W.fnOf "_law_debt" "_law_debt" (aI oX) (ay oX) (aq oX) .none a5I a7R a1h b0m Wh a8G),a0e⟩) (c44:PySem.W.codeIn K Wh "_law_debt"=true) (XI:PySem.W.keepIn K (.ref Y3)=true)
  (a45:PySem.W.nsIn K mainGlobals "_law_less"=some (some (.ref Y0)))
  (l45:K.lookup Y0=some ⟨a3n,a2o,.func (PySem.W.fnOf "_law_less" "_law_less" (aI oW) (ay oW) (aq oW) .none a5H a7Q a1g b0l Wg a8F),a0d⟩) (c45:PySem.W.codeIn K Wg "_law_less"=true) (XH:PySem.W.keepIn K (.ref Y0)=true)
  (a46:PySem.W.nsIn K mainGlobals "_law_paired"=some (some (.ref YZ)))
  (l46:K.lookup YZ=some ⟨a3m,a2n,.func (PySem.W.fnOf "_law_paired" "_law_paired" (aI ja) (ay ja) (aq ja) .none a5G a7P a1f b0k Wf a8E),a0c⟩) (c46:PySem.W.codeIn K Wf "_law_paired"=true) (XG:PySem.W.keepIn K (.ref YZ)=true)
  (a47:PySem.W.nsIn K mainGlobals "_law_told"=some (some (.ref YY)))
  (l47:K.lookup YY=some ⟨a3l,a2m,.func (PySem.W.fnOf "_law_told" "_law_told" (aI oU) (ay oU) (aq oU) .none a5F a7O a1e b0j We a8D),a0b⟩) (c47:PySem.W.codeIn K We "_law_told"=true) (XF:PySem.W.keepIn K (.ref YY)=true)
  (a48:PySem.W.nsIn K mainGlobals "_law_opposite"=some (some (.ref f48)))
  (l48:K.lookup f48=some ⟨a3k,a2l,.func (PySem.W.fnOf "_law_opposite" "_law_opposite" (aI qu) (ay qu) (aq qu) .none a5E a7N a1d b0i Wd a8C),a0a⟩) (c48:PySem.W.codeIn K Wd "_law_opposite"=true) (XE:PySem.W.keepIn K (.ref f48)=true)
  (a49:PySem.W.nsIn K mainGlobals "_law_compared"=some (some (.ref YX)))
  (l49:K.lookup YX=some ⟨a3j,a2k,.func (PySem.W.fnOf "_law_compared" "_law_compared" (aI fQ) (ay fQ) (aq fQ) .none a5D a7M a1c b0h Wc a8B),Z9⟩) (c49:PySem.W.codeIn K Wc "_law_compared"=true) (XD:PySem.W.keepIn K (.ref YX)=true)
  (a50:PySem.W.nsIn K mainGlobals "_law_cases"=some (some (.ref f50)))
  (l50:K.lookup f50=some ⟨a3i,a2j,.func (PySem.W.fnOf "_law_cases" "_law_cases" (aI jx) (ay jx) (aq jx) .none a5C a7L a1b b0g Wb a8A),Z8⟩) (c50:PySem.W.codeIn K Wb "_law_cases"=true) (XA:PySem.W.keepIn K (.ref f50)=true)
  (a51:PySem.W.nsIn K mainGlobals "_law_put_in"=some (some (.ref YW)))
  (l51:K.lookup YW=some ⟨a3h,a2i,.func (PySem.W.fnOf "_law_put_in" "_law_put_in" (aI CO) (ay CO) (aq CO) .none a5B a7K a1a b0f Wa a8z),Z7⟩) (c51:PySem.W.codeIn K Wa "_law_put_in"=true) (Xz:PySem.W.keepIn K (.ref YW)=true)
  (a52:PySem.W.nsIn K mainGlobals "_law_all_put_in"=some (some (.ref f52)))
  (l52:K.lookup f52=some ⟨a3g,a2h,.func (PySem.W.fnOf "_law_all_put_in" "_law_all_put_in" (aI tW) (ay tW) (aq tW) .none a5A a7J a09 b0e V9 a8y),Z6⟩) (c52:PySem.W.codeIn K V9 "_law_all_put_in"=true) (Xy:PySem.W.keepIn K (.ref f52)=true)
  (a53:PySem.W.nsIn K mainGlobals "_law_trimmed"=some (some (.ref YV)))
  (l53:K.lookup YV=some ⟨a3f,a2g,.func (PySem.W.fnOf "_law_trimmed" "_law_trimmed" (aI vK) (ay vK) (aq vK) .none a5z a7I a08 b0d V8 a8x),Z5⟩) (c53:PySem.W.codeIn K V8 "_law_trimmed"=true) (Xx:PySem.W.keepIn K (.ref YV)=true)
  (a54:PySem.W.nsIn K mainGlobals "_law_unlike"=some (some (.ref YU)))
  (l54:K.lookup YU=some ⟨a3e,a2f,.func (PySem.W.fnOf "_law_unlike" "_law_unlike" (aI CN) (ay CN) (aq CN) .none a5y a7H a07 b0c V7 a8w),Z4⟩) (c54:PySem.W.codeIn K V7 "_law_unlike"=true) (Xw:PySem.W.keepIn K (.ref YU)=true)
  (a55:PySem.W.nsIn K mainGlobals "_law_planted"=some (some (.ref YT)))
  (l55:K.lookup YT=some ⟨a3d,a2e,.func (PySem.W.fnOf "_law_planted" "_law_planted" (aI oQ) (ay oQ) (aq oQ) .none a5x a7G a06 b0b V6 a8v),Z3⟩) (c55:PySem.W.codeIn K V6 "_law_planted"=true) (Xv:PySem.W.keepIn K (.ref YT)=true)
  (a56:PySem.W.nsIn K mainGlobals "_law_owed"=some (some (.ref YS)))
  (l56:K.lookup YS=some ⟨a3c,a2d,.func (PySem.W.fnOf "_law_owed" "_law_owed" (aI oV) (ay oV) (aq oV) .none a5w a7F a05 b0a V5 a8u),Z2⟩) (c56:PySem.W.codeIn K V5 "_law_owed"=true) (Xu:PySem.W.keepIn K (.ref YS)=true)
  (a57:PySem.W.nsIn K mainGlobals "_law_refused"=some (some (.ref YR)))
  (l57:K.lookup YR=some ⟨a3b,a2c,.func (PySem.W.fnOf "_law_refused" "_law_refused" (aI vM) (ay vM) (aq vM) .none a5v a7E a04 a99 V4 a8t),Z1⟩) (c57:PySem.W.codeIn K V4 "_law_refused"=true) (Xs:PySem.W.keepIn K (.ref YR)=true)
  (a58:PySem.W.nsIn K mainGlobals "law"=some (some (.ref f58)))
  (l58:K.lookup f58=some ⟨a3a,a2b,.func (PySem.W.fnOf "law" "law" (aI xT) (ay xT) (aq xT) .none U4 VT UE WY Sv V0),Z0⟩) (c58:PySem.W.codeIn K Sv "law"=true) (k58:PySem.W.keepIn K (.ref f58)=true)
  (l59:K.lookup RT=some ⟨a2Z,a2a,.func (PySem.W.fnOf "__init__" "WritError.__init__" (aI oJ) (ay oJ) (aq oJ) .none a5u a7D a03 a98 V3 a8s),ZZ⟩) (c59:PySem.W.codeIn K V3 "WritError.__init__"=true) (Xr:PySem.W.keepIn K (.ref RT)=true)
  (l60:K.lookup Tw=some ⟨a2Y,a1Z,.func (PySem.W.fnOf "__init__" "TooMany.__init__" (aI kr) (ay kr) (aq kr) .none a5t a7C a02 a97 V2 a8r),ZY⟩) (c60:PySem.W.codeIn K V2 "TooMany.__init__"=true) (k60:PySem.W.keepIn K (.ref Tw)=true)
  (Rx:PySem.W.nsIn K mainGlobals "NoText"=some (some (.ref e1)))
  (Rv:PySem.W.nsIn K mainGlobals "NoSense"=some (some (.ref e2)))
  (Ru:PySem.W.nsIn K mainGlobals "NoRun"=some (some (.ref e3)))
  (Rt:PySem.W.nsIn K mainGlobals "Fault"=some (some (.ref e4)))
  (Rr:PySem.W.nsIn K mainGlobals "TooHard"=some (some (.ref e5)))
  (pH:PySem.W.findIn K (.ref Cs) "terms"=some none)
  (mL:PySem.W.findIn K (.ref Cs) "number"=some none)
  (wu:PySem.W.findIn K (.ref Cc) "one"=some none)
  (r8:PySem.W.findIn K (.ref Cc) "sign"=some none)
  (pI:PySem.W.findIn K (.ref Cc) "other"=some none)
  (jf:PySem.W.findIn K (.ref Ct) "condition"=some none)
  (iF:PySem.W.findIn K (.ref Ce) "conditions"=some none)
  (iE:PySem.W.findIn K (.ref Co) "conditions"=some none)
  (rZ:PySem.W.findIn K (.ref Db) "kind"=some none)
  (zB:PySem.W.findIn K (.ref Db) "at"=some none)
  (pG:PySem.W.findIn K (.ref Db) "ahead"=some none)
  (je:PySem.W.findIn K (.ref Db) "condition"=some none)
  (Hr:PySem.W.nsIn K mainGlobals "len"=some none)
  (Ho:PySem.W.nsIn K mainGlobals "sum"=some none)
  (vn:PySem.W.nsIn K mainGlobals "sorted"=some none)
  (Cm:PySem.W.nsIn K mainGlobals "list"=some none)
  (yN:PySem.W.nsIn K mainGlobals "tuple"=some none)
  (kg:PySem.W.nsIn K mainGlobals "isinstance"=some none)
  (yO:PySem.W.nsIn K mainGlobals "range"=some none)
  (Hx:PySem.W.nsIn K mainGlobals "abs"=some none)
  (Hq:PySem.W.nsIn K mainGlobals "str"=some none)
  (Hs:PySem.W.nsIn K mainGlobals "int"=some none)
  (Cn:PySem.W.nsIn K mainGlobals "dict"=some none)
  (Hv:PySem.W.nsIn K mainGlobals "all"=some none)
  (Hu:PySem.W.nsIn K mainGlobals "any"=some none)
  (ki:PySem.W.nsIn K mainGlobals "ValueError"=some none)
  (Mm:PySem.W.specialIn K (.builtin "object.__class__") "__get__"=some (some (.builtin "getset_descriptor.__get__")))
  (Ml:PySem.W.takesIn K (.builtin "object.__class__")=some true)
  (CC:PySem.W.findIn K (.ref Cs) "__class__"=some (some (.builtin "object.__class__")))
  (CB:PySem.W.mroIn K Cs (.type "object")=some true)
  (PY:PySem.W.specialIn K (.ref Wr) "__getattribute__"=some (some (.builtin "type.__getattribute__")))
  (PX:PySem.W.readsIn K Wr (.type "type")=true)
  (PZ:PySem.W.findCls K (.ref Wr) (.type "type") "__init__"=some (.val (.ref RT)))
  (P1:PySem.W.findCls K (.type "ValueError") (.type "type") "__init__"=some (.val (.builtin "ValueError.__init__")))
  (Il:(Value.ref TM::oA).contains (.ref Wr)=true)
  (Im:PySem.W.findIn K (.ref TM) "__getattribute__"=some (some (.builtin "BaseException.__getattribute__")))
  (Ik:PySem.W.findIn K (.ref TM) "__getattr__"=some none)
  (Ip:PySem.W.findIn K (.ref TM) "__class__"=some (some (.builtin "object.__class__")))
  (Ij:PySem.W.mroIn K TM (.type "object")=some true)
  (Iq:PySem.W.subIn K (.ref TM) (.type "BaseException")=some true)
  (Io:PySem.W.clsIn K TM=some tcd)
  (Iw:PySem.W.kitAny K (.ref TM) [.ref e1,.ref e2,.ref e3]=some false)
  (Iv:PySem.W.kitAny K (.ref TM) [.ref e4,.ref e5]=some false)
  (Iu:PySem.W.kitOne K (.ref TM) (.ref TM)=some true)
  (Ir:PySem.W.kitOne K (.ref TM) (.type "ValueError")=some true)
  (P5:PySem.W.nsIn K mainGlobals "OPPOSITE_SIGNS"=some (some (.ref OD)))
  (P4:K.lookup OD=some ⟨.type "dict",none,.dict #[⟨PyData.keyHash w.params "<",.str "<" t1,.str ">=" u1⟩,⟨PyData.keyHash w.params ">=",.str ">=" t2,.str "<" u2⟩,⟨PyData.keyHash w.params "<=",.str "<=" t3,.str ">" u3⟩,⟨PyData.keyHash w.params ">",.str ">" t4,.str "<=" u4⟩,⟨PyData.keyHash w.params "=",.str "=" t5,.str "!=" u5⟩,⟨PyData.keyHash w.params "!=",.str "!=" t6,.str "=" u6⟩] oe,#[]⟩)
  (P6:PySem.W.nsIn K mainGlobals "MOST_CASES"=some (some (.int 64 tM)))
 :∃ fd:FuncData,(∀ (s:Shared) (v:Value),BindsTo s fd ⟨[v],[]⟩ [("_law_script",v)])∧∀ base:Heap,K.In base→base.Ns mainGlobals mg→bF l.prog w K mg base fh 24 fa fd ["_law_script"] (Ew K):=by
 have e:=hfa.symm.trans (PySem.W.mg_of X G a58)
 cases e
 let Z:Cz:=(⟨Cs,Cc,Ct,Ce,Co⟩:Cz)
 have naD:∀ x∈(["kind","at","ahead","condition"]:List Str),fN K Db x:=by
  intro x hx
  rcases List.mem_cons.mp hx with e | hx
  ·rw [e];exact rZ
  rcases List.mem_cons.mp hx with e | hx
  ·rw [e];exact zB
  rcases List.mem_cons.mp hx with e | hx
  ·rw [e];exact pG
  rcases List.mem_cons.mp hx with e | hx
  ·rw [e];exact je
  exact absurd hx List.not_mem_nil
 have W:TX K mg Db:=⟨⟨Jy,KR,Jo,IT⟩,naD,PySem.W.mg_of X G RA⟩
 have T:Txt K mg Z.s:=⟨⟨JA,KU,Jq,IV⟩,pH,mL,PySem.W.mg_of X G RC,PySem.W.mg_none_of X G Hr,PySem.W.mg_none_of X G Ho,PySem.W.mg_none_of X G vn,PySem.W.mg_none_of X G Cm,PySem.W.mg_none_of X G yN,PySem.W.mg_none_of X G kg,PySem.W.mg_none_of X G yO,PySem.W.mg_none_of X G Hx,PySem.W.mg_none_of X G Hq,PySem.W.mg_none_of X G Hs,PySem.W.mg_none_of X G Cn,CC,Mm,Ml,CB,NG K Cs,NF K⟩
 have cl4:∀ j,j < 4→Ef K (fJ Z j):=fun j hj=>match j,hj with
  | 0,_=>⟨JD,KZ,Jt,IY⟩
  | 1,_=>⟨Jz,KS,Jp,IU⟩
  | 2,_=>⟨JC,KY,Js,IX⟩
  | 3,_=>⟨JB,KW,Jr,IW⟩
 have U:gH K mg Z:=⟨cl4,wu,r8,pI,jf,iF,iE,PySem.W.mg_of X G RG,PySem.W.mg_of X G RB,PySem.W.mg_of X G RE,PySem.W.mg_of X G RD,PySem.W.mg_none_of X G Hv,PySem.W.mg_none_of X G Hu⟩
 have XT:dJ K mg TM Wr Tw RT oA rB:=⟨⟨⟨HF,OU,El,HY,Ax,HB,Eh,Ig,Ej,HW,HU,HR,HP,HM,HK,HD,Cq,Cu⟩,CA,Cw,Hz,Ii,HH,Ic⟩,⟨⟨HE,OT,Ek,HX,Aw,HA,Eg,Ie,Ei,HV,HS,HQ,HN,HL,HJ,HC,Cp,Cr⟩,Cy,Cv,Hy,Ih,HG,HZ⟩,Il,PySem.W.mg_of X G Rz,PySem.W.mg_of X G Ry,PySem.W.mg_none_of X G ki,PY,PX,PZ,rfl,Xr,P1⟩
 have Xb:∃ a1 a2 a3 a4 a5,XRf K mg TM a1 a2 a3 a4 a5:=⟨e1,e2,e3,e4,e5,⟨Im,Ik,Ip,Mm,Ml,Ij,Iq,by rw [Io];rfl⟩,PySem.W.mg_of X G Rx,PySem.W.mg_of X G Rv,PySem.W.mg_of X G Ru,PySem.W.mg_of X G Rt,PySem.W.mg_of X G Rr,Iw,Iv,Iu,Ir⟩
 have S4:Ot l.prog w K mg:=MT (PySem.W.mg_of X G P5) P4
 have S7:∃ t,mg "MOST_CASES"=some (.int 64 t):=⟨tM,PySem.W.mg_of X G P6⟩
 have F1:=aY (st:=vU) l1 c1 k1
 have b1:=F1.binds (ps:=["self","terms","number"]) fun _ _ _ _ _ _ us hl=>PR us hl fun _ _ _=>rfl
 have F2:=aY (st:=vO) l2 c2 k2
 have b2:=F2.binds (ps:=["self","other"]) fun _ _ _ _ _ _ us hl=>gg us hl fun _ _=>rfl
 have F3:=aY (st:=oK) l3 c3 k3
 have b3:=F3.binds (ps:=["self","number"]) fun _ _ _ _ _ _ us hl=>gg us hl fun _ _=>rfl
 have F4:=aY (st:=vS) l4 c4 k4
 have b4:=F4.binds (ps:=["self","other"]) fun _ _ _ _ _ _ us hl=>gg us hl fun _ _=>rfl
 have F5:=aY (st:=oO) l5 c5 k5
 have b5:=F5.binds (ps:=["self","sums"]) fun _ _ _ _ _ _ us hl=>gg us hl fun _ _=>rfl
 have F6:=aY (st:=ku) l6 c6 k6
 have b6:=F6.binds (ps:=["self","kind","at","ahead","condition"]) fun _ _ _ _ _ _ us hl=>ZE us hl fun _ _ _ _ _=>rfl
 have F7:=aY (st:=oY) l7 c7 k7
 have b7:=F7.binds (ps:=["self","one","sign","other"]) fun _ _ _ _ _ _ us hl=>ZF us hl fun _ _ _ _=>rfl
 have F8:=aY (st:=oM) l8 c8 k8
 have b8:=F8.binds (ps:=["self","condition"]) fun _ _ _ _ _ _ us hl=>gg us hl fun _ _=>rfl
 have F9:=aY (st:=gO) l9 c9 k9
 have b9:=F9.binds (ps:=["self","conditions"]) fun _ _ _ _ _ _ us hl=>gg us hl fun _ _=>rfl
 have xY:=aY (st:=gO) l10 c10 k10
 have p5:=xY.binds (ps:=["self","conditions"]) fun _ _ _ _ _ _ us hl=>gg us hl fun _ _=>rfl
 have F11:=aY (st:=uc) l11 c11 Yr
 have b11:=F11.binds (ps:=["self","sums"]) fun _ _ _ _ _ _ us hl=>gg us hl fun _ _=>rfl
 have F12:=aY (st:=tU) l12 c12 Yq
 have b12:=F12.binds (ps:=["self","sums"]) fun _ _ _ _ _ _ us hl=>gg us hl fun _ _=>rfl
 have F13:=aY (st:=tZ) l13 c13 Yp
 have WX:=F13.binds (ps:=["self","sums"]) fun _ _ _ _ _ _ us hl=>gg us hl fun _ _=>rfl
 have F14:=aY (st:=tX) l14 c14 Yo
 have b14:=F14.binds (ps:=["self","sums"]) fun _ _ _ _ _ _ us hl=>gg us hl fun _ _=>rfl
 have F15:=aY (st:=ud) l15 c15 Yn
 have b15:=F15.binds (ps:=["self"]) fun _ _ _ _ _ _ us hl=>iU us hl fun _=>rfl
 have F16:=aY (st:=tV) l16 c16 Ym
 have b16:=F16.binds (ps:=["self"]) fun _ _ _ _ _ _ us hl=>iU us hl fun _=>rfl
 have F17:=aY (st:=t9) l17 c17 Yl
 have b17:=F17.binds (ps:=["self"]) fun _ _ _ _ _ _ us hl=>iU us hl fun _=>rfl
 have F18:=aY (st:=tY) l18 c18 Yk
 have b18:=F18.binds (ps:=["self"]) fun _ _ _ _ _ _ us hl=>iU us hl fun _=>rfl
 have F19:=aY (st:=AO) l19 c19 Yj
 have b19:=F19.binds (ps:=["self"]) fun _ _ _ _ _ _ us hl=>iU us hl fun _=>rfl
 have F20:=aY (st:=AL) iT c20 Yi
 have b20:=F20.binds (ps:=["self"]) fun _ _ _ _ _ _ us hl=>iU us hl fun _=>rfl
 have F21:=aY (st:=AN) l21 c21 Yh
 have b21:=F21.binds (ps:=["self"]) fun _ _ _ _ _ _ us hl=>iU us hl fun _=>rfl
 have F22:=aY (st:=AM) l22 c22 Yg
 have b22:=F22.binds (ps:=["self"]) fun _ _ _ _ _ _ us hl=>iU us hl fun _=>rfl
 have F23:=aY (st:=oN) l23 c23 Ye
 have b23:=F23.binds (ps:=["pairs","number"]) fun _ _ _ _ _ _ us hl=>gg us hl fun _ _=>rfl
 have F24:=aY (st:=oS) l24 c24 Yd
 have b24:=F24.binds (ps:=["_law_cell","_law_k"]) fun _ _ _ _ _ _ us hl=>gg us hl fun _ _=>rfl
 have F25:=aY (st:=kB) l25 c25 Yc
 have b25:=F25.binds (ps:=["_law_script","_law_k"]) fun _ _ _ _ _ _ us hl=>gg us hl fun _ _=>rfl
 have F26:=aY (st:=vR) l26 c26 Yb
 have b26:=F26.binds (ps:=["_law_draw","_law_size"]) fun _ _ _ _ _ _ us hl=>gg us hl fun _ _=>rfl
 have F27:=aY (st:=qv) l27 c27 X8
 have b27:=F27.binds (ps:=[]) fun _ _ _ _ _ _ us hl=>ZG us hl rfl
 have F28:=aY (st:=mz) l28 c28 X7
 have b28:=F28.binds (ps:=["_law_draw","_law_many"]) fun _ _ _ _ _ _ us hl=>gg us hl fun _ _=>rfl
 have F29:=aY (st:=gP) l29 c29 X6
 have b29:=F29.binds (ps:=["_law_pairs","_law_number"]) fun _ _ _ _ _ _ us hl=>gg us hl fun _ _=>rfl
 have F30:=aY (st:=i0) l30 c30 X5
 have b30:=F30.binds (ps:=["total"]) fun _ _ _ _ _ _ us hl=>iU us hl fun _=>rfl
 have F31:=aY (st:=oZ) l31 c31 X4
 have b31:=F31.binds (ps:=["ones","others"]) fun _ _ _ _ _ _ us hl=>gg us hl fun _ _=>rfl
 have F32:=aY (st:=vL) l32 c32 X3
 have b32:=F32.binds (ps:=["count"]) fun _ _ _ _ _ _ us hl=>iU us hl fun _=>rfl
 have F33:=aY (st:=vN) l33 c33 X0
 have b33:=F33.binds (ps:=["_law_draw","_law_things"]) fun _ _ _ _ _ _ us hl=>gg us hl fun _ _=>rfl
 have F34:=aY (st:=mw) l34 c34 XZ
 have SE:=F34.binds (ps:=["_law_draw","_law_things","_law_deep"]) fun _ _ _ _ _ _ us hl=>PR us hl fun _ _ _=>rfl
 have F35:=aY (st:=mC) l35 c35 XY
 have b35:=F35.binds (ps:=["_law_told_here"]) fun _ _ _ _ _ _ us hl=>iU us hl fun _=>rfl
 have F36:=aY (st:=vQ) l36 c36 XX
 have b36:=F36.binds (ps:=["thing"]) fun _ _ _ _ _ _ us hl=>iU us hl fun _=>rfl
 have F37:=aY (st:=iZ) l37 c37 XU
 have b37:=F37.binds (ps:=["place"]) fun _ _ _ _ _ _ us hl=>iU us hl fun _=>rfl
 have F38:=aY (st:=jb) l38 c38 XS
 have b38:=F38.binds (ps:=["total"]) fun _ _ _ _ _ _ us hl=>iU us hl fun _=>rfl
 have F39:=aY (st:=eW) l39 c39 XQ
 have b39:=F39.binds (ps:=["case"]) fun _ _ _ _ _ _ us hl=>iU us hl fun _=>rfl
 have F40:=aY (st:=iY) l40 c40 XO
 have b40:=F40.binds (ps:=["case"]) fun _ _ _ _ _ _ us hl=>iU us hl fun _=>rfl
 have F41:=aY (st:=oH) l41 c41 XN
 have b41:=F41.binds (ps:=["cases","condition"]) fun _ _ _ _ _ _ us hl=>gg us hl fun _ _=>rfl
 have F42:=aY (st:=oR) l42 c42 XM
 have b42:=F42.binds (ps:=["debt"]) fun _ _ _ _ _ _ us hl=>iU us hl fun _=>rfl
 have F43:=aY (st:=o9) l43 c43 XJ
 have b43:=F43.binds (ps:=["_law_draw","_law_things"]) fun _ _ _ _ _ _ us hl=>gg us hl fun _ _=>rfl
 have F44:=aY (st:=oX) l44 c44 XI
 have b44:=F44.binds (ps:=["_law_rows","_law_told_here"]) fun _ _ _ _ _ _ us hl=>gg us hl fun _ _=>rfl
 have F45:=aY (st:=oW) l45 c45 XH
 have b45:=F45.binds (ps:=["_law_one","_law_other","_law_number"]) fun _ _ _ _ _ _ us hl=>PR us hl fun _ _ _=>rfl
 have F46:=aY (st:=ja) l46 c46 XG
 have b46:=F46.binds (ps:=["_law_ones","_law_others"]) fun _ _ _ _ _ _ us hl=>gg us hl fun _ _=>rfl
 have F47:=aY (st:=oU) l47 c47 XF
 have b47:=F47.binds (ps:=["_law_cases_here"]) fun _ _ _ _ _ _ us hl=>iU us hl fun _=>rfl
 have F48:=aY (st:=qu) l48 c48 XE
 have b48:=F48.binds (ps:=["_law_told_here"]) fun _ _ _ _ _ _ us hl=>iU us hl fun _=>rfl
 have F49:=aY (st:=fQ) l49 c49 XD
 have b49:=F49.binds (ps:=["_law_told_here"]) fun _ _ _ _ _ _ us hl=>iU us hl fun _=>rfl
 have F50:=aY (st:=jx) l50 c50 XA
 have b50:=F50.binds (ps:=["_law_told_here"]) fun _ _ _ _ _ _ us hl=>iU us hl fun _=>rfl
 have F51:=aY (st:=CO) l51 c51 Xz
 have b51:=F51.binds (ps:=["_law_one","_law_sums"]) fun _ _ _ _ _ _ us hl=>gg us hl fun _ _=>rfl
 have F52:=aY (st:=tW) l52 c52 Xy
 have b52:=F52.binds (ps:=["_law_told_here","_law_sums"]) fun _ _ _ _ _ _ us hl=>gg us hl fun _ _=>rfl
 have F53:=aY (st:=vK) l53 c53 Xx
 have b53:=F53.binds (ps:=["_law_case"]) fun _ _ _ _ _ _ us hl=>iU us hl fun _=>rfl
 have F54:=aY (st:=CN) l54 c54 Xw
 have b54:=F54.binds (ps:=["_law_draw","_law_known"]) fun _ _ _ _ _ _ us hl=>gg us hl fun _ _=>rfl
 have F55:=aY (st:=oQ) l55 c55 Xv
 have b55:=F55.binds (ps:=["_law_draw","_law_known"]) fun _ _ _ _ _ _ us hl=>gg us hl fun _ _=>rfl
 have F56:=aY (st:=oV) l56 c56 Xu
 have b56:=F56.binds (ps:=["_law_rows","_law_told_here"]) fun _ _ _ _ _ _ us hl=>gg us hl fun _ _=>rfl
 have F57:=aY (st:=vM) l57 c57 Xs
 have WW:=F57.binds (ps:=["_law_debt_here"]) fun _ _ _ _ _ _ us hl=>iU us hl fun _=>rfl
 have F58:=aY (st:=xT) l58 c58 k58
 have F59:=aY (st:=oJ) l59 c59 Xr
 have b59:=F59.binds (ps:=["self","words"]) fun _ _ _ _ _ _ us hl=>gg us hl fun _ _=>rfl
 have F60:=aY (st:=kr) l60 c60 k60
 have b60:=F60.binds (ps:=["self","words"]) fun _ _ _ _ _ _ us hl=>gg us hl fun _ _=>rfl
 refine ⟨PySem.W.fnOf "law" "law" (aI xT) (ay xT) (aq xT) .none U4 VT UE WY Sv V0,fun s v=>.of_eq rfl,fun base _ _=>?_⟩
 have xJ:Mr l.prog w K mg base 1 Z.s ["self","terms","number"] (lZ Z.s):=⟨f1,_,Nd F1 T ,⟨J8,a1,i1,KH⟩,b1⟩
 have xG:Dn l.prog w K mg base 3 "sum_of" ["pairs","number"] (qj Z.s):=⟨Zl,_,FL F23 T xJ,PySem.W.mg_of X G a23,Ye,b23⟩
 have SY:Mt l.prog w K mg base 4 Z.s "plus" ["self","other"] (CI Z.s):=⟨f2,_,M1 F2 T xG,⟨a2,i2,k2⟩,b2⟩
 have Fo:Mt l.prog w K mg base 4 Z.s "times" ["self","number"] (uS Z.s):=⟨f3,_,JN F3 T xG,⟨a3,i3,k3⟩,b3⟩
 have L6:Mt l.prog w K mg base 5 Z.s "less" ["self","other"] (vD Z.s):=⟨f4,_,Nb F4 T SY Fo,⟨a4,i4,k4⟩,b4⟩
 have BZ:Mt l.prog w K mg base 5 Z.s "put_in" ["self","sums"] (vC Z.s):=⟨f5,_,FN F5 T Fo xG,⟨a5,i5,k5⟩,b5⟩
 have Fq:Dn l.prog w K mg base 1 "_law_mixed" ["_law_cell","_law_k"] uU:=⟨Zk,_,JT F24 T ,PySem.W.mg_of X G a24,Yd,b24⟩
 have G4:Dn l.prog w K mg base 2 "_law_cell_at" ["_law_script","_law_k"] (CK K):=⟨Zj,_,C4 F25 T Fq,PySem.W.mg_of X G a25,Yc,b25⟩
 have p7:Dn l.prog w K mg base 2 "_law_next" ["_law_draw","_law_size"] jH:=⟨Zi,_,M8 F26 T Fq,PySem.W.mg_of X G a26,Yb,b26⟩
 have S8:Dn l.prog w K mg base 1 "_law_kept" [] y9:=⟨Zh,_,Nc F27 T ,PySem.W.mg_of X G a27,X8,b27⟩
 have OF:Dn l.prog w K mg base 3 "_law_names" ["_law_draw","_law_many"] yX:=⟨Zg,_,JS F28 T p7 S8,PySem.W.mg_of X G a28,X7,b28⟩
 have xK:Dn l.prog w K mg base 1 "_law_gathered" ["_law_pairs","_law_number"] za:=⟨Zf,_,A8 F29 T ,PySem.W.mg_of X G a29,X6,b29⟩
 have Ar:Mr l.prog w K mg base 1 Z.c ["self","one","sign","other"] (jv Z):=⟨f7,_,JZ (n:=0) F7 T U ,⟨Kc,a7,i7,KL⟩,b7⟩
 have Fl:Mr l.prog w K mg base 1 Z.t ["self","condition"] (ny Z):=⟨f8,_,JM (n:=0) F8 T U ,⟨J7,a8,i8,KG⟩,b8⟩
 have Aq:Mr l.prog w K mg base 1 Z.e ["self","conditions"] (dM Z.e):=⟨f9,_,JY (n:=0) F9 T U ,⟨Ka,a9,i9,KJ⟩,b9⟩
 have Ao:Mr l.prog w K mg base 1 Z.o ["self","conditions"] (dM Z.o):=⟨VG,_,JR (n:=0) xY T U ,⟨J9,a10,i10,KI⟩,p5⟩
 have G3:Dn l.prog w K mg base 6 "less_one" ["total"] (nA Z.s):=⟨Ze,_,C3 (n:=0) F30 T U xJ L6,PySem.W.mg_of X G a30,X5,b30⟩
 have OC:∃ fd,bF l.prog w K mg base fh 1 RT fd ["self","words"] (nv TM)∧Binds K fd ["self","words"] []:=⟨_,JL (n:=0) F59 T U XT ,b59⟩
 have LZ:∃ fd,bF l.prog w K mg base fh 2 Tw fd ["self","words"] (nv TM)∧Binds K fd ["self","words"] []:=⟨_,FJ (n:=0) F60 T U XT OC,b60⟩
 have L5:G1 l.prog w K mg base TM 4 "refuse_too_many" ["count"] (vB TM):=⟨f32,_,MY (n:=0) F32 T U XT S7 LZ,PySem.W.mg_of X G a32,X3,b32⟩
 have Ft:G1 l.prog w K mg base TM 5 "cases_of_both" ["ones","others"] (qk Z TM):=⟨Zd,_,J0 (n:=0) F31 T U XT L5,PySem.W.mg_of X G a31,X4,b31⟩
 have L7:Mr l.prog w K mg base 1 Db ["self","kind","at","ahead","condition"] (IL Db):=⟨f6,_,FQ (n:=0) F6 T U XT W ,⟨J6,a6,i6,KD⟩,b6⟩
 have S6:Dn l.prog w K mg base 3 "once" ["thing"] (CJ Z.s):=⟨Zb,_,M7 (n:=0) F36 T U XT xJ,PySem.W.mg_of X G a36,XX,b36⟩
 have G2:Dn l.prog w K mg base 1 "unknown" ["place"] IK:=⟨Za,_,C2 (n:=0) F37 T U XT ,PySem.W.mg_of X G a37,XU,b37⟩
 have Ec:Dn l.prog w K mg base 1 "is_never" ["total"] (yW Z.s):=⟨Y9,_,A7 (n:=0) F38 T U XT ,PySem.W.mg_of X G a38,XS,b38⟩
 have xH:Dn l.prog w K mg base 2 "is_never_met" ["case"] (oE Z.s):=⟨Y8,_,uE (n:=0) F39 T U XT Ec,PySem.W.mg_of X G a39,XQ,b39⟩
 have uQ:Dn l.prog w K mg base 1 "without_plain" ["case"] (rG Z.s):=⟨Y7,_,rY (n:=0) F40 T U XT ,PySem.W.mg_of X G a40,XO,b40⟩
 have Eb:Dn l.prog w K mg base 3 "_law_sum" ["_law_draw","_law_things"] rH:=⟨Zc,_,M0 (n:=0) F33 T U XT p7,PySem.W.mg_of X G a33,X0,b33⟩
 have OL:Dn l.prog w K mg base 2 "_law_less" ["_law_one","_law_other","_law_number"] zc:=⟨Y0,_,JW (n:=0) F45 T U XT xK,PySem.W.mg_of X G a45,XH,b45⟩
 have Ed:Dn l.prog w K mg base 3 "_law_compared" ["_law_told_here"] ju:=⟨YX,_,A9 (n:=0) F49 T U XT OL,PySem.W.mg_of X G a49,XD,b49⟩
 have B0:Dn l.prog w K mg base 1 "_law_paired" ["_law_ones","_law_others"] jU:=⟨YZ,_,FO (n:=0) F46 T U XT ,PySem.W.mg_of X G a46,XG,b46⟩
 have OG:Dn l.prog w K mg base 1 "_law_told" ["_law_cases_here"] (zb Z):=⟨YY,_,JU (n:=0) F47 T U XT ,PySem.W.mg_of X G a47,XF,b47⟩
 have PN:Dn l.prog w K mg base 3 "_law_put_in" ["_law_one","_law_sums"] AD:=⟨YW,_,QK (n:=0) F51 T U XT xK,PySem.W.mg_of X G a51,Xz,b51⟩
 have SW:Dn l.prog w K mg base 1 "_law_trimmed" ["_law_case"] CG:=⟨YV,_,MV (n:=0) F53 T U XT ,PySem.W.mg_of X G a53,Xx,b53⟩
 have Xc:Dn l.prog w K mg base 5 "_law_unlike" ["_law_draw","_law_known"] IJ:=⟨YU,_,QI (n:=0) F54 T U XT p7 Eb,PySem.W.mg_of X G a54,Xw,b54⟩
 have OE:Dn l.prog w K mg base 6 "_law_planted" ["_law_draw","_law_known"] yV:=⟨YT,_,JP (n:=0) F55 T U XT p7 Xc,PySem.W.mg_of X G a55,Xv,b55⟩
 have G5:=DT (P:=l.prog) (w:=w) (base:=base) (Z:=Z) T U F11 ⟨a11,i11,Yr⟩ b11 F12 ⟨a12,i12,Yq⟩ b12 F13 ⟨a13,i13,Yp⟩ WX F14 ⟨a14,i14,Yo⟩ b14 BZ Ar Fl Aq Ao
 have uz:=Ai (P:=l.prog) (w:=w) (base:=base) (Z:=Z) T U F15 ⟨a15,i15,Yn⟩ b15 F16 ⟨a16,i16,Ym⟩ b16 F17 ⟨a17,i17,Yl⟩ b17 F18 ⟨a18,i18,Yk⟩ b18 Ar S4 Ao Aq
 have L8:=GS (P:=l.prog) (w:=w) (base:=base) (Z:=Z) T U XT F19 ⟨a19,i19,Yj⟩ b19 F20 ⟨a20,i20,Yi⟩ b20 F21 ⟨a21,i21,Yh⟩ b21 F22 ⟨a22,i22,Yg⟩ b22 L6 G3 Ft L5 uz
 have Cf:=GR (P:=l.prog) (w:=w) (base:=base) (Z:=Z) T U XT F34 (PySem.W.mg_of X G a34) XZ SE p7 Eb
 have OS:=LP (P:=l.prog) (w:=w) (base:=base) (Z:=Z) T U XT F35 (PySem.W.mg_of X G a35) XY b35 xJ Ar Fl Aq Ao
 have Fw:=LQ (P:=l.prog) (w:=w) (base:=base) (Z:=Z) T U XT F48 (PySem.W.mg_of X G a48) XE b48
 have G6:=DU (P:=l.prog) (w:=w) (base:=base) (Z:=Z) T U XT F50 (PySem.W.mg_of X G a50) XA b50 Ed Fw B0
 have OR:=LO (P:=l.prog) (w:=w) (base:=base) (Z:=Z) T U XT F52 (PySem.W.mg_of X G a52) Xy b52 PN
 have OB:G1 l.prog w K mg base TM 20 "cases_with" ["cases","condition"] (yU Z TM):=⟨Y6,_,JK (n:=0) F41 T U XT (L8 3) xH uQ Ft,PySem.W.mg_of X G a41,XN,b41⟩
 have Fp:G1 l.prog w K mg base TM 21 "owed" ["debt"] (uT Z Db TM):=⟨Y5,_,JQ (n:=0) F42 T U XT W S6 G2 BZ (G5 3) (uz 3) OB,PySem.W.mg_of X G a42,XM,b42⟩
 have ON:Dn l.prog w K mg base 8 "_law_ahead" ["_law_draw","_law_things"] vE:=⟨Y4,_,J1 (n:=0) F43 T U XT p7 Eb (Cf 2),PySem.W.mg_of X G a43,XJ,b43⟩
 have OM:Dn l.prog w K mg base 8 "_law_debt" ["_law_rows","_law_told_here"] (yZ Z Db):=⟨Y3,_,JX (n:=0) F44 T U XT W xJ (OS 3) L7,PySem.W.mg_of X G a44,XI,b44⟩
 have OH:Dn l.prog w K mg base 9 "_law_owed" ["_law_rows","_law_told_here"] yY:=⟨YS,_,JV (n:=0) F56 T U XT PN (OR 3) (Fw 3) (G6 3) B0 SW,PySem.W.mg_of X G a56,Xu,b56⟩
 have SX:Dn l.prog w K mg base 23 "_law_refused" ["_law_debt_here"] (CH Z Db):=⟨YR,_,MZ (n:=0) F57 T U XT W Xb Fp,PySem.W.mg_of X G a57,Xs,WW⟩
 exact QM (n:=3) F58 T U XT W G4 p7 OF ON (Cf 2) OE OM OH SX Fp OG
theorem walk {l:PySem.W.OpenLaw} {q:Program} {loose:List Str} {XP:(Str→Option Value)→Heap→Prop} {YP:World→Heap→Prop} {d:DefRec} {K:Params→PySem.W.Frag} (hn:l.most=some 63) (hdf:d.params.defaults=[])
  (hY:∀ (w:World) (h:Heap),YP w h→(K w.params).In h)
  (F:∀ (w:World) (mg:Str→Option Value) (fa:Addr) (h:Heap),(K w.params).In h→h.Ns mainGlobals mg→mg d.name=some (.ref fa) →
   ∃ fd:FuncData,(∀ (s:Shared) (u:Value),BindsTo s fd ⟨[u],[]⟩ [("_law_script",u)])∧∀ base:Heap,(K w.params).In base→base.Ns mainGlobals mg→bF l.prog w (K w.params) mg base fh 24 fa fd ["_law_script"] (Ew (K w.params))) :
  PySem.W.WalkO q loose XP YP l.row.toRowW d [] (fun f vs=>PySem.call f vs) :=
 L2.Mp (n:=63) (k:=24) (x:="_law_script") (CX:=fun _=>fh) (sp:=fun w=>Ew (K w.params)) hn (by decide) hdf ⟨rfl,by decide,by decide⟩ hY F (fun _ _ a ns hl _ hS=>⟨a,ns,rfl,hS,hl,fun _=>rfl⟩) fun _ _ _ _ _ z=>z
end Hw
open PySem PySem.W PyProof.Rows
def PySem.W.Fast.tw6522214321067549232:Nat:=0
def PySem.W.Fast.tw11990140369599279178:Nat:=0
def PySem.W.Fast.tw10143800656552433948:Nat:=0
def PySem.W.Fast.tw12042685655503040247:Nat:=0
def PySem.W.Fast.tw9885329309600230702:Nat:=0
def PySem.W.Fast.tw1106465098276671729:Nat:=0
def PySem.W.Fast.tw18380259493763357836:Nat:=0
def PySem.W.Fast.tw14535350449652921231:Nat:=0
def PySem.W.Fast.tw16133346898262004977:Nat:=0
def PySem.W.Fast.tw4111909044006681535:Nat:=0
def PySem.W.Fast.tw4643890464095881663:Nat:=0
def PySem.W.Fast.tw1285251334981823668:Nat:=0
def PySem.W.Fast.tw1142090004758704092:Nat:=0
def PySem.W.Fast.tw2684601026332952054:Nat:=0
def PySem.W.Fast.tw1899441138110280409:Nat:=0
def PySem.W.Fast.tw11296160444315947074:Nat:=0
def PySem.W.Fast.tw572997633196914896:Nat:=0
def PySem.W.Fast.tw17020270947732215537:Nat:=0
def PySem.W.Fast.tw3919472321859739503:Nat:=0
def PySem.W.Fast.tw7474150841223632134:Nat:=0
def PySem.W.Fast.tw11954068318823582778:Nat:=0
def PySem.W.Fast.tw13940725712052407754:Nat:=0
def PySem.W.Fast.tw11390174415872668524:Nat:=0
def PySem.W.Fast.tw12499047997466031450:Nat:=0
def PySem.W.Fast.tw2908299408389702981:Nat:=0
def PySem.W.Fast.tw13973929218801516772:Nat:=0
def PySem.W.Fast.tw5977152134518477818:Nat:=0
def PySem.W.Fast.tw18222303514506132819:Nat:=0
def PySem.W.Fast.tw14184880964456773136:Nat:=0
def PySem.W.Fast.tw14876231444208487546:Nat:=0
def PySem.W.Fast.tw16401736315960676016:Nat:=0
def PySem.W.Fast.tw1284321456399645422:Nat:=0
def PySem.W.Fast.tw12503592773209624240:Nat:=0
def PySem.W.Fast.tw6831447254922440164:Nat:=0
def PySem.W.Fast.tw6926661172338736850:Nat:=0
def PySem.W.Fast.tw15706922031657054283:Nat:=0
def PySem.W.Fast.tw1684995358272650976:Nat:=0
def PySem.W.Fast.tw15292567408664328954:Nat:=0
def PySem.W.Fast.tw12795736318526474974:Nat:=0
def PySem.W.Fast.tw9050210879331592713:Nat:=0
def PySem.W.Fast.tw6737729274937150865:Nat:=0
def PySem.W.Fast.tw14400780674368786251:Nat:=0
def PySem.W.Fast.tw14816766561620844011:Nat:=0
def PySem.W.Fast.tw4177761760722704209:Nat:=0
def PySem.W.Fast.tw3394510697301267255:Nat:=0
def PySem.W.Fast.tw12519875048521012759:Nat:=0
def PySem.W.Fast.tw7055818144807888654:Nat:=0
def PySem.W.Fast.tw1452974340707982077:Nat:=0
def PySem.W.Fast.tw11746363771504040313:Nat:=0
def PySem.W.Fast.tw4855790753763008375:Nat:=0
def PySem.W.Fast.tw9396096898422103689:Nat:=0
def PySem.W.Fast.tw4319591413249848334:Nat:=0
def PySem.W.Fast.tw6193449020691525853:Nat:=0
def PySem.W.Fast.tw10788361840766259118:Nat:=0
def PySem.W.Fast.tw1231099731541048352:Nat:=0
def PySem.W.Fast.tw601190214416410768:Nat:=0
def PySem.W.Fast.tw7915826494938588353:Nat:=0
def PySem.W.Fast.tw16810503555311102468:Nat:=0
def PySem.W.Fast.tw805100987969923168:Nat:=0
def PySem.W.Fast.tw16628269807648282101:Nat:=0
def PySem.W.Fast.tw884077003821880601:Nat:=0
def PySem.W.Fast.tw3290244534127141325:Nat:=0
def PySem.W.Fast.tw6825029859779705882:Nat:=0
def PySem.W.Fast.tw8199267277987781560:Nat:=0
def PySem.W.Fast.tw10520846026164251382:Nat:=0
def PySem.W.Fast.tw5522128185772641200:Nat:=0
def PySem.W.Fast.tw12785604099394552432:Nat:=0
def PySem.W.Fast.tw7088210484464683632:Nat:=0
def PySem.W.Fast.tw9730829770757858902:Nat:=0
def PySem.W.Fast.tw1678316215564317466:Nat:=0
def PySem.W.Fast.tw11580835164730509127:Nat:=0
def PySem.W.Fast.tw9804416203102512898:Nat:=0
def PySem.W.Fast.tw17159951872169908234:Nat:=0
def PySem.W.Fast.tw2980073822955889746:Nat:=0
def PySem.W.Fast.tw18322584814086189973:Nat:=0
def PySem.W.Fast.tw13763040700204988584:Nat:=0
def PySem.W.Fast.tw1133056692289502181:Nat:=0
def PySem.W.Fast.tw5942922197178302828:Nat:=0
def PySem.W.Fast.tw8801635256970847610:Nat:=0
def PySem.W.Fast.tw2033345417059250815:Nat:=0
def PySem.W.Fast.tw1740381636045686031:Nat:=0
def PySem.W.Fast.tw9867132469665118494:Nat:=0
def PySem.W.Fast.tw3247669010004355591:Nat:=0
def PySem.W.Fast.tw13090241797096584487:Nat:=0
def PySem.W.Fast.tw11876450231915438430:Nat:=0
def PySem.W.Fast.tw13786640237018396801:Nat:=0
def PySem.W.Fast.tw390376706050305885:Nat:=0
def PySem.W.Fast.tw17529826182213973670:Nat:=0
def PySem.W.Fast.tw7218882058313574687:Nat:=0
def PySem.W.Fast.tw4302816980527325121:Nat:=0
def PySem.W.Fast.tw5514983582617026917:Nat:=0
def PySem.W.Fast.tw14819811116674050963:Nat:=0
def PySem.W.Fast.tw926474881033139023:Nat:=0
def PySem.W.Fast.tw9249756198403446572:Nat:=0
def PySem.W.Fast.tw18152334785565364353:Nat:=0
def PySem.W.Fast.tw18001658824760175341:Nat:=0
def PySem.W.Fast.tw16011294965814171936:Nat:=0
def PySem.W.Fast.tw10645026131799867725:Nat:=0
def PySem.W.Fast.tw14721417679829246776:Nat:=0
def PySem.W.Fast.tw8681055837297462838:Nat:=0
def PySem.W.Fast.tw519435405582429407:Nat:=0
def PySem.W.Fast.tw3024110248047579161:Nat:=0
def PySem.W.Fast.tw13447618542826492514:Nat:=0
def PySem.W.Fast.tw6327178651249601457:Nat:=0
def PySem.W.Fast.tw14606618528476965111:Nat:=0
def PySem.W.Fast.tw14268170521581173985:Nat:=0
def PySem.W.Fast.tw4570714270229807219:Nat:=0
def PySem.W.Fast.tw6410968844596457254:Nat:=0
def PySem.W.Fast.tw8805267067357993174:Nat:=0
def PySem.W.Fast.tw5808299090993524301:Nat:=0
def PySem.W.Fast.tw4837510167437796464:Nat:=0
def PySem.W.Fast.tw7337899045418884344:Nat:=0
def PySem.W.Fast.tw7849536083259312979:Nat:=0
def PySem.W.Fast.tw5968555824403605080:Nat:=0
def PySem.W.Fast.tw8058133202284912318:Nat:=0
def PySem.W.Fast.tw3545770296869649060:Nat:=0
def PySem.W.Fast.tw10660542668481114604:Nat:=0
def PySem.W.Fast.tw17440722910015079204:Nat:=0
def PySem.W.Fast.tw8375771423403622774:Nat:=0
def PySem.W.Fast.tw16371195630586063342:Nat:=0
def PySem.W.Fast.tw7952553518361767337:Nat:=0
def PySem.W.Fast.tw10622792547356817696:Nat:=0
def PySem.W.Fast.tw13918769851705460593:Nat:=0
def PySem.W.Fast.tw6895650258633319086:Nat:=0
def PySem.W.Fast.tw14057581650329668613:Nat:=0
def PySem.W.Fast.tw4024932879291178954:Nat:=0
def PySem.W.Fast.tw14958096174157791142:Nat:=0
def PySem.W.Fast.tw13712717851675383098:Nat:=0
def PySem.W.Fast.tw15231117973505050073:Nat:=0
def PySem.W.Fast.tw1905735099512117747:Nat:=0
def PySem.W.Fast.tw3981835202987857274:Nat:=0
def PySem.W.Fast.tw10038270270179970128:Nat:=0
def PySem.W.Fast.tw4134569962922312575:Nat:=0
def PySem.W.Fast.tw3272061471683375861:Nat:=0
def PySem.W.Fast.tw3004625908628957928:Nat:=0
def PySem.W.Fast.tw8374282806442598799:Nat:=0
def PySem.W.Fast.tw13756193917323456461:Nat:=0
def PySem.W.Fast.tw7497658286640788392:Nat:=0
def PySem.W.Fast.tw15655305729564533048:Nat:=0
def PySem.W.Fast.tw4132255935313196774:Nat:=0
def PySem.W.Fast.tw4310704166423799127:Nat:=0
def PySem.W.Fast.tw10369523205225987436:Nat:=0
def PySem.W.Fast.tw8742903040316456753:Nat:=0
def PySem.W.Fast.tw9361755902797043478:Nat:=0
def PySem.W.Fast.tw12015188383844771235:Nat:=0
def PySem.W.Fast.tw11767159502117513448:Nat:=0
def PySem.W.Fast.tw5040678489027124846:Nat:=0
def PySem.W.Fast.tw10326374833617125964:Nat:=0
def PySem.W.Fast.tw8576285733520734468:Nat:=0
def PySem.W.Fast.tw17337785506192460275:Nat:=0
def PySem.W.Fast.tw12802355814182044587:Nat:=0
def PySem.W.Fast.tw3767149607841147361:Nat:=0
def PySem.W.Fast.tw4676780477637269190:Nat:=0
def PySem.W.Fast.tw16184910846884540556:Nat:=0
def PySem.W.Fast.tw17278312183747862544:Nat:=0
def PySem.W.Fast.tw7054434865556847763:Nat:=0
def PySem.W.Fast.tw3652839096322873777:Nat:=0
def PySem.W.Fast.tw13473160337034580275:Nat:=0
def PySem.W.Fast.tw17040520758820619768:Nat:=0
def PySem.W.Fast.tw3881782983544169016:Nat:=0
def PySem.W.Fast.tw4630613642733898323:Nat:=0
def PySem.W.Fast.tw18376954601883967117:Nat:=0
def PySem.W.Fast.tw12207816171085591374:Nat:=0
def PySem.W.Fast.tw18077130532467164253:Nat:=0
def PySem.W.Fast.tw7762171877730363173:Nat:=0
def PySem.W.Fast.tw1251875044595575411:Nat:=0
def PySem.W.Fast.tw17751797504467176880:Nat:=0
def PySem.W.Fast.tw18224217709355936776:Nat:=0
def PySem.W.Fast.tw1137269886031362206:Nat:=0
def PySem.W.Fast.tw12463687324447649362:Nat:=0
def PySem.W.Fast.tw9876576127354337883:Nat:=0
def PySem.W.Fast.tw14212177100783549613:Nat:=0
def PySem.W.Fast.tw7204651981551045997:Nat:=0
def PySem.W.Fast.tw16848656080946458736:Nat:=0
def PySem.W.Fast.tw6952279180203198612:Nat:=0
def PySem.W.Fast.tw11912123428353735071:Nat:=0
def PySem.W.Fast.tw17514645596046132138:Nat:=0
def PySem.W.Fast.tw613618721709682708:Nat:=0
def PySem.W.Fast.tw13112251637401827560:Nat:=0
def PySem.W.Fast.tw3697449458963282160:Nat:=0
def PySem.W.Fast.tw4447755555097910213:Nat:=0
def PySem.W.Fast.tw13390270452164914029:Nat:=0
def PySem.W.Fast.tw17859733374195234594:Nat:=0
def PySem.W.Fast.tw6345385789311242686:Nat:=0
def PySem.W.Fast.tw13627511743766946226:Nat:=0
def PySem.W.Fast.tw2637635356776082695:Nat:=0
def PySem.W.Fast.tw1265140290612880076:Nat:=0
def PySem.W.Fast.tw16820230509852797789:Nat:=0
def PySem.W.Fast.tw12169882750383735519:Nat:=0
def PySem.W.Fast.tw3253126798053021279:Nat:=0
def PySem.W.Fast.tw1886683827138629074:Nat:=0
def PySem.W.Fast.tw17136289754078339432:Nat:=0
def PySem.W.Fast.tw13272878945417598712:Nat:=0
def PySem.W.Fast.tw8579935608229089349:Nat:=0
def PySem.W.Fast.tw5013751239954602347:Nat:=0
def PySem.W.Fast.tw16570393887233981901:Nat:=0
def PySem.W.Fast.tw9041186555447830652:Nat:=0
def PySem.W.Fast.tw5244799727294461787:Nat:=0
def PySem.W.Fast.tw5265561383210567523:Nat:=0
def PySem.W.Fast.tw7474550297622977912:Nat:=0
def PySem.W.Fast.tw7263833556635756629:Nat:=0
def PySem.W.Fast.tw12870081086336575437:Nat:=0
def PySem.W.Fast.tw15757811948292175571:Nat:=0
def PySem.W.Fast.tw6247900521928549482:Nat:=0
def PySem.W.Fast.tw11024867400813355568:Nat:=0
def PySem.W.Fast.tw5212696561279535850:Nat:=0
def PySem.W.Fast.tw15527578678501735039:Nat:=0
def PySem.W.Fast.tw1531933686228830824:Nat:=0
def PySem.W.Fast.tw15256873619293663185:Nat:=0
def PySem.W.Fast.tw7818854691810470920:Nat:=0
def PySem.W.Fast.tw726997819040913504:Nat:=0
def PySem.W.Fast.tw11319781260131584660:Nat:=0
def PySem.W.Fast.tw4256448381377205220:Nat:=0
def PySem.W.Fast.tw7801937650059633993:Nat:=0
def PySem.W.Fast.tw11219474161527293657:Nat:=0
def PySem.W.Fast.tw10101285072576047020:Nat:=0
def PySem.W.Fast.tw3230071651941307987:Nat:=0
def PySem.W.Fast.tw13972571163928558833:Nat:=0
def PySem.W.Fast.tw13960279516074183879:Nat:=0
def PySem.W.Fast.tw8832968035196937462:Nat:=0
def PySem.W.Fast.tw17914289611240232450:Nat:=0
def PySem.W.Fast.tw12203885285925707401:Nat:=0
def PySem.W.Fast.tw9812875073317039472:Nat:=0
def PySem.W.Fast.tw6567879204672262468:Nat:=0
def PySem.W.Fast.tw5017246697354466:Nat:=0
def PySem.W.Fast.tw15806254676086382003:Nat:=0
def PySem.W.Fast.tw8986597962948823667:Nat:=0
def PySem.W.Fast.tw12909888328864158654:Nat:=0
def PySem.W.Fast.tw6434577605576117641:Nat:=0
def PySem.W.Fast.tw7292870061019176061:Nat:=0
def PySem.W.Fast.tw11974123108014856456:Nat:=0
def PySem.W.Fast.tw5680014507042094869:Nat:=0
def PySem.W.Fast.tw14176736294842458638:Nat:=0
def PySem.W.Fast.tw513515786714819853:Nat:=0
def PySem.W.Fast.tw2983853720244956006:Nat:=0
def PySem.W.Fast.tw5717139123192164956:Nat:=0
def PySem.W.Fast.tw3306978350984287791:Nat:=0
def PySem.W.Fast.tw12627346597090578738:Nat:=0
def PySem.W.Fast.tw14959270778200612316:Nat:=0
def PySem.W.Fast.tw7677036545591826355:Nat:=0
def PySem.W.Fast.tw12058477749527836009:Nat:=0
def PySem.W.Fast.tw17243599105007263911:Nat:=0
def PySem.W.Fast.tw11102501652167679579:Nat:=0
def PySem.W.Fast.tw5890683444455689028:Nat:=0
def PySem.W.Fast.tw13681117996843406580:Nat:=0
def PySem.W.Fast.tw17654301388687264051:Nat:=0
def PySem.W.Fast.tw3445934501150565619:Nat:=0
def PySem.W.Fast.tw2689533746282332358:Nat:=0
def PySem.W.Fast.tw15350119780684784983:Nat:=0
def PySem.W.Fast.tw5671838436152726476:Nat:=0
def PySem.W.Fast.tw4319351036810487647:Nat:=0
def PySem.W.Fast.tw14888316093323578433:Nat:=0
def PySem.W.Fast.tw5578916572671048451:Nat:=0
def PySem.W.Fast.tw30502709057870672:Nat:=0
def PySem.W.Fast.tw15473551423064749800:Nat:=0
def PySem.W.Fast.tw13748747312571132094:Nat:=0
def PySem.W.Fast.tw5958621276941999655:Nat:=0
def PySem.W.Fast.tw9424222425431875253:Nat:=0
def PySem.W.Fast.tw3510250957853604272:Nat:=0
def PySem.W.Fast.tw10624813906658061650:Nat:=0
def PySem.W.Fast.tw13059058275402747766:Nat:=0
def PySem.W.Fast.tw6736408998612777770:Nat:=0
def PySem.W.Fast.tw1183519527931056683:Nat:=0
def PySem.W.Fast.tw10830457364003072309:Nat:=0
def PySem.W.Fast.tw14108537354629916242:Nat:=0
def PySem.W.Fast.tw5496078624899205847:Nat:=0
def PySem.W.Fast.tw590058725816264230:Nat:=0
def PySem.W.Fast.tw14536668883903894167:Nat:=0
def PySem.W.Fast.tw152656053128379654:Nat:=0
def PySem.W.Fast.tw6975724238524089093:Nat:=0
def PySem.W.Fast.tw18076318104490409751:Nat:=0
def PySem.W.Fast.tw10330592636533857108:Nat:=0
def PySem.W.Fast.tw17418064341989467367:Nat:=0
def PySem.W.Fast.tw17152714796565504711:Nat:=0
def PySem.W.Fast.tw2402199714603440725:Nat:=0
def PySem.W.Fast.tw12212148748111095574:Nat:=0
def PySem.W.Fast.tw7162418571694358650:Nat:=0
def PySem.W.Fast.tw4519426470726545253:Nat:=0
def PySem.W.Fast.tw1178417851938374267:Nat:=0
def PySem.W.Fast.tw16656367508299978612:Nat:=0
def PySem.W.Fast.tw1868529205710731514:Nat:=0
def PySem.W.Fast.tw14310174251273887364:Nat:=0
def PySem.W.Fast.tw10153737205482322934:Nat:=0
def PySem.W.Fast.tw2872038302988980087:Nat:=0
def PySem.W.Fast.tw13092032334927977766:Nat:=0
def PySem.W.Fast.tw18074439800340895669:Nat:=0
def PySem.W.Fast.tw13994716928007232758:Nat:=0
def PySem.W.Fast.tw5029429679275660105:Nat:=0
def PySem.W.Fast.tw18294750085658870765:Nat:=0
def PySem.W.Fast.tw14522615346518651639:Nat:=0
def PySem.W.Fast.tw4234321697939856190:Nat:=0
def PySem.W.Fast.tw5714454018217198471:Nat:=0
def PySem.W.Fast.tw5658671072029594804:Nat:=0
def PySem.W.Fast.tw3975131470414996364:Nat:=0
def PySem.W.Fast.tw10138948463830057454:Nat:=0
def PySem.W.Fast.tw1930220779992320008:Nat:=0
def PySem.W.Fast.tw17355764434727199653:Nat:=0
def PySem.W.Fast.tw517366511015952276:Nat:=0
def PySem.W.Fast.tw6027710082998114451:Nat:=0
def PySem.W.Fast.tw9119896023992324161:Nat:=0
def PySem.W.Fast.tw17978785598003276023:Nat:=0
def PySem.W.Fast.tw10551195473750663346:Nat:=0
def PySem.W.Fast.tw12188274716852971761:Nat:=0
def PySem.W.Fast.tw9424635951763122379:Nat:=0
def PySem.W.Fast.tw8754526721380672674:Nat:=0
def PySem.W.Fast.tw10920993511115843925:Nat:=0
def PySem.W.Fast.tw15899874692048221114:Nat:=0
def PySem.W.Fast.tw8750677637407195719:Nat:=0
def PySem.W.Fast.tw5361029587600497083:Nat:=0
def PySem.W.Fast.tw3262485084283619387:Nat:=0
def PySem.W.Fast.tw6010154483710229134:Nat:=0
def PySem.W.Fast.tw15992520517085858868:Nat:=0
def PySem.W.Fast.tw5955792204780061276:Nat:=0
def PySem.W.Fast.tw9899892693472645194:Nat:=0
def PySem.W.Fast.tw13024444769159440223:Nat:=0
def PySem.W.Fast.tw2680766683690086240:Nat:=0
def PySem.W.Fast.tw2396281268783361768:Nat:=0
def PySem.W.Fast.tw10030191723753719670:Nat:=0
def PySem.W.Fast.tw14746035121205861443:Nat:=0
def PySem.W.Fast.tw67763988103549138:Nat:=0
def PySem.W.Fast.tw6051594025937532348:Nat:=0
def PySem.W.Fast.tw11516041269865229279:Nat:=0
def PySem.W.Fast.tw15747022386344745951:Nat:=0
def PySem.W.Fast.tw9436502895339611581:Nat:=0
def PySem.W.Fast.tw16840747241718534597:Nat:=0
def PySem.W.Fast.tw13518831239307717734:Nat:=0
def PySem.W.Fast.tw14067084276518703003:Nat:=0
def PySem.W.Fast.tw11390213757200174175:Nat:=0
def PySem.W.Fast.tw8557344122159509848:Nat:=0
def PySem.W.Fast.tw14244449998381160341:Nat:=0
def PySem.W.Fast.tw10850223408554511783:Nat:=0
def PySem.W.Fast.tw9485280521069314128:Nat:=0
def PySem.W.Fast.tw6595504797269319595:Nat:=0
def PySem.W.Fast.tw5054771622710755114:Nat:=0
def PySem.W.Fast.tw6702606396843354207:Nat:=0
def PySem.W.Fast.tw8738066486788763684:Nat:=0
def PySem.W.Fast.tw9793195821446280438:Nat:=0
def PySem.W.Fast.tw10389277477264899641:Nat:=0
def PySem.W.Fast.tw1145870370626695128:Nat:=0
def PySem.W.Fast.tw238245464359473535:Nat:=0
def PySem.W.Fast.tw9320632664787977197:Nat:=0
def PySem.W.Fast.tw12715919783270700484:Nat:=0
def PySem.W.Fast.tw10103908121866514315:Nat:=0
def PySem.W.Fast.tw583100470284044744:Nat:=0
def PySem.W.Fast.tw13755747374470847565:Nat:=0
def PySem.W.Fast.tw9362317512181337300:Nat:=0
def PySem.W.Fast.tw9217286364003181944:Nat:=0
def PySem.W.Fast.tw14762112858178580942:Nat:=0
def PySem.W.Fast.tw15444941108827008236:Nat:=0
def PySem.W.Fast.tw8758374231982739163:Nat:=0
def PySem.W.Fast.tw17450431875161090358:Nat:=0
def PySem.W.Fast.tw14321498109159313825:Nat:=0
def PySem.W.Fast.tw8214473667171584549:Nat:=0
def PySem.W.Fast.tw9731624459710879671:Nat:=0
def PySem.W.Fast.tw15840103076857002654:Nat:=0
def PySem.W.Fast.tw8159429041803280408:Nat:=0
def PySem.W.Fast.tw5481691388004773617:Nat:=0
def PySem.W.Fast.tw2033680228465941353:Nat:=0
def PySem.W.Fast.tw4007310709307149932:Nat:=0
def PySem.W.Fast.tw17998872803203129854:Nat:=0
def PySem.W.Fast.tw16244836527325718854:Nat:=0
def PySem.W.Fast.tw3619030526456417397:Nat:=0
def PySem.W.Fast.tw15683901666694328205:Nat:=0
def PySem.W.Fast.tw9568514577732431548:Nat:=0
def PySem.W.Fast.tw9870596310623837023:Nat:=0
def PySem.W.Fast.tw8923906860755656191:Nat:=0
def PySem.W.Fast.tw3146573409659249743:Nat:=0
def PySem.W.Fast.tw5809038857709251469:Nat:=0
def PySem.W.Fast.tw4141052828704284464:Nat:=0
def PySem.W.Fast.tw16108773188230000293:Nat:=0
def PySem.W.Fast.tw3929549254596644969:Nat:=0
def PySem.W.Fast.tw15054191320443250367:Nat:=0
def PySem.W.Fast.tw10283757816780792795:Nat:=0
def PySem.W.Fast.tw13177696637485835290:Nat:=0
def PySem.W.Fast.tw17797888737126877048:Nat:=0
def PySem.W.Fast.tw14082742984841156446:Nat:=0
def PySem.W.Fast.tw16374444116570571778:Nat:=0
def PySem.W.Fast.tw10625085665577879160:Nat:=0
def PySem.W.Fast.tw13782940070869314151:Nat:=0
def PySem.W.Fast.tw2512276448990827880:Nat:=0
def PySem.W.Fast.tw12557427190600140339:Nat:=0
def PySem.W.Fast.tw10405202330696321989:Nat:=0
def PySem.W.Fast.tw6847266149085035441:Nat:=0
def PySem.W.Fast.tw12593126693734474223:Nat:=0
def PySem.W.Fast.tw15284612432618958862:Nat:=0
def PySem.W.Fast.tw15020554787444784946:Nat:=0
def PySem.W.Fast.tw2878024325550282763:Nat:=0
def PySem.W.Fast.tw14117297452546880798:Nat:=0
def PySem.W.Fast.tw6618966893051844027:Nat:=0
def PySem.W.Fast.tw18328041740807403524:Nat:=0
set_option maxRecDepth 100000 in
set_option maxHeartbeats 0 in
theorem PySem.Challenge.cw_holdwright_k40_cases_told_holds : PySem.Challenge.rw_holdwright_k40_cases_told.Holds := by
 w_on;o_law;k_head;(case hw=>w_witness2)
 k_fill
 refine Hw.walk (l:=PySem.Challenge.rw_holdwright_k40_cases_told) rfl rfl (fun w h Y=>PySem.W.kIn_of Y) ?F
 case F =>
  intro w mg fa h KX G hmg
  refine' Hw.all_mk KX G hmg ?RC ?JA ?KU ?Jq ?IV ?J8 ?KH ?RG ?JD ?KZ ?Jt ?IY ?Kc ?KL ?RB ?Jz ?KS ?Jp ?IU ?J7 ?KG ?RE ?JC ?KY ?Js ?IX ?Ka ?KJ ?RD ?JB ?KW ?Jr ?IW ?J9 ?KI ?RA ?Jy ?KR ?Jo ?IT ?J6 ?KD ?Ry ?HC ?Cp ?Cr ?Cy ?Cv ?Hy ?Ih ?HG ?HZ ?Rz ?HD ?Cq ?Cu ?CA ?Cw ?Hz ?Ii ?HH ?Ic ?a1 ?i1 ?l1 ?c1 ?k1 ?a2 ?i2 ?l2 ?c2 ?k2 ?a3 ?i3 ?l3 ?c3 ?k3 ?a4 ?i4 ?l4 ?c4 ?k4 ?a5 ?i5 ?l5 ?c5 ?k5 ?a6 ?i6 ?l6 ?c6 ?k6 ?a7 ?i7 ?l7 ?c7 ?k7 ?a8 ?i8 ?l8 ?c8 ?k8 ?a9 ?i9 ?l9 ?c9 ?k9 ?a10 ?i10 ?l10 ?c10 ?k10 ?a11 ?i11 ?l11 ?c11 ?Yr ?a12 ?i12 ?l12 ?c12 ?Yq ?a13 ?i13 ?l13 ?c13 ?Yp ?a14 ?i14 ?l14 ?c14 ?Yo ?a15 ?i15 ?l15 ?c15 ?Yn ?a16 ?i16 ?l16 ?c16 ?Ym ?a17 ?i17 ?l17 ?c17 ?Yl ?a18 ?i18 ?l18 ?c18 ?Yk ?a19 ?i19 ?l19 ?c19 ?Yj ?a20 ?i20 ?iT ?c20 ?Yi ?a21 ?i21 ?l21 ?c21 ?Yh ?a22 ?i22 ?l22 ?c22 ?Yg ?a23 ?l23 ?c23 ?Ye ?a24 ?l24 ?c24 ?Yd ?a25 ?l25 ?c25 ?Yc ?a26 ?l26 ?c26 ?Yb ?a27 ?l27 ?c27 ?X8 ?a28 ?l28 ?c28 ?X7 ?a29 ?l29 ?c29 ?X6 ?a30 ?l30 ?c30 ?X5 ?a31 ?l31 ?c31 ?X4 ?a32 ?l32 ?c32 ?X3 ?a33 ?l33 ?c33 ?X0 ?a34 ?l34 ?c34 ?XZ ?a35 ?l35 ?c35 ?XY ?a36 ?l36 ?c36 ?XX ?a37 ?l37 ?c37 ?XU ?a38 ?l38 ?c38 ?XS ?a39 ?l39 ?c39 ?XQ ?a40 ?l40 ?c40 ?XO ?a41 ?l41 ?c41 ?XN ?a42 ?l42 ?c42 ?XM ?a43 ?l43 ?c43 ?XJ ?a44 ?l44 ?c44 ?XI ?a45 ?l45 ?c45 ?XH ?a46 ?l46 ?c46 ?XG ?a47 ?l47 ?c47 ?XF ?a48 ?l48 ?c48 ?XE ?a49 ?l49 ?c49 ?XD ?a50 ?l50 ?c50 ?XA ?a51 ?l51 ?c51 ?Xz ?a52 ?l52 ?c52 ?Xy ?a53 ?l53 ?c53 ?Xx ?a54 ?l54 ?c54 ?Xw ?a55 ?l55 ?c55 ?Xv ?a56 ?l56 ?c56 ?Xu ?a57 ?l57 ?c57 ?Xs ?a58 ?l58 ?c58 ?k58 ?l59 ?c59 ?Xr ?l60 ?c60 ?k60 ?Rx ?Rv ?Ru ?Rt ?Rr ?pH ?mL ?wu ?r8 ?pI ?jf ?iF ?iE ?rZ ?zB ?pG ?je ?Hr ?Ho ?vn ?Cm ?yN ?kg ?yO ?Hx ?Hq ?Hs ?Cn ?Hv ?Hu ?ki ?Mm ?Ml ?CC ?CB ?PY ?PX ?PZ ?P1 ?Il ?Im ?Ik ?Ip ?Ij ?Iq ?Io ?Iw ?Iv ?Iu ?Ir ?P5 ?P4 ?P6
  (case RC=>k_is)
  (case RG=>k_is)
  (case RB=>k_is)
  (case RE=>k_is)
  (case RD=>k_is)
  (case RA=>k_is)
  (case Ry=>k_is)
  (case Rz=>k_is)
  (case Rx=>k_is)
  (case Rv=>k_is)
  (case Ru=>k_is)
  (case Rt=>k_is)
  (case Rr=>k_is)
  (case HC=>k_is)
  (case HD=>k_is)
  (case Cr=>k_is)
  (case Cu=>k_is)
  (case JA=>k_is)
  (case KU=>k_is)
  (case Jq=>k_is)
  (case IV=>k_is)
  (case J8=>k_is)
  (case KH=>k_is)
  (case JD=>k_is)
  (case KZ=>k_is)
  (case Jt=>k_is)
  (case IY=>k_is)
  (case Kc=>k_is)
  (case KL=>k_is)
  (case Jz=>k_is)
  (case KS=>k_is)
  (case Jp=>k_is)
  (case IU=>k_is)
  (case J7=>k_is)
  (case KG=>k_is)
  (case JC=>k_is)
  (case KY=>k_is)
  (case Js=>k_is)
  (case IX=>k_is)
  (case Ka=>k_is)
  (case KJ=>k_is)
  (case JB=>k_is)
  (case KW=>k_is)
  (case Jr=>k_is)
  (case IW=>k_is)
  (case J9=>k_is)
  (case KI=>k_is)
  (case Jy=>k_is)
  (case KR=>k_is)
  (case Jo=>k_is)
  (case IT=>k_is)
  (case J6=>k_is)
  (case KD=>k_is)
  (case Cp=>kernel_rfl)
  (case Cy=>k_is)
  (case Cv=>k_is)
  (case Hy=>kernel_rfl)
  (case Ih=>kernel_rfl)
  (case HG=>kernel_rfl)
  (case HZ=>kernel_rfl)
  (case Cq=>kernel_rfl)
  (case CA=>k_is)
  (case Cw=>k_is)
  (case Hz=>kernel_rfl)
  (case Ii=>kernel_rfl)
  (case HH=>kernel_rfl)
  (case Ic=>kernel_rfl)
  (case a1=>k_is)
  (case i1=>k_is)
  (case l1=>k_is)
  (case c1=>k_is)
  (case k1=>k_is)
  (case a2=>k_is)
  (case i2=>k_is)
  (case l2=>k_is)
  (case c2=>k_is)
  (case k2=>k_is)
  (case a3=>k_is)
  (case i3=>k_is)
  (case l3=>k_is)
  (case c3=>k_is)
  (case k3=>k_is)
  (case a4=>k_is)
  (case i4=>k_is)
  (case l4=>k_is)
  (case c4=>k_is)
  (case k4=>k_is)
  (case a5=>k_is)
  (case i5=>k_is)
  (case l5=>k_is)
  (case c5=>k_is)
  (case k5=>k_is)
  (case a6=>k_is)
  (case i6=>k_is)
  (case l6=>k_is)
  (case c6=>k_is)
  (case k6=>k_is)
  (case a7=>k_is)
  (case i7=>k_is)
  (case l7=>k_is)
  (case c7=>k_is)
  (case k7=>k_is)
  (case a8=>k_is)
  (case i8=>k_is)
  (case l8=>k_is)
  (case c8=>k_is)
  (case k8=>k_is)
  (case a9=>k_is)
  (case i9=>k_is)
  (case l9=>k_is)
  (case c9=>k_is)
  (case k9=>k_is)
  (case a10=>k_is)
  (case i10=>k_is)
  (case l10=>k_is)
  (case c10=>k_is)
  (case k10=>k_is)
  (case a11=>k_is)
  (case i11=>k_is)
  (case l11=>k_is)
  (case c11=>k_is)
  (case Yr=>k_is)
  (case a12=>k_is)
  (case i12=>k_is)
  (case l12=>k_is)
  (case c12=>k_is)
  (case Yq=>k_is)
  (case a13=>k_is)
  (case i13=>k_is)
  (case l13=>k_is)
  (case c13=>k_is)
  (case Yp=>k_is)
  (case a14=>k_is)
  (case i14=>k_is)
  (case l14=>k_is)
  (case c14=>k_is)
  (case Yo=>k_is)
  (case a15=>k_is)
  (case i15=>k_is)
  (case l15=>k_is)
  (case c15=>k_is)
  (case Yn=>k_is)
  (case a16=>k_is)
  (case i16=>k_is)
  (case l16=>k_is)
  (case c16=>k_is)
  (case Ym=>k_is)
  (case a17=>k_is)
  (case i17=>k_is)
  (case l17=>k_is)
  (case c17=>k_is)
  (case Yl=>k_is)
  (case a18=>k_is)
  (case i18=>k_is)
  (case l18=>k_is)
  (case c18=>k_is)
  (case Yk=>k_is)
  (case a19=>k_is)
  (case i19=>k_is)
  (case l19=>k_is)
  (case c19=>k_is)
  (case Yj=>k_is)
  (case a20=>k_is)
  (case i20=>k_is)
  (case iT=>k_is)
  (case c20=>k_is)
  (case Yi=>k_is)
  (case a21=>k_is)
  (case i21=>k_is)
  (case l21=>k_is)
  (case c21=>k_is)
  (case Yh=>k_is)
  (case a22=>k_is)
  (case i22=>k_is)
  (case l22=>k_is)
  (case c22=>k_is)
  (case Yg=>k_is)
  (case a23=>k_is)
  (case l23=>k_is)
  (case c23=>k_is)
  (case Ye=>k_is)
  (case a24=>k_is)
  (case l24=>k_is)
  (case c24=>k_is)
  (case Yd=>k_is)
  (case a25=>k_is)
  (case l25=>k_is)
  (case c25=>k_is)
  (case Yc=>k_is)
  (case a26=>k_is)
  (case l26=>k_is)
  (case c26=>k_is)
  (case Yb=>k_is)
  (case a27=>k_is)
  (case l27=>k_is)
  (case c27=>k_is)
  (case X8=>k_is)
  (case a28=>k_is)
  (case l28=>k_is)
  (case c28=>k_is)
  (case X7=>k_is)
  (case a29=>k_is)
  (case l29=>k_is)
  (case c29=>k_is)
  (case X6=>k_is)
  (case a30=>k_is)
  (case l30=>k_is)
  (case c30=>k_is)
  (case X5=>k_is)
  (case a31=>k_is)
  (case l31=>k_is)
  (case c31=>k_is)
  (case X4=>k_is)
  (case a32=>k_is)
  (case l32=>k_is)
  (case c32=>k_is)
  (case X3=>k_is)
  (case a33=>k_is)
  (case l33=>k_is)
  (case c33=>k_is)
  (case X0=>k_is)
  (case a34=>k_is)
  (case l34=>k_is)
  (case c34=>k_is)
  (case XZ=>k_is)
  (case a35=>k_is)
  (case l35=>k_is)
  (case c35=>k_is)
  (case XY=>k_is)
  (case a36=>k_is)
  (case l36=>k_is)
  (case c36=>k_is)
  (case XX=>k_is)
  (case a37=>k_is)
  (case l37=>k_is)
  (case c37=>k_is)
  (case XU=>k_is)
  (case a38=>k_is)
  (case l38=>k_is)
  (case c38=>k_is)
  (case XS=>k_is)
  (case a39=>k_is)
  (case l39=>k_is)
  (case c39=>k_is)
  (case XQ=>k_is)
  (case a40=>k_is)
  (case l40=>k_is)
  (case c40=>k_is)
  (case XO=>k_is)
  (case a41=>k_is)
  (case l41=>k_is)
  (case c41=>k_is)
  (case XN=>k_is)
  (case a42=>k_is)
  (case l42=>k_is)
  (case c42=>k_is)
  (case XM=>k_is)
  (case a43=>k_is)
  (case l43=>k_is)
  (case c43=>k_is)
  (case XJ=>k_is)
  (case a44=>k_is)
  (case l44=>k_is)
  (case c44=>k_is)
  (case XI=>k_is)
  (case a45=>k_is)
  (case l45=>k_is)
  (case c45=>k_is)
  (case XH=>k_is)
  (case a46=>k_is)
  (case l46=>k_is)
  (case c46=>k_is)
  (case XG=>k_is)
  (case a47=>k_is)
  (case l47=>k_is)
  (case c47=>k_is)
  (case XF=>k_is)
  (case a48=>k_is)
  (case l48=>k_is)
  (case c48=>k_is)
  (case XE=>k_is)
  (case a49=>k_is)
  (case l49=>k_is)
  (case c49=>k_is)
  (case XD=>k_is)
  (case a50=>k_is)
  (case l50=>k_is)
  (case c50=>k_is)
  (case XA=>k_is)
  (case a51=>k_is)
  (case l51=>k_is)
  (case c51=>k_is)
  (case Xz=>k_is)
  (case a52=>k_is)
  (case l52=>k_is)
  (case c52=>k_is)
  (case Xy=>k_is)
  (case a53=>k_is)
  (case l53=>k_is)
  (case c53=>k_is)
  (case Xx=>k_is)
  (case a54=>k_is)
  (case l54=>k_is)
  (case c54=>k_is)
  (case Xw=>k_is)
  (case a55=>k_is)
  (case l55=>k_is)
  (case c55=>k_is)
  (case Xv=>k_is)
  (case a56=>k_is)
  (case l56=>k_is)
  (case c56=>k_is)
  (case Xu=>k_is)
  (case a57=>k_is)
  (case l57=>k_is)
  (case c57=>k_is)
  (case Xs=>k_is)
  (case a58=>k_is)
  (case l58=>k_is)
  (case c58=>k_is)
  (case k58=>k_is)
  (case l59=>k_is)
  (case c59=>k_is)
  (case Xr=>k_is)
  (case l60=>k_is)
  (case c60=>k_is)
  (case k60=>k_is)
  (case pH=>k_is)
  (case mL=>k_is)
  (case wu=>k_is)
  (case r8=>k_is)
  (case pI=>k_is)
  (case jf=>k_is)
  (case iF=>k_is)
  (case iE=>k_is)
  (case rZ=>k_is)
  (case zB=>k_is)
  (case pG=>k_is)
  (case je=>k_is)
  (case Hr=>k_is)
  (case Ho=>k_is)
  (case vn=>k_is)
  (case Cm=>k_is)
  (case yN=>k_is)
  (case kg=>k_is)
  (case yO=>k_is)
  (case Hx=>k_is)
  (case Hq=>k_is)
  (case Hs=>k_is)
  (case Cn=>k_is)
  (case Hv=>k_is)
  (case Hu=>k_is)
  (case ki=>k_is)
  (case Mm=>k_is)
  (case Ml=>k_is)
  (case CC=>k_is)
  (case CB=>k_is)
  (case PY=>k_is)
  (case PX=>k_is)
  (case PZ=>k_is)
  (case P1=>k_is)
  (case Il=>kernel_rfl)
  (case Im=>k_is)
  (case Ik=>k_is)
  (case Ip=>k_is)
  (case Ij=>k_is)
  (case Iq=>k_is)
  (case Io=>k_is)
  (case Iw=>kit_is)
  (case Iv=>kit_is)
  (case Iu=>kit_is)
  (case Ir=>kit_is)
  (case P5=>k_is)
  (case P4=>k_is)
  (case P6=>k_is)
#print axioms PySem.Challenge.cw_holdwright_k40_cases_told_holds
