import PyProof.Rows.All
import Wide.All
import OpenK.AllK
import Wide.FinOn
import Lean
import PyProof.EqAt
import PyProof.EqKinds
import PyProof.TupleCall
import PySem.Spec
import PyProof.NeKinds
import KE.KDictList
import KE.KPairComp
import PyProof.DictWalks
import PyProof.ExcClass3
import PyProof.ExcInit
import PyProof.ExcBaseAll.ValueError
import OpenK.KMore
import PyProof.RaisesMany
import PyProof.ExcAttrAll.ValueError
import KE.KIsAll
import PyProof.RulesAs
import PyProof.FString5
import PyProof.StrLawsIn
import PyProof.Rows.SetFrom
import KE.KEqDict
import PyProof.Rows.DictMethods
import PySem.Challenge.RW_holdwright_k39_debts_plain
set_option Elab.async false
set_option linter.all false
set_option maxRecDepth 100000
namespace L2
open PySem PySem.Spec PyProof.Rows
abbrev Key:=Sum Int Str
def vj:Key→Value→Bool
 | .inl k,v=>Value.isInt k v
 | .inr x,v=>Value.isStrOf x v
def a3H (w:World):Key→Int
 | .inl k=>hashInt k
 | .inr x=>hashStr w x
theorem cL:∀ {k:Key} {v:Value},vj k v=true→(∃ i t,k=Sum.inl i∧v=Value.int i t)∨(∃ x t,k=Sum.inr x∧v=Value.str x t)
 | .inl i,v,h=>by
  obtain ⟨t,e⟩:=Value.isInt_shape (k:=i) (v:=v) h
  exact .inl ⟨i,t,rfl,e⟩
 | .inr x,v,h=>by
  obtain ⟨t,e⟩:=Value.isStrOf_shape (x:=x) (v:=v) h
  exact .inr ⟨x,t,rfl,e⟩
theorem EH (i:Int) (t:Tok):vj (.inl i) (.int i t)=true:=by simp [vj,Value.isInt]
theorem EG (x:Str) (t:Tok):vj (.inr x) (.str x t)=true:=by simp [vj,Value.isStrOf]
theorem PX (a b:Int):decide ((Sum.inl a:Key)=Sum.inl b)=(a == b):=by
 by_cases e:a=b
 ·subst e;simp
 ·have h:¬ (Sum.inl a:Key)=Sum.inl b:=fun q=>e (Sum.inl.inj q)
  rw [decide_eq_false h]
  exact (beq_eq_false_iff_ne.mpr e).symm
theorem PR (a b:Str):decide ((Sum.inr a:Key)=Sum.inr b)=decide (a=b):=by
 by_cases e:a=b
 ·subst e;simp
 ·have h:¬ (Sum.inr a:Key)=Sum.inr b:=fun q=>e (Sum.inr.inj q)
  rw [decide_eq_false h,decide_eq_false e]
theorem PV (a:Int) (b:Str):decide ((Sum.inl a:Key)=Sum.inr b)=false:=decide_eq_false (fun q=>nomatch q)
theorem PU (a:Str) (b:Int):decide ((Sum.inr a:Key)=Sum.inl b)=false:=decide_eq_false (fun q=>nomatch q)
def cP (prog:Program) (w:World):PySem.KeyKind prog w Key where
 is:=vj
 hash:=a3H w
 inj:=fun v a b ha hb=>by
  rcases cL ha with ⟨i,t,rfl,rfl⟩ | ⟨x,t,rfl,rfl⟩
  ·rcases cL hb with ⟨j,u,rfl,e⟩ | ⟨y,u,rfl,e⟩
   ·injection e with e1 _;rw [e1]
   ·exact nomatch e
  ·rcases cL hb with ⟨j,u,rfl,e⟩ | ⟨y,u,rfl,e⟩
   ·exact nomatch e
   ·injection e with e1 _;rw [e1]
 byValue:=fun k v h=>by
  rcases cL h with ⟨i,t,rfl,rfl⟩ | ⟨x,t,rfl,rfl⟩ <;> rfl
 pyHash:=fun hv h=>by
  rcases cL hv with ⟨i,t,rfl,rfl⟩ | ⟨x,t,rfl,rfl⟩
  ·exact wpAny_pyHash_int h
  ·exact wpAny_pyHash_str h
 eqBool:=fun hu hv h=>by
  rcases cL hu with ⟨i,t,rfl,rfl⟩ | ⟨x,t,rfl,rfl⟩
  ·rcases cL hv with ⟨j,u,rfl,rfl⟩ | ⟨y,u,rfl,rfl⟩
   ·rw [PX] at h;exact wpAny_eqBool_int h
   ·rw [PV] at h;exact SeqAt.EqAt.int_str i t y u _ _ _ _ h
  ·rcases cL hv with ⟨j,u,rfl,rfl⟩ | ⟨y,u,rfl,rfl⟩
   ·rw [PU] at h;exact SeqAt.EqAt.str_int x t j u _ _ _ _ h
   ·rw [PR] at h;exact wpAny_eqBool_str h
 «strs»:=fun k x t v h=>by
  rcases cL h with ⟨i,u,rfl,e⟩ | ⟨y,u,rfl,e⟩
  ·exact nomatch e
  ·injection e with e1 _
   subst e1
   cases v <;> rfl
theorem Ai (prog:Program) (w:World) (i:Int) (t:Tok):(cP prog w).is (.inl i) (.int i t)=true:=EH i t
theorem kZ (prog:Program) (w:World) (x:Str) (t:Tok):(cP prog w).is (.inr x) (.str x t)=true:=EG x t
end L2
namespace L2
open PySem PySem.Spec PyProof.Rows
inductive V where
 | eX | bl (b:Bool) | int (i:Int) | str (x:Str) | FG (b:Array UInt8) | Qn (b:UInt64) | ref (a:Addr) | ty (n:String)
 deriving DecidableEq
def RelV:V→Value→Prop
 | .eX,u=>u=Value.none
 | .bl b,u=>u=Value.bool b
 | .int i,u=>∃ t,u=Value.int i t
 | .str x,u=>∃ t,u=Value.str x t
 | .FG b,u=>∃ t,u=Value.bytes b t
 | .Qn b,u=>∃ t,u=Value.float b t
 | .ref a,u=>u=Value.ref a
 | .ty n,u=>u=Value.type n
abbrev Vals:List V→List Value→Prop:=Paired RelV
theorem Vals.length {xs:List V} {us:List Value} (r:Vals xs us):xs.length=us.length:=Paired.length r
theorem Vals.get:∀ {xs:List V} {us:List Value} {i:Nat} {x:V},Vals xs us→xs[i]?=some x→∃ u,us[i]?=some u∧RelV x u
 | _,_,_,_,.nil,e=>by simp at e
 | _,_,0,_,.cons r _,e=>by simp at e;subst e;exact ⟨_,rfl,r⟩
 | _,_,i+1,x,.cons _ t,e=>by
  obtain ⟨u,h1,h2⟩:=Vals.get (i:=i) (x:=x) t (by simpa using e)
  exact ⟨u,by simpa using h1,h2⟩
theorem Vals.set {x:V} {u:Value} (r:RelV x u):∀ {xs:List V} {us:List Value} (i:Nat),Vals xs us→Vals (xs.set i x) (us.set i u)
 | _,_,_,.nil=>.nil
 | _,_,0,.cons _ t=>.cons r t
 | _,_,i+1,.cons q t=>.cons q (Vals.set r i t)
theorem Vals.append:∀ {xs ys:List V} {us ws:List Value},Vals xs us→Vals ys ws→Vals (xs++ys) (us++ws)
 | _,_,_,_,.nil,s=>s
 | _,_,_,_,.cons r t,s=>.cons r (Vals.append t s)
theorem Vals.take:∀ {xs:List V} {us:List Value} (n:Nat),Vals xs us→Vals (xs.take n) (us.take n)
 | _,_,0,_=>.nil
 | _,_,_+1,.nil=>.nil
 | _,_,n+1,.cons r t=>.cons r (Vals.take n t)
theorem Vals.drop:∀ {xs:List V} {us:List Value} (n:Nat),Vals xs us→Vals (xs.drop n) (us.drop n)
 | _,_,0,r=>r
 | _,_,_+1,.nil=>.nil
 | _,_,n+1,.cons _ t=>Vals.drop n t
def j6:Option V→Option Value→Prop
 | some v,some u=>RelV v u
 | none,none=>True
 | _,_=>False
def KV {κ:Type}:List (κ×V)→List (κ×Value)→Prop:=Paired fun (p:κ×V) (q:κ×Value)=>p.1=q.1∧RelV p.2 q.2
def kV:Key→V
 | .inl i=>.int i
 | .inr x=>.str x
inductive HO where
 | lst (xs:List V)
 | tup (xs:List V)
 | dK (kvs:List (Key×V)) | dT (kvs:List (List Key×V))
 | set (S:Int→Bool) (n:Nat)
 | ins (C dx:Addr) (fs:List (Str×V))
 | own (x:Addr)
 | xd (fs:List (Str×V))
 | met (f x:Addr)
 | VX (lo hi:Int)
 | Ci (o:Obj) (u:HO)
 | NJ (ps:Array Value)
 | ext (φ:Heap→Prop)
abbrev Hp:=Addr→Option HO
def upd (H:Hp) (a:Addr) (o:HO):Hp:=fun b=>if b=a then some o else H b
theorem ah {H:Hp} {a:Addr} {o:HO}:upd H a o a=some o:=by unfold upd;rw [if_pos rfl]
theorem aA {H:Hp} {a b:Addr} {o:HO} (h:b≠a):upd H a o b=H b:=by unfold upd;rw [if_neg h]
theorem C6 {H:Hp} {a:Addr} {o u:HO}:upd (upd H a o) a u=upd H a u:=by
 funext b;unfold upd;split <;> rfl
theorem mX {H:Hp} {a b:Addr} {o u:HO} (h:H a=some o) (h':H b=some u) (d:o≠u):a≠b:=by
 intro e;subst e;rw [h] at h';exact d (Option.some.inj h')
theorem aq {H:Hp} {a b:Addr} {o:HO} (h:H a=some o) (h':H b=none):a≠b:=by
 intro e;subst e;rw [h] at h';cases h'
section
variable (P:Program) (w:World)
def cD (H:Hp) (h:Heap) (a:Addr):HO→Prop
 | .lst xs=>xs.length≤sizeLine∧∃ (its:List Value) (n:Nat),Vals xs its∧h.get? a=some { cls:=.type "list",data:=.seq its.toArray n }
 | .tup xs=>xs.length≤sizeLine∧∃ its:List Value,Vals xs its∧IsTup h a its.toArray
 | .dK kvs=>kvs.length≤sizeLine∧(a == sysModules)=false∧∃ vs,KV kvs vs∧h.DictOf (cP P w) a vs
 | .dT kvs=>kvs.length≤sizeLine∧(a == sysModules)=false∧∃ xs:List (List Key×Addr×Value),
   Paired (fun (p:List Key×V) (q:List Key×Addr×Value)=>p.1=q.1∧H q.2.1=some (.tup (p.1.map kV))∧RelV p.2 q.2.2) kvs xs ∧
   ∃ o es ep,h.get? a=some o∧o.ExactDict∧o.data=.dict es ep∧es.toList=xs.map (entryOfKey (tupleKind (cP P w)))∧(xs.map (·.1)).Nodup
 | .set S n=>h.SetOf (intKind P w) a S n
 | .ins C dx fs=>H dx=some (.own a)∧fs.length≤1000∧dx≠a∧h.get? a=some (PySem.W.instObj C dx) ∧
   ∃ mA,h.Ns1 dx mA∧(∀ f,j6 (fs.lookup f) (mA f))∧PySem.Within mA (fs.map (·.1))
 | .own _=>∃ o,h.get? a=some o
 | .xd fs=>∃ mA,h.Ns1 a mA∧∀ f,j6 (fs.lookup f) (mA f)
 | .VX lo hi=>∃ t u v,h.get? a=some { cls:=.type "range",data:=.fields #[.int lo t,.int hi u,.int 1 v] }
 | .Ci o u=>h.get? a=some o∧cD H h a u
 | .NJ ps=>h.get? a=some { cls:=.none,data:=.fields ps }
 | .met f x=>h.get? a=some (PySem.W.methodObj (.ref f) (.ref x))
 | .ext φ=>φ h∧(∃ o,h.get? a=some o)∧∀ h1 h2:Heap,φ h1→(∀ o,h1.get? a=some o→h2.get? a=some o)→φ h2
def lS (H:Hp) (h:Heap):Prop:=∀ a o,H a=some o→cD P w H h a o
end
section
variable {P:Program} {w:World} {H H':Hp} {h h':Heap} {a:Addr} {o:HO}
theorem cD.lt (x:cD P w H h a o):a < h.objs.size:=by
 cases o with
 | lst xs=>obtain ⟨_,_,_,_,e⟩:=x;exact Heap.lt_size e
 | tup xs=>obtain ⟨_,_,_,p⟩:=x;exact p.lt
 | dK kvs=>obtain ⟨_,_,_,_,o,_,_,e,_⟩:=x;exact Heap.lt_size e
 | dT kvs=>obtain ⟨_,_,_,_,o,_,_,e,_⟩:=x;exact Heap.lt_size e
 | set S n=>obtain ⟨o,_,_,_,e,_⟩:=x;exact Heap.lt_size e
 | ins C dx fs=>obtain ⟨_,_,_,e,_⟩:=x;exact Heap.lt_size e
 | own y=>obtain ⟨_,e⟩:=x;exact Heap.lt_size e
 | xd fs=>obtain ⟨_,⟨_,_,_,e,_⟩,_⟩:=x;exact Heap.lt_size e
 | VX lo hi=>obtain ⟨_,_,_,e⟩:=x;exact Heap.lt_size e
 | Ci ob u=>obtain ⟨e,_⟩:=x;exact Heap.lt_size e
 | NJ ps=>exact Heap.lt_size (show h.get? a=some _ from x)
 | met f y=>exact Heap.lt_size (show h.get? a=some _ from x)
 | ext φ=>obtain ⟨_,⟨_,e⟩,_⟩:=x;exact Heap.lt_size e
theorem Paired.dh {α β:Type} {F G:α→β→Prop}:∀ {l₁:List α} {l₂:List β},Paired F l₁ l₂→(∀ a b,F a b→G a b)→Paired G l₁ l₂
 | _,_,.nil,_=>.nil
 | _,_,.cons r t,f=>.cons (f _ _ r) (Paired.dh t f)
theorem cD.stay (x:cD P w H h a o) (k:∀ b u,(b=a∨H b=some (.own a))→h.get? b=some u→h'.get? b=some u)
  (ho:∀ b,H b=some (.own a)→H' b=some (.own a)) (ht:∀ b xs,H b=some (.tup xs)→H' b=some (.tup xs)):cD P w H' h' a o:=by
 induction o with
 | lst xs=>obtain ⟨z,its,n,r,e⟩:=x;exact ⟨z,its,n,r,k _ _ (.inl rfl) e⟩
 | tup xs=>obtain ⟨z,its,r,ob,e,c⟩:=x;exact ⟨z,its,r,ob,k _ _ (.inl rfl) e,c⟩
 | dK kvs=>obtain ⟨z,y,vs,r,ob,es,ep,e,c⟩:=x;exact ⟨z,y,vs,r,ob,es,ep,k _ _ (.inl rfl) e,c⟩
 | dT kvs =>
  obtain ⟨z,y,xs,r,ob,es,ep,e,c⟩:=x
  exact ⟨z,y,xs,Paired.dh r fun p q z=>⟨z.1,ht _ _ z.2.1,z.2.2⟩,ob,es,ep,k _ _ (.inl rfl) e,c⟩
 | set S n=>obtain ⟨ob,es,ep,t,e,c⟩:=x;exact ⟨ob,es,ep,t,k _ _ (.inl rfl) e,c⟩
 | ins C dx fs =>
  obtain ⟨d,z,ne,e,mA,⟨od,es,ep,e2,c⟩,r⟩:=x
  exact ⟨ho _ d,z,ne,k _ _ (.inl rfl) e,mA,⟨od,es,ep,k _ _ (.inr d) e2,c⟩,r⟩
 | own y=>obtain ⟨ob,e⟩:=x;exact ⟨ob,k _ _ (.inl rfl) e⟩
 | xd fs=>obtain ⟨mA,⟨od,es,ep,e,c⟩,r⟩:=x;exact ⟨mA,⟨od,es,ep,k _ _ (.inl rfl) e,c⟩,r⟩
 | VX lo hi=>obtain ⟨t,u,v,e⟩:=x;exact ⟨t,u,v,k _ _ (.inl rfl) e⟩
 | Ci ob u ih=>obtain ⟨e,q⟩:=x;exact ⟨k _ _ (.inl rfl) e,ih q⟩
 | NJ ps =>
  have e:h.get? a=some { cls:=.none,data:=.fields ps }:=x
  show h'.get? a=some { cls:=.none,data:=.fields ps }
  exact k a _ (.inl rfl) e
 | met f y =>
  have e:h.get? a=some (PySem.W.methodObj (.ref f) (.ref y)):=x
  show h'.get? a=some (PySem.W.methodObj (.ref f) (.ref y))
  exact k a _ (.inl rfl) e
 | ext φ=>obtain ⟨p,⟨o,e⟩,st⟩:=x;exact ⟨st _ _ p fun o q=>k _ _ (.inl rfl) q,⟨o,k _ _ (.inl rfl) e⟩,st⟩
theorem lS.lt (x:lS P w H h) (e:H a=some o):a < h.objs.size:=(x a o e).lt
theorem lS.fresh (x:lS P w H h) (e:h.objs.size≤a):H a=none:=by
 cases q:H a with
 | none=>rfl
 | some u=>exact absurd (Nat.lt_of_lt_of_le (x.lt q) e) (Nat.lt_irrefl _)
theorem lS.kept (x:lS P w H h) (k:∀ b u,h.get? b=some u→h'.get? b=some u):lS P w H h':=fun a o e =>
 (x a o e).stay (fun b u _ q=>k b u q) (fun _ q=>q) fun _ _ q=>q
theorem lS.laid (x:lS P w H h) (k:∀ b u,h.get? b=some u→h'.get? b=some u) (hp:h.objs.size≤a) (new:cD P w (upd H a o) h' a o):lS P w (upd H a o) h':=fun b u e=>by
 have hn:=x.fresh hp
 by_cases hb:b=a
 ·subst hb;rw [ah] at e;cases e;exact new
 ·rw [aA hb] at e
  exact (x b u e).stay (fun c v _ q=>k c v q) (fun c q=>by rw [aA (aq q hn)];exact q) fun c xs q=>by rw [aA (aq q hn)];exact q
end
def Rd (H:Hp) (a:Addr) (u:HO):Prop:=H a=some u∨∃ o,H a=some (.Ci o u)
theorem Rd.ok {P:Program} {w:World} {H:Hp} {h:Heap} {a:Addr} {u:HO} (r:Rd H a u) (x:lS P w H h):cD P w H h a u:=by
 rcases r with r | ⟨o,r⟩
 ·exact x a u r
 ·obtain ⟨_,q⟩:=x a _ r
  exact q
def VL:Option HO→Prop
 | some (.lst _)=>True
 | some (.dK _)=>True
 | some (.dT _)=>True
 | some (.set _ _)=>True
 | some (.ins _ _ _)=>True
 | some (.ext _)=>True
 | _=>False
section
variable {P:Program} {w:World} {H:Hp} {h h':Heap} {x e:Addr} {o':HO}
theorem lS.write (ok:lS P w H h) (mu:VL (H x)) (he:e=x∨H e=some (.own x)) (k:∀ b u,b≠e→h.get? b=some u→h'.get? b=some u) (RD:∃ u,h'.get? e=some u)
  (new:cD P w (upd H x o') h' x o'):lS P w (upd H x o') h':=fun b u q=>by
 have SY:∀ c y,H c=some (.own y)→c≠x:=fun c y r z=>by subst z;rw [r] at mu;exact mu
 have a2n:∀ c xs,H c=some (.tup xs)→c≠x:=fun c xs r z=>by subst z;rw [r] at mu;exact mu
 by_cases hb:b=x
 ·subst hb;rw [ah] at q;cases q;exact new
 ·rw [aA hb] at q
  by_cases P7:b=e
  ·have q':H b=some (.own x):=by
    rcases he with z | z
    ·exact absurd (P7.trans z) hb
    ·rw [P7];exact z
   rw [q] at q';cases q'
   obtain ⟨v,hv⟩:=RD
   exact ⟨v,by rw [P7];exact hv⟩
  ·refine (ok b u q).stay (fun c v hc r=>k c v ?_ r) (fun c r=>by rw [aA (SY c b r)];exact r) fun c xs r=>by rw [aA (a2n c xs r)];exact r
   rcases hc with rfl | hc
   ·exact P7
   ·rintro rfl
    rcases he with z | z
    ·exact SY c b hc z
    ·rw [hc] at z;cases z;exact hb rfl
end
structure Un (fs ex:List Addr) (H H':Hp) (h h':Heap):Prop where
 keep:∀ b o,h.get? b=some o→H b=none→b ∉ fs→b ∉ ex→h'.get? b=some o
 slot:∀ b o,h.get? b=some o→H b=none→b∈fs→b ∉ ex→∃ sl,h'.get? b=some { o with slots:=sl }
 free:∀ b o,h.get? b=some o→H b=none→b ∉ ex→H' b=none
 there:∀ b o,h.get? b=some o→b ∉ ex→∃ o',h'.get? b=some o'
 tups:∀ b xs,H b=some (.tup xs)→H' b=some (.tup xs)
 oj:∀ b o u,H b=some (.Ci o u)→H' b=some (.Ci o u)
 oG:∀ b ps,H b=some (.NJ ps)→∃ more,H' b=some (.NJ (ps++more))
section
variable {fs fs' ex ex':List Addr} {H H1 H2:Hp} {h h1 h2 h':Heap} {a x e:Addr} {o:HO}
theorem Un.any (u:Un fs ex H H1 h h1) {b:Addr} {ob:Obj} (q:h.get? b=some ob) (n:H b=none) (hx:b ∉ ex):∃ sl,h1.get? b=some { ob with slots:=sl }:=by
 by_cases hb:b∈fs
 ·exact u.slot b ob q n hb hx
 ·exact ⟨ob.slots,u.keep b ob q n hb hx⟩
theorem Un.kept (k:∀ b u,h.get? b=some u→h'.get? b=some u):Un fs ex H H h h' :=
 ⟨fun b ob q _ _ _=>k b ob q,fun b ob q _ _ _=>⟨ob.slots,k b ob q⟩,fun _ _ _ n _=>n,fun b ob q _=>⟨ob,k b ob q⟩,fun _ _ q=>q,fun _ _ _ q=>q,fun _ ps q=>⟨#[],by rw [q];simp⟩⟩
theorem Un.refl:Un fs ex H H h h:=Un.kept fun _ _ q=>q
theorem Un.laid (k:∀ b u,h.get? b=some u→h'.get? b=some u) (hp:h.objs.size≤a) (hn:H a=none):Un fs ex H (upd H a o) h h' where
 keep:=fun b u q _ _ _=>k b u q
 slot:=fun b u q _ _ _=>⟨u.slots,k b u q⟩
 free:=fun b u q n _=>by rw [aA (Nat.ne_of_lt (Nat.lt_of_lt_of_le (Heap.lt_size q) hp))];exact n
 there:=fun b u q _=>⟨u,k b u q⟩
 tups:=fun b xs q=>by rw [aA (aq q hn)];exact q
 oj:=fun b u xs q=>by rw [aA (aq q hn)];exact q
 oG:=fun b ps q=>⟨#[],by rw [aA (aq q hn),q];simp⟩
theorem Un.write (mu:VL (H x)) (he:e=x∨H e=some (.own x)) (k:∀ b u,b≠e→h.get? b=some u→h'.get? b=some u) (RD:∃ u,h'.get? e=some u):Un fs ex H (upd H x o) h h':=by
 have hx:∀ b,H b=none→b≠x:=fun b n z=>by subst z;rw [n] at mu;exact mu
 have hb:∀ b,H b=none→b≠e:=fun b n z=>by
  subst z
  rcases he with r | r
  ·exact hx b n r
  ·rw [n] at r;cases r
 have hm:∀ b u,H b=some u→¬ VL (some u)→b≠x:=fun b u q nm z=>by subst z;rw [q] at mu;exact nm mu
 refine ⟨fun b u q n _ _=>k b u (hb b n) q,fun b u q n _ _=>⟨u.slots,k b u (hb b n) q⟩,fun b u q n _=>by rw [aA (hx b n)];exact n,fun b u q _=>?_,
  fun b xs q=>by rw [aA (hm b _ q fun z=>z)];exact q,fun b u xs q=>by rw [aA (hm b _ q fun z=>z)];exact q,fun b ps q=>⟨#[],by rw [aA (hm b _ q fun z=>z),q];simp⟩⟩
 by_cases P7:b=e
 ·subst P7;exact RD
 ·exact ⟨u,k b u P7 q⟩
end
def VU (h:Heap) (H:Hp):List Addr:=(List.range h.objs.size).filter fun a=>(H a).isSome
def yT (h:Heap) (H:Hp):Heap:=PySem.W.hideAll h (VU h H)
theorem EO (h:Heap) (H:Hp):(yT h H).objs.size=h.objs.size:=PySem.W.hideAll_size _ _
theorem JD {h:Heap} {H:Hp} {b:Addr} {o:Obj} (e:h.get? b=some o) (n:H b=none):(yT h H).get? b=some o :=
 PySem.W.hideAll_get _ e fun hm=>by
  have q:(H b).isSome=true:=(List.mem_filter.mp hm).2
  rw [n] at q;simp at q
theorem LR {h:Heap} {H:Hp} {b:Addr} {o:Obj} (e:(yT h H).get? b=some o):h.get? b=some o∧H b=none:=by
 have e':h.get? b=some o:=PySem.W.of_hideAll (VU h H) e
 refine ⟨e',?_⟩
 cases q:H b with
 | none=>rfl
 | some x =>
  have hm:b∈VU h H:=List.mem_filter.mpr ⟨List.mem_range.mpr (Heap.lt_size e'),by simp [q]⟩
  have z:(yT h H).get? b=none:=PySem.W.hideAll_none (VU h H) hm
  rw [z] at e;cases e
def M8 (g h:Heap) (L:Addr):List (Addr×Obj):=(List.range h.objs.size).filterMap fun a=>if a=L∨(g.get? a).isSome=true then none else (h.get? a).map fun o=>(a,o)
def rest (g h:Heap) (L d:Addr):List (Addr×Obj):=(M8 g h L).filter fun p=>decide (p.1≠d)
end L2
namespace L2
open PySem PySem.Spec PyProof.Rows
structure Mod (K:PySem.W.Frag) (mg:Str→Option Value) (base:Heap):Prop where
 jb:K.In base
 glob:base.Ns mainGlobals mg
 blt:∃ mb,base.Ns builtinsNs mb∧∀ x:Str,x≠"__name__"→mb x=bootBuiltins x
 nolimit:base.NoLimit
structure Cx where
 prog:Program
 w:World
 K:PySem.W.Frag
 mg:Str→Option Value
 base:Heap
 A:Around
 N:List Str
 s₀:Shared
 H₀:Hp
 env:Env
 outer:List Env
 stack:List Env
 ex:List Addr
 fn:Str→Bool
 calm:Bool
 pn:List (Addr×Obj)
 xe:Value→Shared→Prop
def frs (l:List Env):List Addr:=l.filterMap (·.frame)
abbrev Cx.fs (X:Cx):List Addr:=frs X.outer
def X7 (sc:Scope) (x:Str):Prop:=sc.names.lookup x=some .local∨sc.names.lookup x=some .cell∨sc.names.lookup x=some .free
def Loc (sc:Scope) (x:Str):Prop:=sc.names.lookup x=some .local∨sc.names.lookup x=some .cell
def Look (env:Env) (h:Heap) (m:Str→Option Value) (x:Str) (u:Value):Prop :=
 (env.kindOf x=some .local∧m x=some u)∨((env.kindOf x=some .cell∨env.kindOf x=some .free)∧∃ c,env.cells.lookup x=some c∧h.IsCell c (some u))
structure Cx.Ok (X:Cx):Prop where
 mod:Mod X.K X.mg X.base
 kind:X.env.scope.kind=.function
 glob:X.env.globals=mainGlobals
 blt:X.env.builtins=builtinsNs
 above:X.s₀.heap.objs.size≤X.env.locals
 inj:∀ x y c,X.env.cells.lookup x=some c→X.env.cells.lookup y=some c→x=y
 has:∀ x,(X.env.kindOf x=some .cell∨X.env.kindOf x=some .free)→∃ c,X.env.cells.lookup x=some c
 MZ:∀ x c,X.fn x=true→X.env.cells.lookup x=some c→X.s₀.heap.objs.size≤c
 hd:X.calm=true→X.A.handled=none
 frames:X.A.frames=some X.stack
 stk:X.stack=X.outer∨(X.stack=X.env::X.outer∧X.env.frame=some X.env.locals)
 KR:∀ b∈X.ex,b≠X.env.locals∧∀ x c,X.env.cells.lookup x=some c→c≠b
 bs:∀ b o,X.base.get? b=some o→X.s₀.heap.get? b=some o∧X.H₀ b=none
 AO:X.base.objs.size≤X.s₀.heap.objs.size
 wD:∀ b o,X.base.get? b=some o→b ∉ X.ex
 wH:∀ b∈X.ex,b ∉ X.fs
 lH:X.s₀.heap.FunFrames X.base X.outer
 Fz:∀ b∈X.fs,X.H₀ b=none
structure Inv (X:Cx) (pins:List (Addr×Obj)) (σ:List (Option V)) (H:Hp) (s:Shared):Prop where
 ok:X.Ok
 os:s.os=X.s₀.os
 bare:AllBare s.gens
 base:Un X.fs X.ex X.H₀ H X.s₀.heap s.heap
 loc:∃ m,s.heap.Ns X.env.locals m∧∀ (i:Nat) (x:Str) (v:V),X.N[i]?=some x→σ[i]?=some (some v)→X7 X.env.scope x→∃ u,RelV v u∧Look X.env s.heap m x u
 cell:∀ x c,X.env.cells.lookup x=some c→∃ v,s.heap.IsCell c v
 free:H X.env.locals=none
 gF:∀ x c,X.env.cells.lookup x=some c→H c=none
 pin:∀ p∈X.pn++pins,s.heap.get? p.1=some p.2∧H p.1=none∧p.1≠X.env.locals∧p.1 ∉ X.fs∧∀ v,p.2.data≠.cell v
 hok:lS X.prog X.w H s.heap
 len:σ.length=X.N.length
section
variable {X:Cx} {pins:List (Addr×Obj)} {σ:List (Option V)} {H H':Hp} {s:Shared} {h':Heap}
theorem Cx.Ok.a2r (ok:X.Ok) {b:Addr} {o:Obj} (e:X.base.get? b=some o):b ∉ X.fs:=fun hb=>by
 have:=(ok.lH.mem hb).1
 rw [e] at this;cases this
theorem Inv.bs (I:Inv X pins σ H s):∀ b o,X.base.get? b=some o→s.heap.get? b=some o∧H b=none:=fun b o e =>
 ⟨I.base.keep b o (I.ok.bs b o e).1 (I.ok.bs b o e).2 (I.ok.a2r e) (I.ok.wD b o e),I.base.free b o (I.ok.bs b o e).1 (I.ok.bs b o e).2 (I.ok.wD b o e)⟩
theorem Inv.bk (I:Inv X pins σ H s):∀ b o,X.base.get? b=some o→s.heap.get? b=some o:=fun b o e=>(I.bs b o e).1
theorem Inv.mod (I:Inv X pins σ H s):Mod X.K X.mg X.base:=I.ok.mod
theorem Inv.iX (I:Inv X pins σ H s):X.K.In s.heap:=I.ok.mod.jb.keeps I.bk
theorem Inv.fr (I:Inv X pins σ H s):∃ m,Fr X.base X.env.locals s.heap m :=
 let ⟨m,hn,_⟩:=I.loc
 ⟨m,hn,I.bk,Nat.le_trans I.ok.AO I.ok.above⟩
theorem Inv.lt (I:Inv X pins σ H s):X.env.locals < s.heap.objs.size:=let ⟨_,hn,_⟩:=I.loc;hn.lt
theorem Inv.sz (I:Inv X pins σ H s):X.s₀.heap.objs.size≤s.heap.objs.size:=Nat.le_trans I.ok.above (Nat.le_of_lt I.lt)
theorem Inv.Pq (I:Inv X pins σ H s) {a:Addr} (h:s.heap.objs.size≤a):a ∉ X.fs:=fun hb=>by
 obtain ⟨_,o,ho,_⟩:=I.ok.lH.mem hb
 exact absurd (Nat.lt_of_lt_of_le (Heap.lt_size ho) (Nat.le_trans I.sz h)) (Nat.lt_irrefl _)
theorem Inv.Oh (I:Inv X pins σ H s):∀ x c,X.env.cells.lookup x=some c→c≠X.env.locals:=fun x c e z=>by
 obtain ⟨v,o,ho,hd⟩:=I.cell x c e
 obtain ⟨m,⟨o',es,ep,ho',hd',_⟩,_⟩:=I.loc
 rw [z,ho'] at ho;cases ho;rw [hd'] at hd;cases hd
theorem Inv.lH (I:Inv X pins σ H s):s.heap.FunFrames X.base X.outer:=by
 have all:∀ (l:List Env),(∀ b∈frs l,b∈X.fs)→X.s₀.heap.FunFrames X.base l→s.heap.FunFrames X.base l:=by
  intro l
  induction l with
  | nil=>intro _ _;trivial
  | cons env r ih =>
   intro hs hl
   obtain ⟨hk,⟨L,o,hf,hn,ho,hd⟩,hr⟩:=hl
   have hL:L∈X.fs:=hs L (by unfold frs;rw [List.filterMap_cons,hf];exact List.mem_cons_self)
   obtain ⟨sl,e⟩:=I.base.slot L o ho (I.ok.Fz L hL) hL fun z=>I.ok.wH L z hL
   exact ⟨hk,⟨L,_,hf,hn,e,hd⟩,ih (fun b hb=>hs b (by unfold frs;rw [List.filterMap_cons,hf];exact List.mem_cons_of_mem _ hb)) hr⟩
 exact all X.outer (fun _ hb=>hb) I.ok.lH
theorem Inv.stack (I:Inv X pins σ H s):s.heap.FunFrames X.base X.stack:=by
 rcases I.ok.stk with e | ⟨e,hf⟩
 ·rw [e];exact I.lH
 ·rw [e]
  obtain ⟨m,hn,_⟩:=I.loc
  refine .cons (by rw [I.ok.kind];decide) hf hn ?_ I.lH
  exact Heap.get?_none_of_le (Nat.le_trans I.ok.AO I.ok.above)
theorem Inv.kF (I:Inv X pins σ H s):∀ b∈frs X.stack,b∈X.env.locals::X.fs:=fun b hb=>by
 rcases I.ok.stk with e | ⟨e,hf⟩
 ·rw [e] at hb;exact List.mem_cons_of_mem _ hb
 ·rw [e] at hb
  unfold frs at hb
  rw [List.filterMap_cons,hf] at hb
  exact hb
theorem Inv.lY (I:Inv X pins σ H s):∀ b∈frs X.stack,H b=none:=fun b hb=>by
 rcases List.mem_cons.mp (I.kF b hb) with e | hb
 ·rw [e];exact I.free
 ·obtain ⟨_,o,ho,_⟩:=I.ok.lH.mem hb
  exact I.base.free b o ho (I.ok.Fz b hb) fun z=>I.ok.wH b z hb
theorem Inv.step {g':Array GenState} {t':Nat} {d':Drawn} {ch:List Addr} (I:Inv X pins σ H s)
  (hch:∀ b∈ch,(b∈X.ex∨X.s₀.heap.objs.size≤b)∧b≠X.env.locals∧(∀ x c,X.env.cells.lookup x=some c→c≠b)∧∀ p∈X.pn++pins,p.1≠b)
  (keep:∀ b o,b≠X.env.locals→b ∉ X.fs→b ∉ ch→s.heap.get? b=some o→H b=none→h'.get? b=some o)
  (slot:∀ b o,b≠X.env.locals→b∈X.fs→b ∉ ch→s.heap.get? b=some o→H b=none→∃ sl,h'.get? b=some { o with slots:=sl }) (free:∀ b o,b ∉ ch→s.heap.get? b=some o→H b=none→H' b=none)
  (there:∀ b o,b ∉ ch→s.heap.get? b=some o→∃ o',h'.get? b=some o')
  (tups:∀ b xs,H b=some (.tup xs)→H' b=some (.tup xs)) (oj:∀ b o u,H b=some (.Ci o u)→H' b=some (.Ci o u)) (oG:∀ b ps,H b=some (.NJ ps)→∃ more,H' b=some (.NJ (ps++more)))
  (ns:∀ m,s.heap.Ns X.env.locals m→h'.Ns X.env.locals m) (hok:lS X.prog X.w H' h') (hg:AllBare g') :
  Inv X pins σ H' { s with heap:=h',gens:=g',drawn:=d',toks:=t' }:=by
 have neL:∀ b o,X.s₀.heap.get? b=some o→b≠X.env.locals:=fun b o e=>Nat.ne_of_lt (Nat.lt_of_lt_of_le (Heap.lt_size e) I.ok.above)
 have V2:∀ b o,X.s₀.heap.get? b=some o→b ∉ X.ex→b ∉ ch:=fun b o e hx hb=>by
  rcases (hch b hb).1 with z | z
  ·exact hx z
  ·exact absurd (Nat.lt_of_lt_of_le (Heap.lt_size e) z) (Nat.lt_irrefl _)
 have cellK:∀ x c,X.env.cells.lookup x=some c→∀ v,s.heap.IsCell c v→h'.IsCell c v:=fun x c e v ⟨o,ho,hd⟩=>by
  have S8:c ∉ ch:=fun z=>(hch c z).2.2.1 x c e rfl
  by_cases hc:c∈X.fs
  ·obtain ⟨sl,q⟩:=slot c o (I.Oh x c e) hc S8 ho (I.gF x c e)
   exact ⟨_,q,hd⟩
  ·exact ⟨o,keep c o (I.Oh x c e) hc S8 ho (I.gF x c e),hd⟩
 refine ⟨I.ok,I.os,hg,⟨fun b o e n hb hx=>?_,fun b o e n hb hx=>?_,fun b o e n hx=>?_,fun b o e hx=>?_,fun b xs e=>tups b xs (I.base.tups b xs e),fun b o xs e=>oj b o xs (I.base.oj b o xs e),fun b ps e=>?_⟩,?_,fun x c e=>?_,?_,fun x c e=>?_,fun p hp=>?_,hok,I.len⟩
 ·exact keep b o (neL b o e) hb (V2 b o e hx) (I.base.keep b o e n hb hx) (I.base.free b o e n hx)
 ·obtain ⟨sl,e1⟩:=I.base.slot b o e n hb hx
  obtain ⟨sl',e2⟩:=slot b _ (neL b o e) hb (V2 b o e hx) e1 (I.base.free b o e n hx)
  exact ⟨sl',e2⟩
 ·obtain ⟨o',e1⟩:=I.base.there b o e hx
  exact free b o' (V2 b o e hx) e1 (I.base.free b o e n hx)
 ·obtain ⟨o',e1⟩:=I.base.there b o e hx
  exact there b o' (V2 b o e hx) e1
 ·obtain ⟨m1,e1⟩:=I.base.oG b ps e
  obtain ⟨m2,e2⟩:=oG b _ e1
  exact ⟨m1++m2,by rw [e2,Array.append_assoc]⟩
 ·obtain ⟨m,hn,hl⟩:=I.loc
  refine ⟨m,ns m hn,fun i x v e1 e2 e3=>?_⟩
  obtain ⟨u,r,l⟩:=hl i x v e1 e2 e3
  refine ⟨u,r,?_⟩
  rcases l with l | ⟨k,c,e,z⟩
  ·exact .inl l
  ·exact .inr ⟨k,c,e,cellK x c e _ z⟩
 ·obtain ⟨v,z⟩:=I.cell x c e
  exact ⟨v,cellK x c e v z⟩
 ·obtain ⟨m,⟨o,_,_,ho,_⟩,_⟩:=I.loc
  exact free _ o (fun z=>(hch _ z).2.1 rfl) ho I.free
 ·obtain ⟨v,o,ho,hd⟩:=I.cell x c e
  exact free c o (fun z=>(hch c z).2.2.1 x c e rfl) ho (I.gF x c e)
 ·obtain ⟨e,n,ne,nf,d⟩:=I.pin p hp
  have S8:p.1 ∉ ch:=fun z=>(hch p.1 z).2.2.2 p hp rfl
  exact ⟨keep p.1 p.2 ne nf S8 e n,free p.1 p.2 S8 e n,ne,nf,d⟩
theorem Inv.un {t':Nat} (I:Inv X pins σ H s) (u:Un X.fs [] H H' s.heap h') (hok:lS X.prog X.w H' h'):Inv X pins σ H' { s with heap:=h',toks:=t' }:=by
 obtain ⟨m,⟨o,es,ep,ho,r⟩,_⟩:=id I.loc
 obtain ⟨sl,hL⟩:=u.any ho I.free (by simp)
 exact I.step (g':=s.gens) (d':=s.drawn) (ch:=[]) (fun _ z=>nomatch z) (fun b o _ hb _ e n=>u.keep b o e n hb (by simp)) (fun b o _ hb _ e n=>u.slot b o e n hb (by simp)) (fun b o _ e n=>u.free b o e n (by simp)) (fun b o _ e=>u.there b o e (by simp)) u.tups u.oj u.oG (fun m' hm=>by
  obtain ⟨o',es',ep',ho',r'⟩:=hm
  rw [ho] at ho';cases ho'
  exact ⟨_,es',ep',hL,r'⟩) hok I.bare
theorem Inv.call {g':Array GenState} {t':Nat} {d':Drawn} {ch:List Addr} (I:Inv X pins σ H s) (u:Un (frs X.stack) ch H H' s.heap h') (hok:lS X.prog X.w H' h') (hg:AllBare g')
  (hch:∀ b∈ch,(b∈X.ex∨X.s₀.heap.objs.size≤b)∧b≠X.env.locals∧(∀ x c,X.env.cells.lookup x=some c→c≠b)∧∀ p∈X.pn++pins,p.1≠b) :
  Inv X pins σ H' { s with heap:=h',gens:=g',drawn:=d',toks:=t' }:=by
 obtain ⟨m,⟨o,es,ep,ho,r⟩,_⟩:=id I.loc
 obtain ⟨sl,hL⟩:=u.any ho I.free fun z=>(hch _ z).2.1 rfl
 exact I.step (ch:=ch) hch (fun b o hL hb hc e n=>u.keep b o e n (fun z=>(List.mem_cons.mp (I.kF b z)).elim hL hb) hc) (fun b o _ _ hc e n=>u.any e n hc) (fun b o hc e n=>u.free b o e n hc) (fun b o hc e=>u.there b o e hc) u.tups u.oj u.oG (fun m' hm=>by
  obtain ⟨o',es',ep',ho',r'⟩:=hm
  rw [ho] at ho';cases ho'
  exact ⟨_,es',ep',hL,r'⟩) hok hg
theorem Inv.turned {t':Nat} {it:Addr} (I:Inv X pins σ H s) (k:∀ b o,b≠it→s.heap.get? b=some o→h'.get? b=some o) (hn:H it=none) (hL:it≠X.env.locals)
  (h1:it∈X.ex∨X.s₀.heap.objs.size≤it) (h2:∀ x c,X.env.cells.lookup x=some c→c≠it) (h3:∀ p∈X.pn++pins,p.1≠it):Inv X pins σ H { s with heap:=h',toks:=t' }:=by
 have nit:∀ b u,H b=some u→b≠it:=fun b u e z=>by rw [z,hn] at e;cases e
 refine I.step (g':=s.gens) (d':=s.drawn) (ch:=[it]) (fun b hb=>?_) (fun b o _ _ hc e _=>k b o (fun z=>hc (by simp [z])) e) (fun b o _ _ hc e _=>⟨o.slots,k b o (fun z=>hc (by simp [z])) e⟩) (fun _ _ _ _ n=>n)
  (fun b o hc e=>⟨o,k b o (fun z=>hc (by simp [z])) e⟩) (fun _ _ e=>e) (fun _ _ _ e=>e) (fun b ps e=>⟨#[],by rw [e];simp⟩) (fun m hm=>?_) (fun b u e=>?_) I.bare
 ·have e:b=it:=by simpa using hb
  subst e
  exact ⟨h1,hL,h2,h3⟩
 ·obtain ⟨o,es,ep,ho,r⟩:=hm
  exact ⟨o,es,ep,k _ o (Ne.symm hL) ho,r⟩
 ·refine (I.hok b u e).stay (fun c v hc q=>k c v ?_ q) (fun _ q=>q) fun _ _ q=>q
  rcases hc with z | z
  ·rw [z];exact nit b u e
  ·exact nit c _ z
theorem Inv.tok (I:Inv X pins σ H s) (t:Nat):Inv X pins σ H { s with toks:=t }:=I.un (h':=s.heap) (t':=t) Un.refl I.hok
theorem Inv.kept {t':Nat} (I:Inv X pins σ H s) (k:∀ b u,s.heap.get? b=some u→h'.get? b=some u):Inv X pins σ H { s with heap:=h',toks:=t' }:=I.un (Un.kept k) (I.hok.kept k)
theorem Inv.laid {a:Addr} {o:HO} {t':Nat} (I:Inv X pins σ H s) (k:∀ b u,s.heap.get? b=some u→h'.get? b=some u) (hp:s.heap.objs.size≤a) (new:cD X.prog X.w (upd H a o) h' a o) :
  Inv X pins σ (upd H a o) { s with heap:=h',toks:=t' }:=I.un (Un.laid k hp (I.hok.fresh hp)) (I.hok.laid k hp new)
theorem Inv.write {x e:Addr} {o:HO} {t':Nat} (I:Inv X pins σ H s) (mu:VL (H x)) (he:e=x∨H e=some (.own x)) (k:∀ b u,b≠e→s.heap.get? b=some u→h'.get? b=some u) (RD:∃ u,h'.get? e=some u)
  (new:cD X.prog X.w (upd H x o) h' x o):Inv X pins σ (upd H x o) { s with heap:=h',toks:=t' }:=I.un (Un.write mu he k RD) (I.hok.write mu he k RD new)
theorem Inv.weak {σ':List (Option V)} (I:Inv X pins σ H s) (hl:σ'.length=σ.length) (w:∀ (i:Nat) v,σ'[i]?=some (some v)→σ[i]?=some (some v)):Inv X pins σ' H s :=
 ⟨I.ok,I.os,I.bare,I.base,let ⟨m,hn,hl'⟩:=I.loc;⟨m,hn,fun i x v e1 e2 e3=>hl' i x v e1 (w i v e2) e3⟩,I.cell,I.free,I.gF,I.pin,I.hok,hl.trans I.len⟩
theorem Inv.oX {jj:List (Addr×Obj)} (I:Inv X pins σ H s) (h:∀ p∈jj,s.heap.get? p.1=some p.2∧H p.1=none∧p.1≠X.env.locals∧p.1 ∉ X.fs∧∀ v,p.2.data≠.cell v):Inv X jj σ H s :=
 ⟨I.ok,I.os,I.bare,I.base,I.loc,I.cell,I.free,I.gF,fun p hp=>(List.mem_append.mp hp).elim (fun z=>I.pin p (List.mem_append_left _ z)) (h p),I.hok,I.len⟩
theorem Af {N:List Str} (hN:N.Nodup) {i j:Nat} {x:Str} (a:N[i]?=some x) (b:N[j]?=some x):i=j:=by
 obtain ⟨h1,e1⟩:=List.getElem?_eq_some_iff.mp a
 obtain ⟨h2,e2⟩:=List.getElem?_eq_some_iff.mp b
 exact (List.getElem_inj hN).mp (e1.trans e2.symm)
theorem qy {M:Model} {A:Around} {E:Value→Shared→Prop} {i:Nat} {x:Str} {v:V} {u:Value} {Q:Unit→Shared→Prop} (I:Inv X pins σ H s) (hN:X.N.Nodup) (hi:X.N[i]?=some x) (hx:Loc X.env.scope x) (r:RelV v u)
  (h:∀ s',Inv X pins (σ.set i (some v)) H s'→(∃ a,Heap.SameBut a s.heap s'.heap∧(a=X.env.locals∨X.env.cells.lookup x=some a))→Q () s') (hf:X.fn x=true∨X.env.scope.names.lookup x=some .local:=by first | exact .inl rfl | exact .inr rfl | assumption):wpAny M A (storeName X.env x u) Q E s:=by
 obtain ⟨m,hn,hl⟩:=id I.loc
 have hcls:(X.env.scope.kind == .class || (X.env.scope.kind == .module && X.env.locals != X.env.globals))=false:=by rw [I.ok.kind];rfl
 have hiσ:i < σ.length:=by rw [I.len];exact (List.getElem?_eq_some_iff.mp hi).1
 have Oh:=I.Oh
 have tracked:∀ {a:Addr} {h':Heap},(∃ o,s.heap.get? a=some o∧H a=none)→Heap.SameBut a s.heap h'→lS X.prog X.w H h':=fun {a h'} ha hs b ob e=>by
  obtain ⟨_,_,hfree⟩:=ha
  refine (I.hok b ob e).stay (fun c w' hc q=>(hs.2 c ?_).trans q) (fun _ q=>q) fun _ _ q=>q
  rintro rfl
  rcases hc with rfl | hc
  ·rw [hfree] at e;cases e
  ·rw [hfree] at hc;cases hc
 rcases hx with hk | hk
 ·refine wpAny_storeName_local hk hn (fun h' hn' hs=>?_) hcls
  obtain ⟨oL,_,_,hoL,_⟩:=id hn
  refine h _ ⟨I.ok,I.os,I.bare,⟨fun b o e n hb hx=>?_,fun b o e n hb hx=>?_,I.base.free,fun b o e hx=>?_,I.base.tups,I.base.oj,I.base.oG⟩,⟨_,hn',fun j y v' e1 e2 e3=>?_⟩,fun y c e=>?_,I.free,I.gF,fun p hp=>?_,tracked ⟨oL,hoL,I.free⟩ hs,by simpa using I.len⟩ ⟨_,hs,.inl rfl⟩
  ·exact (hs.2 b (Nat.ne_of_lt (Nat.lt_of_lt_of_le (Heap.lt_size e) I.ok.above))).trans (I.base.keep b o e n hb hx)
  ·obtain ⟨sl,e1⟩:=I.base.slot b o e n hb hx
   exact ⟨sl,(hs.2 b (Nat.ne_of_lt (Nat.lt_of_lt_of_le (Heap.lt_size e) I.ok.above))).trans e1⟩
  ·obtain ⟨o',e1⟩:=I.base.there b o e hx
   exact ⟨o',(hs.2 b (Nat.ne_of_lt (Nat.lt_of_lt_of_le (Heap.lt_size e) I.ok.above))).trans e1⟩
  ·by_cases hj:j=i
   ·subst hj
    rw [hi] at e1;cases e1
    rw [List.getElem?_set_self hiσ] at e2
    cases e2
    exact ⟨u,r,.inl ⟨hk,by simp⟩⟩
   ·rw [List.getElem?_set_ne (Ne.symm hj)] at e2
    obtain ⟨u',r',q⟩:=hl j y v' e1 e2 e3
    refine ⟨u',r',?_⟩
    rcases q with ⟨k,e⟩ | ⟨k,c,e,z⟩
    ·refine .inl ⟨k,?_⟩
     have:y≠x:=fun e=>hj (Af hN e1 (e ▸ hi))
     simp [this,e]
    ·exact .inr ⟨k,c,e,z.sameBut hs (Oh y c e)⟩
  ·obtain ⟨w',z⟩:=I.cell y c e
   exact ⟨w',z.sameBut hs (Oh y c e)⟩
  ·obtain ⟨e,n,ne,nf,d⟩:=I.pin p hp
   exact ⟨(hs.2 p.1 ne).trans e,n,ne,nf,d⟩
 ·have hfn:X.fn x=true:=by
   rcases hf with z | z
   ·exact z
   ·rw [z] at hk;cases hk
  obtain ⟨c,hc⟩:=I.ok.has x (.inl hk)
  obtain ⟨w',z⟩:=I.cell x c hc
  refine wpAny_storeName_cell I.ok.kind hk hc z (fun h' hc' hs=>?_)
  obtain ⟨oc,hoc,a5p⟩:=id z
  refine h { s with heap:=h' } ⟨I.ok,I.os,I.bare,⟨fun b o e n hb hx=>?_,fun b o e n hb hx=>?_,I.base.free,fun b o e hx=>?_,I.base.tups,I.base.oj,I.base.oG⟩,⟨m,hn.sameBut hs (Ne.symm (Oh x c hc)),fun j y v' e1 e2 e3=>?_⟩,fun y c' e=>?_,I.free,I.gF,fun p hp=>?_,tracked ⟨oc,hoc,I.gF x c hc⟩ hs,by simpa using I.len⟩ ⟨c,hs,.inr hc⟩
  ·exact (hs.2 b (Nat.ne_of_lt (Nat.lt_of_lt_of_le (Heap.lt_size e) (I.ok.MZ x c hfn hc)))).trans (I.base.keep b o e n hb hx)
  ·obtain ⟨sl,e1⟩:=I.base.slot b o e n hb hx
   exact ⟨sl,(hs.2 b (Nat.ne_of_lt (Nat.lt_of_lt_of_le (Heap.lt_size e) (I.ok.MZ x c hfn hc)))).trans e1⟩
  ·obtain ⟨o',e1⟩:=I.base.there b o e hx
   exact ⟨o',(hs.2 b (Nat.ne_of_lt (Nat.lt_of_lt_of_le (Heap.lt_size e) (I.ok.MZ x c hfn hc)))).trans e1⟩
  ·by_cases hj:j=i
   ·subst hj
    rw [hi] at e1;cases e1
    rw [List.getElem?_set_self hiσ] at e2
    cases e2
    exact ⟨u,r,.inr ⟨.inl hk,c,hc,hc'⟩⟩
   ·rw [List.getElem?_set_ne (Ne.symm hj)] at e2
    obtain ⟨u',r',q⟩:=hl j y v' e1 e2 e3
    refine ⟨u',r',?_⟩
    rcases q with q | ⟨k,c',e,z'⟩
    ·exact .inl q
    ·refine .inr ⟨k,c',e,z'.sameBut hs ?_⟩
     rintro rfl
     exact hj (Af hN e1 (I.ok.inj _ _ _ e hc ▸ hi))
  ·by_cases hcc:c'=c
   ·subst hcc;exact ⟨_,hc'⟩
   ·obtain ⟨w2,z2⟩:=I.cell y c' e
    exact ⟨w2,z2.sameBut hs hcc⟩
  ·obtain ⟨e,n,ne,nf,d⟩:=I.pin p hp
   refine ⟨(hs.2 p.1 ?_).trans e,n,ne,nf,d⟩
   intro q
   rw [q,hoc] at e
   have q':oc=p.2:=Option.some.inj e
   exact d w' (by rw [← q'];exact a5p)
theorem tU {M:Model} {A:Around} {E:Value→Shared→Prop} {i:Nat} {x:Str} {v:V} {u:Value} {Q:Unit→Shared→Prop} (I:Inv X pins σ H s) (hN:X.N.Nodup) (hi:X.N[i]?=some x) (hx:Loc X.env.scope x) (r:RelV v u)
  (h:∀ s',Inv X pins (σ.set i (some v)) H s'→Q () s') (hf:X.fn x=true∨X.env.scope.names.lookup x=some .local:=by first | exact .inl rfl | exact .inr rfl | assumption):wpAny M A (storeName X.env x u) Q E s :=
 qy I hN hi hx r (fun s' I' _=>h s' I') hf
theorem Inv.Kg {s':Shared} {ch:List Addr} (I:Inv X pins σ H s) (ho:s'.os=s.os) (u:Un (frs X.stack) ch H H' s.heap s'.heap) (hok:lS X.prog X.w H' s'.heap) (hg:AllBare s'.gens)
  (hch:∀ b∈ch,(b∈X.ex∨X.s₀.heap.objs.size≤b)∧b≠X.env.locals∧(∀ x c,X.env.cells.lookup x=some c→c≠b)∧∀ p∈X.pn++pins,p.1≠b):Inv X pins σ H' s':=by
 obtain ⟨h',g',d',t',o'⟩:=s'
 have e:o'=s.os:=ho
 subst e
 exact I.call (g':=g') (t':=t') (d':=d') u hok hg hch
end
abbrev XK:=Value→Option Addr→Hp→Prop
abbrev St:=List (Option V)
abbrev VK:=V→Hp→Prop
abbrev TE:=St→Hp→VK→Prop
abbrev TT:=St→Hp→(Bool→Hp→Prop)→Prop
abbrev TA:=St→Hp→(List V→Hp→Prop)→Prop
structure Ends where
 nx:St→Hp→Prop
 rt:VK
 bk:St→Hp→Prop:=fun _ _=>False
 ct:St→Hp→Prop:=fun _ _=>False
abbrev TS:=Ends→St→Hp→Prop
def EP (X:Cx) (pins:List (Addr×Obj)) (σ:St) (Q:VK) (u:Value) (s':Shared):Prop:=∃ v H',Inv X pins σ H' s'∧RelV v u∧Q v H'
def TP (X:Cx) (pins:List (Addr×Obj)) (σ:St) (Q:Bool→Hp→Prop) (b:Bool) (s':Shared):Prop:=∃ H',Inv X pins σ H' s'∧Q b H'
def AP (X:Cx) (pins:List (Addr×Obj)) (σ:St) (Q:List V→Hp→Prop) (us:List Value) (s':Shared):Prop:=∃ vs H',Inv X pins σ H' s'∧Vals vs us∧Q vs H'
def SP (X:Cx) (pins:List (Addr×Obj)) (D:Ends) (f:Flow) (s':Shared):Prop :=
 match f with
 | .next=>∃ σ' H',Inv X pins σ' H' s'∧D.nx σ' H'
 | .brk=>∃ σ' H',Inv X pins σ' H' s'∧D.bk σ' H'
 | .cont=>∃ σ' H',Inv X pins σ' H' s'∧D.ct σ' H'
 | .ret u=>∃ v σ' H',Inv X pins σ' H' s'∧RelV v u∧D.rt v H'
def PE (X:Cx) (e:Expr) (t:TE):Prop :=
 ∀ (pins:List (Addr×Obj)) (s:Shared) (σ:St) (H:Hp) (Q:VK),Inv X pins σ H s→t σ H Q→wpAny (model X.prog X.w) X.A (eval e X.env) (EP X pins σ Q) X.xe s
def PT (X:Cx) (e:Expr) (t:TT):Prop :=
 ∀ (pins:List (Addr×Obj)) (s:Shared) (σ:St) (H:Hp) (Q:Bool→Hp→Prop),Inv X pins σ H s→t σ H Q→wpAny (model X.prog X.w) X.A (isTrue e X.env (eval e X.env)) (TP X pins σ Q) X.xe s
def PW (X:Cx) (e:Expr) (t:TT):Prop :=
 ∀ (whole:Sem Value) (pins:List (Addr×Obj)) (s:Shared) (σ:St) (H:Hp) (Q:Bool→Hp→Prop),Inv X pins σ H s→t σ H Q→wpAny (model X.prog X.w) X.A (isTrue e X.env whole) (TP X pins σ Q) X.xe s
theorem PW.pt {X:Cx} {e:Expr} {t:TT} (h:PW X e t):PT X e t:=h _
def PA (X:Cx) (es:List Expr) (t:TA):Prop :=
 ∀ (pos:Pos) (pins:List (Addr×Obj)) (s:Shared) (σ:St) (H:Hp) (Q:List V→Hp→Prop),Inv X pins σ H s→t σ H Q→wpAny (model X.prog X.w) X.A (spliced (backTo pos (starEach es X.env))) (AP X pins σ Q) X.xe s
def PS (X:Cx) (st:Stmt) (t:TS):Prop :=
 ∀ (pins:List (Addr×Obj)) (s:Shared) (σ:St) (H:Hp) (D:Ends),Inv X pins σ H s→t D σ H→wpAny (model X.prog X.w) X.A (exec st X.env) (SP X pins D) X.xe s
def xO (X:Cx) (st:List Stmt) (t:TS):Prop :=
 ∀ (pins:List (Addr×Obj)) (s:Shared) (σ:St) (H:Hp) (D:Ends),Inv X pins σ H s→t D σ H→wpAny (model X.prog X.w) X.A (execs st X.env) (SP X pins D) X.xe s
theorem cy {α:Type} {t:Sem α} {Q Q':α→Shared→Prop} {M:Model} {A:Around} {E:Value→Shared→Prop} {s:Shared} (h:wpAny M A t Q E s) (hQ:∀ a s,Q a s→Q' a s):wpAny M A t Q' E s:=wpAny_mono h hQ fun _ _ x=>x
end L2
namespace L2
open PySem PySem.Spec PyProof.Rows
section
variable {X:Cx}
def OM (i:Nat):TE:=fun σ H Q=>∃ v,σ[i]?=some (some v)∧Q v H
def tC (v:V):TE:=fun _ H Q=>Q v H
theorem Pc {i:Nat} {x:Str} {pos:Pos} (hN:X.N[i]?=some x) (hv:X7 X.env.scope x) (hd:(x == ("__debug__":Str))=false:=by decide) (hcd:(x == ("__classdict__":Str))=false:=by decide):PE X (.Name x pos) (OM i):=by
 intro pins s σ H Q I h
 obtain ⟨v,e,h⟩:=h
 obtain ⟨m,hn,hl⟩:=I.loc
 obtain ⟨u,r,l⟩:=hl i x v hN e hv
 have fin:EP X pins σ Q u s:=⟨v,H,I,r,h⟩
 rcases l with ⟨hk,hm⟩ | ⟨hk,c,hc,hcell⟩
 ·exact wpAny_Name (wpAny_loadName_local I.ok.kind hk hn hm fin) hd
 ·rcases hk with hk | hk
  ·exact wpAny_Name (wpAny_loadName_cell I.ok.kind hk hc hcell fin) hd
  ·exact wpAny_Name (wpAny_loadName_free I.ok.kind hk hc hcell fin hcd) hd
theorem ak {i j pos}:PE X (.Constant (.int i) j pos) (tC (.int i)):=fun _ _ _ H _ I h=>wpAny_Constant_int ⟨.int i,H,I.tok _,⟨_,rfl⟩,h⟩
theorem kW {b j pos}:PE X (.Constant (.bool b) j pos) (tC (.bl b)):=fun _ _ _ H _ I h=>Constant_bool ⟨.bl b,H,I,rfl,h⟩
theorem HN {j pos}:PE X (.Constant .none j pos) (tC .eX):=fun _ _ _ H _ I h=>Constant_none ⟨.eX,H,I,rfl,h⟩
theorem aU {x j pos}:PE X (.Constant (.str x) j pos) (tC (.str x)):=fun _ _ _ H _ I h=>Calls.Constant_str ⟨.str x,H,I.tok _,⟨_,rfl⟩,h⟩
def Gl (X:Cx) (x:Str):Prop:=X.env.kindOf x=some .globalImplicit
theorem gB {E:Value→Shared→Prop} {pins:List (Addr×Obj)} {s:Shared} {σ:St} {H:Hp} {x:Str} {u:Value} {pos:Pos} {Q:Value→Shared→Prop} (I:Inv X pins σ H s) (hg:Gl X x) (hm:X.mg x=some u) (h:Q u s)
  (hd:(x == ("__debug__":Str))=false:=by decide):wpAny (model X.prog X.w) X.A (eval (.Name x pos) X.env) Q E s :=
 Calls.Name_function_global I.ok.kind hg (Calls.loadGlobal_global (by rw [I.ok.glob];exact I.mod.glob.keeps I.bk) hm h) hd
theorem u7 {E:Value→Shared→Prop} {pins:List (Addr×Obj)} {s:Shared} {σ:St} {H:Hp} {x:Str} {u:Value} {pos:Pos} {Q:Value→Shared→Prop} (I:Inv X pins σ H s) (hg:Gl X x) (hm:X.mg x=none) (hv:bootBuiltins x=some u) (h:Q u s)
  (hn:x≠"__name__":=by decide) (hd:(x == ("__debug__":Str))=false:=by decide):wpAny (model X.prog X.w) X.A (eval (.Name x pos) X.env) Q E s:=by
 obtain ⟨mb,h1,h2⟩:=I.mod.blt
 exact Calls.Name_function_global I.ok.kind hg (Calls.loadGlobal_builtin (by rw [I.ok.glob];exact I.mod.glob.keeps I.bk) hm (by rw [I.ok.blt];exact h1.keeps I.bk) ((h2 x hn).trans hv) h) hd
theorem yv {x:Str} {v:V} {u:Value} {pos:Pos} (hg:Gl X x) (hm:X.mg x=some u) (r:RelV v u) (hd:(x == ("__debug__":Str))=false:=by decide):PE X (.Name x pos) (tC v) :=
 fun _ _ _ H _ I h=>gB I hg hm ⟨v,H,I,r,h⟩ hd
theorem Dl {x:Str} {v:V} {u:Value} {pos:Pos} (hg:Gl X x) (hm:X.mg x=none) (hv:bootBuiltins x=some u) (r:RelV v u) (hn:x≠"__name__":=by decide) (hd:(x == ("__debug__":Str))=false:=by decide):PE X (.Name x pos) (tC v) :=
 fun _ _ _ H _ I h=>u7 I hg hm hv ⟨v,H,I,r,h⟩ hn hd
variable {a b:Expr} {ta tb:TE} {pos:Pos}
def PC (X:Cx) (op:CmpOp) (a b:Expr) (t:TE):Prop :=
 ∀ (pins:List (Addr×Obj)) (s:Shared) (σ:St) (H:Hp) (Q:VK),Inv X pins σ H s→t σ H Q →
  wpAny (model X.prog X.w) X.A (eval a X.env) (fun v s₁=>wpAny (model X.prog X.w) X.A (eval b X.env) (fun u s₂=>wpAny (model X.prog X.w) X.A (compareOp op v u) (EP X pins σ Q) X.xe s₂) X.xe s₁) X.xe s
theorem IF (b:Expr) {op:CmpOp} (h:op≠.In) (h2:op≠.NotIn):behindInMarks op b=false:=by
 have e1:(op == CmpOp.In)=false:=by cases op <;> first | rfl | exact absurd rfl h
 have e2:(op == CmpOp.NotIn)=false:=by cases op <;> first | rfl | exact absurd rfl h2
 cases b <;> simp [behindInMarks,e1,e2]
def tB (t:TE):TT:=fun σ H Q=>t σ H fun x H1=>∃ c,x=.bl c∧Q c H1
theorem O7 {op:CmpOp} {t:TE} (h:PC X op a b t) (h1:behindInMarks op b=false:=by first | exact IF _ (by decide) (by decide) | rfl):PT X (.Compare a [op] [b] pos) (tB t):=by
 intro pins s σ H Q I hw
 refine wpAny_isTrue_Compare1 (cy (h pins s σ H _ I hw) fun v s1 h1=>cy h1 fun u s2 h2=>cy h2 fun c s3 ⟨x,H1,I1,r1,q1⟩=>?_) h1
 obtain ⟨d,rfl,q⟩:=q1
 cases r1
 exact wpAny_truthy_bool ⟨H1,I1,q⟩
theorem nR {e:Expr} {t:TE} (h:PE X e t) (he:∀ whole,isTrue e X.env whole=(do let v ← whole;standAt e.pos;holding [v] (truthy v)):=by intro _;rfl):PT X e (tB t):=by
 intro pins s σ H Q I hw
 refine isTrue_plain (cy (h pins s σ H _ I hw) fun v s1 ⟨x,H1,I1,r1,q1⟩=>?_) (he _)
 obtain ⟨d,rfl,q⟩:=q1
 cases r1
 exact wpAny_truthy_bool ⟨H1,I1,q⟩
variable {tA VW:TT} {rest:List Expr}
def Yt (t u:TT):TT:=fun σ H Q=>t σ H fun c H1=>if c=true then u σ H1 Q else Q false H1
def tOr (t u:TT):TT:=fun σ H Q=>t σ H fun c H1=>if c=true then Q true H1 else u σ H1 Q
def Ym (t:TT):TT:=fun σ H Q=>t σ H fun c H1=>Q (!c) H1
theorem Lg (ha:PT X a tA):PW X (.BoolOp .And [a] pos) tA:=by
 intro wh pins s σ H Q I h
 refine isTrue_and (cy (ha pins s σ H Q I h) fun c s1 e=>?_)
 cases c with
 | true=>exact isTrue_and_nil e
 | false=>exact e
theorem nQ (ha:PT X a tA):PW X (.BoolOp .Or [a] pos) tA:=by
 intro wh pins s σ H Q I h
 refine isTrue_or (cy (ha pins s σ H Q I h) fun c s1 e=>?_)
 cases c with
 | false=>exact isTrue_or_nil e
 | true=>exact e
theorem O5 (ha:PT X a tA) (hb:PW X (.BoolOp .And (b::rest) pos) VW):PW X (.BoolOp .And (a::b::rest) pos) (Yt tA VW):=by
 intro wh pins s σ H Q I h
 refine isTrue_and (cy (ha pins s σ H _ I h) fun c s1 ⟨H1,I1,q1⟩=>?_)
 cases c with
 | true=>exact hb wh pins s1 σ H1 Q I1 q1
 | false=>exact ⟨H1,I1,q1⟩
theorem uB (ha:PT X a tA) (hb:PW X (.BoolOp .Or (b::rest) pos) VW):PW X (.BoolOp .Or (a::b::rest) pos) (tOr tA VW):=by
 intro wh pins s σ H Q I h
 refine isTrue_or (cy (ha pins s σ H _ I h) fun c s1 ⟨H1,I1,q1⟩=>?_)
 cases c with
 | true=>exact ⟨H1,I1,q1⟩
 | false=>exact hb wh pins s1 σ H1 Q I1 q1
theorem qI (ha:PT X a tA):PT X (.UnaryOp .Not a pos) (Ym tA):=by
 intro pins s σ H Q I h
 exact isTrue_not (ha pins s σ H (fun c H1=>Q (!c) H1) I h)
def Ss (ta tb:TE):TE:=fun σ H Q=>ta σ H fun x H1=>∃ c,x=.bl c∧if c=true then tb σ H1 Q else Q (.bl false) H1
def Yl (ta tb:TE):TE:=fun σ H Q=>ta σ H fun x H1=>∃ c,x=.bl c∧if c=true then Q (.bl true) H1 else tb σ H1 Q
def R7 (ta:TE):TE:=fun σ H Q=>ta σ H fun x H1=>∃ c,x=.bl c∧Q (.bl (!c)) H1
theorem nU {op} {t:TE} (h:PE X a t):PE X (.BoolOp op [a] pos) t:=fun pins s σ H Q I hw=>BoolOp_one (h pins s σ H Q I hw)
theorem uF (ha:PE X a ta) (hb:PE X (.BoolOp .And (b::rest) pos) tb):PE X (.BoolOp .And (a::b::rest) pos) (Ss ta tb):=by
 intro pins s σ H Q I h
 refine BoolOp_and (cy (ha pins s σ H _ I h) fun v s1 ⟨x,H1,I1,r1,q1⟩=>?_)
 obtain ⟨c,rfl,q1⟩:=q1
 cases r1
 refine wpAny_truthy_bool ?_
 cases c with
 | true=>exact hb pins s1 σ H1 Q I1 q1
 | false=>exact ⟨.bl false,H1,I1,rfl,q1⟩
theorem NR (ha:PE X a ta) (hb:PE X (.BoolOp .Or (b::rest) pos) tb):PE X (.BoolOp .Or (a::b::rest) pos) (Yl ta tb):=by
 intro pins s σ H Q I h
 refine BoolOp_or (cy (ha pins s σ H _ I h) fun v s1 ⟨x,H1,I1,r1,q1⟩=>?_)
 obtain ⟨c,rfl,q1⟩:=q1
 cases r1
 refine wpAny_truthy_bool ?_
 cases c with
 | false=>exact hb pins s1 σ H1 Q I1 q1
 | true=>exact ⟨.bl true,H1,I1,rfl,q1⟩
theorem BF (ha:PE X a ta):PE X (.UnaryOp .Not a pos) (R7 ta):=by
 intro pins s σ H Q I h
 refine UnaryOp_ (cy (ha pins s σ H _ I h) fun v s1 ⟨x,H1,I1,r1,q1⟩=>?_)
 obtain ⟨c,rfl,q1⟩:=q1
 cases r1
 exact not_of (wpAny_truthy_bool ⟨.bl (!c),H1,I1,rfl,q1⟩)
end
end L2
namespace L2
open PySem PySem.Spec PyProof.Rows
def bx (K:PySem.W.Frag) (H:Hp) (a:Addr) (xs:List V):Prop :=
 Rd H a (.lst xs) ∨
  ∃ (o:Obj) (its:Array Value) (n:Nat),K.lookup a=some o∧o.cls=.type "list"∧o.dict=none∧o.data=.seq its n∧its.size≤sizeLine∧Vals xs its.toList
def aV (K:PySem.W.Frag) (H:Hp) (a:Addr) (xs:List V):Prop :=
 Rd H a (.tup xs) ∨
  ∃ (o:Obj) (its:Array Value) (n:Nat),K.lookup a=some o∧o.cls=.type "tuple"∧o.data=.seq its n∧its.size≤sizeLine∧Vals xs its.toList
def a9B:Value→Option V
 | .none=>some .eX
 | .bool b=>some (.bl b)
 | .int i _=>some (.int i)
 | .str x _=>some (.str x)
 | .bytes b _=>some (.FG b)
 | .float b _=>some (.Qn b)
 | .ref a=>some (.ref a)
 | .type n=>some (.ty n)
 | _=>none
theorem RelV.abs {x:V} {u:Value} (r:RelV x u):a9B u=some x:=by
 cases x with
 | eX=>cases r;rfl
 | bl _=>cases r;rfl
 | int _=>obtain ⟨t,rfl⟩:=r;rfl
 | str _=>obtain ⟨t,rfl⟩:=r;rfl
 | FG _=>obtain ⟨t,rfl⟩:=r;rfl
 | Qn _=>obtain ⟨t,rfl⟩:=r;rfl
 | ref _=>cases r;rfl
 | ty _=>cases r;rfl
theorem RelV.inj {x y:V} {u:Value} (r:RelV x u) (q:RelV y u):x=y:=Option.some.inj (r.abs.symm.trans q.abs)
theorem Vals.inj:∀ {xs ys:List V} {us:List Value},Vals xs us→Vals ys us→xs=ys
 | _,_,_,.nil,.nil=>rfl
 | _,_,_,.cons r t,.cons r' t'=>by rw [r.inj r',Vals.inj t t']
section
variable {X:Cx} {pins:List (Addr×Obj)} {σ:St} {H:Hp} {s:Shared} {a:Addr} {xs ys:List V}
theorem bx.of {K:PySem.W.Frag} (h:H a=some (.lst xs)):bx K H a xs:=.inl (.inl h)
theorem aV.of {K:PySem.W.Frag} (h:H a=some (.tup xs)):aV K H a xs:=.inl (.inl h)
theorem Inv.list (I:Inv X pins σ H s) (h:bx X.K H a xs):∃ its:List Value,Vals xs its∧PlainL s.heap a its.toArray∧xs.length≤sizeLine:=by
 rcases h with h | ⟨o,its,n,hk,hc,hd,hs,hz,r⟩
 ·obtain ⟨z,its,n,r,e⟩:=h.ok I.hok
  exact ⟨its,r,⟨_,n,e,rfl,rfl,rfl⟩,z⟩
 ·refine ⟨its.toList,r,⟨o,n,I.iX a o hk,hc,hd,by simpa using hs⟩,?_⟩
  have e:=r.length
  simp only [Array.length_toList] at e
  omega
theorem Inv.tuple (I:Inv X pins σ H s) (h:aV X.K H a xs):∃ its:List Value,Vals xs its∧IsTup s.heap a its.toArray∧xs.length≤sizeLine:=by
 rcases h with h | ⟨o,its,n,hk,hc,hs,hz,r⟩
 ·obtain ⟨z,its,r,p⟩:=h.ok I.hok
  exact ⟨its,r,p,z⟩
 ·refine ⟨its.toList,r,⟨o,I.iX a o hk,hc,n,by simpa using hs⟩,?_⟩
  have e:=r.length
  simp only [Array.length_toList] at e
  omega
theorem Inv.Ao (I:Inv X pins σ H s) (h:bx X.K H a xs) (h':bx X.K H a ys):xs=ys:=by
 obtain ⟨its,r,⟨o,n,e,_,_,d⟩,_⟩:=I.list h
 obtain ⟨its',r',⟨o',n',e',_,_,d'⟩,_⟩:=I.list h'
 rw [e] at e';cases e'
 rw [d] at d'
 injection d' with d1 _
 have:its=its':=by simpa using congrArg Array.toList d1
 subst this
 exact r.inj r'
theorem Inv.wN (I:Inv X pins σ H s) (h:aV X.K H a xs) (h':aV X.K H a ys):xs=ys:=by
 obtain ⟨its,r,⟨o,e,_,n,d⟩,_⟩:=I.tuple h
 obtain ⟨its',r',⟨o',e',_,n',d'⟩,_⟩:=I.tuple h'
 rw [e] at e';cases e'
 rw [d] at d'
 injection d' with d1 _
 have:its=its':=by simpa using congrArg Array.toList d1
 subst this
 exact r.inj r'
end
abbrev Cx.wo (X:Cx) (E:Value→Shared→Prop):Cx:={ X with xe:=E }
abbrev Cx.VZ (X:Cx):Cx:=X.wo fun _ _=>False
theorem Cx.Ok.wo {X:Cx} (ok:X.Ok) (E:Value→Shared→Prop):(X.wo E).Ok :=
 ⟨ok.mod,ok.kind,ok.glob,ok.blt,ok.above,ok.inj,ok.has,ok.MZ,ok.hd,ok.frames,ok.stk,ok.KR,ok.bs,ok.AO,ok.wD,ok.wH,ok.lH,ok.Fz⟩
theorem Cx.Ok.kE {X:Cx} {E:Value→Shared→Prop} (ok:(X.wo E).Ok):X.Ok :=
 ⟨ok.mod,ok.kind,ok.glob,ok.blt,ok.above,ok.inj,ok.has,ok.MZ,ok.hd,ok.frames,ok.stk,ok.KR,ok.bs,ok.AO,ok.wD,ok.wH,ok.lH,ok.Fz⟩
section
variable {X:Cx} {pins:List (Addr×Obj)} {σ:St} {H:Hp} {s:Shared} {E:Value→Shared→Prop}
theorem Inv.wo (I:Inv X pins σ H s) (E:Value→Shared→Prop):Inv (X.wo E) pins σ H s:=⟨I.ok.wo E,I.os,I.bare,I.base,I.loc,I.cell,I.free,I.gF,I.pin,I.hok,I.len⟩
theorem Inv.kE (I:Inv (X.wo E) pins σ H s):Inv X pins σ H s:=⟨I.ok.kE,I.os,I.bare,I.base,I.loc,I.cell,I.free,I.gF,I.pin,I.hok,I.len⟩
theorem SP.kE {D:Ends} {f:Flow} {s':Shared} (h:SP (X.wo E) pins D f s'):SP X pins D f s':=by
 cases f with
 | next=>obtain ⟨σ',H',I,q⟩:=h;exact ⟨σ',H',I.kE,q⟩
 | brk=>obtain ⟨σ',H',I,q⟩:=h;exact ⟨σ',H',I.kE,q⟩
 | cont=>obtain ⟨σ',H',I,q⟩:=h;exact ⟨σ',H',I.kE,q⟩
 | ret u=>obtain ⟨v,σ',H',I,r,q⟩:=h;exact ⟨v,σ',H',I.kE,r,q⟩
theorem xO.VZ {st:List Stmt} {t:TS} (h:xO X.VZ st t):xO X st t:=fun pins s σ H D I hw =>
 wpAny_mono (h pins s σ H D (I.wo _) hw) (fun _ _ q=>q.kE) fun _ _ z=>False.elim z
end
section
variable {X:Cx} {st:Stmt} {rest:List Stmt} {t u:TS} {e:Expr} {te:TE} {pos:Pos}
def R8:TS:=fun D σ H=>D.nx σ H
def Yj (t u:TS):TS:=fun D σ H=>t { D with nx:=u D } σ H
theorem bE:xO X [] R8:=fun _ _ σ H _ I h=>wpAny_execs_nil ⟨σ,H,I,h⟩
theorem ao (h1:PS X st t) (h2:xO X rest u):xO X (st::rest) (Yj t u):=by
 intro pins s σ H D I h
 refine wpAny_execs_cons (cy (h1 pins s σ H { D with nx:=u D } I h) fun f s1 q=>?_)
 cases f with
 | next =>
  obtain ⟨σ',H',I',q⟩:=q
  exact h2 pins s1 σ' H' D I' q
 | ret v=>exact q
 | brk=>exact q
 | cont=>exact q
theorem au (h1:PS X st t):xO X [st] t:=by
 intro pins s σ H D I h
 refine wpAny_execs_cons (cy (h1 pins s σ H D I h) fun f s1 q=>?_)
 cases f with
 | next=>exact wpAny_execs_nil q
 | ret v=>exact q
 | brk=>exact q
 | cont=>exact q
theorem Inv.quiet {pins:List (Addr×Obj)} {σ:St} {H:Hp} {s:Shared} (I:Inv X pins σ H s):interactive X.env=false:=by simp [interactive,I.ok.kind]
def Sj (te:TE):TS:=fun D σ H=>te σ H fun _ H1=>D.nx σ H1
theorem cT (he:PE X e te) (hs:swapsWith e none pos.line X.env=pure false:=by rfl):PS X (.Expr e pos) (Sj te):=by
 intro pins s σ H D I h
 exact wpAny_Expr_any (cy (he pins s σ H _ I h) fun v s1 ⟨x,H1,I1,r1,q1⟩=>⟨σ,H1,I1,q1⟩) I.quiet hs
def Yk (te:TE):TS:=fun D σ H=>te σ H D.rt
theorem aI (he:PE X e te):PS X (.Return (some e) pos) (Yk te):=by
 intro pins s σ H D I h
 exact wpAny_Return_some (cy (he pins s σ H _ I h) fun v s1 ⟨x,H1,I1,r1,q1⟩=>⟨x,σ,H1,I1,r1,q1⟩)
def Yn (c:TT) (t u:TS):TS:=fun D σ H=>c σ H fun b H1=>if b=true then t D σ H1 else u D σ H1
theorem bS {c:Expr} {a b:List Stmt} {tc:TT} (hc:PT X c tc) (ha:xO X a t) (hb:xO X b u):PS X (.If c a b pos) (Yn tc t u):=by
 intro pins s σ H D I h
 refine wpAny_If (cy (hc pins s σ H _ I h) fun d s1 ⟨H1,I1,q1⟩=>?_)
 cases d with
 | true=>exact ha pins s1 σ H1 D I1 q1
 | false=>exact hb pins s1 σ H1 D I1 q1
end
abbrev TG:=V→St→Hp→(St→Hp→Prop)→Prop
abbrev Ol:=List V→St→Hp→(St→Hp→Prop)→Prop
def PG (X:Cx) (target:Expr) (t:TG):Prop :=
 ∀ (pins:List (Addr×Obj)) (s:Shared) (σ:St) (H:Hp) (v:V) (u:Value) (Q:St→Hp→Prop),Inv X pins σ H s→RelV v u→t v σ H Q →
  wpAny (model X.prog X.w) X.A (assign target X.env u) (fun _ s'=>∃ σ' H',Inv X pins σ' H' s'∧Q σ' H') X.xe s
def VI (X:Cx) (ts:List Expr) (t:Ol):Prop :=
 ∀ (pins:List (Addr×Obj)) (s:Shared) (σ:St) (H:Hp) (vs:List V) (us:List Value) (Q:St→Hp→Prop),Inv X pins σ H s→Vals vs us→t vs σ H Q →
  wpAny (model X.prog X.w) X.A (assignInOrder ((assignEach ts X.env).map (·.2)) us) (fun _ s'=>∃ σ' H',Inv X pins σ' H' s'∧Q σ' H') X.xe s
abbrev Ks:=V→V→V→Hp→(Hp→Prop)→Prop
def Q7 (X:Cx) (t:Ks):Prop :=
 ∀ (pins:List (Addr×Obj)) (s:Shared) (σ:St) (H:Hp) (o i v:V) (ov iv u:Value) (Q:Hp→Prop),Inv X pins σ H s→RelV o ov→RelV i iv→RelV v u→t o i v H Q →
  wpAny (model X.prog X.w) X.A (setItem ov iv u) (fun _ s'=>∃ H',Inv X pins σ H' s'∧Q H') X.xe s
abbrev RU:=V→V→Hp→VK→Prop
def PIp (X:Cx) (op:Operator) (t:RU):Prop :=
 ∀ (pins:List (Addr×Obj)) (s:Shared) (σ:St) (H:Hp) (x y:V) (v u:Value) (Q:VK),Inv X pins σ H s→RelV x v→RelV y u→t x y H Q →
  wpAny (model X.prog X.w) X.A (inplaceOp op v u) (EP X pins σ Q) X.xe s
section
variable {X:Cx} {pos:Pos}
def DS (i:Nat):TG:=fun v σ H Q=>Q (σ.set i (some v)) H
theorem aK {i:Nat} {x:Str} (hN:X.N.Nodup) (hi:X.N[i]?=some x) (hx:Loc X.env.scope x) (hf:X.fn x=true∨X.env.scope.names.lookup x=some .local:=by first | exact .inl rfl | exact .inr rfl | assumption):PG X (.Name x pos) (DS i):=by
 intro pins s σ H v u Q I r h
 exact wpAny_assign_Name (tU I hN hi hx r (fun s' I'=>⟨_,H,I',h⟩) hf)
def a5F:Ol:=fun vs σ H Q=>vs=[]∧Q σ H
def TQ (t:TG) (u:Ol):Ol:=fun vs σ H Q=>∃ v r,vs=v::r∧t v σ H fun σ' H'=>u r σ' H' Q
theorem jM:VI X [] a5F:=by
 intro pins s σ H vs us Q I r h
 obtain ⟨e,h⟩:=h
 subst e
 cases r
 exact assignInOrder_nil ⟨σ,H,I,h⟩
theorem cN {e:Expr} {es:List Expr} {t:TG} {u:Ol} (h1:PG X e t) (h2:VI X es u)
  (hs:(assignEach (e::es) X.env).map (·.2)=assign e X.env::(assignEach es X.env).map (·.2):=by rfl):VI X (e::es) (TQ t u):=by
 intro pins s σ H vs us Q I r h
 obtain ⟨v,vr,e1,h⟩:=h
 subst e1
 cases r with
 | cons r rr =>
  rw [hs]
  refine assignInOrder_cons (cy (h1 pins s σ H _ _ _ I r h) fun _ s1 ⟨σ1,H1,I1,q1⟩=>?_)
  exact h2 pins s1 σ1 H1 _ _ Q I1 rr q1
def TN (K:PySem.W.Frag) (n:Nat) (t:Ol):TG:=fun v σ H Q=>∃ a xs,v=.ref a∧aV K H a xs∧xs.length=n∧t xs σ H Q
theorem qK {es:List Expr} {k:Nat} {t:Ol} {n:Nat} (hc:X.calm=true) (h:VI X es t)
  (hn:(assignEach es X.env).length=n:=by rfl) (hst:(assignEach es X.env).findIdx? (·.1)=none:=by rfl):PG X (.Tuple es k pos) (TN X.K n t):=by
 intro pins s σ H v u Q I r hw
 obtain ⟨a,xs,e1,hq,hl,hw⟩:=hw
 subst e1
 cases r
 obtain ⟨its,rv,ht,hz⟩:=I.tuple hq
 refine assign_Tuple_tuple (I.ok.hd hc) ht (by simp [hn,← hl,rv.length]) hst fun h' hx=>?_
 have I1:Inv X pins σ H { s with heap:=h' }:=I.kept (t':=s.toks) fun b o e=>hx b o (Nat.ne_of_lt (Heap.lt_size e)) e
 exact h pins _ σ H xs _ Q I1 (by simpa using rv) hw
def a5E (to ti:TE) (t:Ks):TG:=fun v σ H Q=>to σ H fun o H1=>ti σ H1 fun i H2=>t o i v H2 fun H3=>Q σ H3
theorem Pb {o i:Expr} {to ti:TE} {t:Ks} (ho:PE X o to) (hi:PE X i ti) (hs:Q7 X t)
  (ha:∀ v,assign (.Subscript o i pos) X.env v=(do
   let ov ← holding [v] (eval o X.env)
   let iv ← holding [v,ov] (eval i X.env)
   standAt pos
   holding [v,ov,iv] (setItem ov iv v)
   release [v,ov,iv] []):=by intro _;rfl):PG X (.Subscript o i pos) (a5E to ti t):=by
 intro pins s σ H v u Q I r h
 rw [ha]
 refine wpAny_bind (wpAny_holding (cy (ho pins s σ H _ I h) fun ov s1 ⟨x,H1,I1,r1,q1⟩=>?_))
 refine wpAny_bind (wpAny_holding (cy (hi pins s1 σ H1 _ I1 q1) fun iv s2 ⟨y,H2,I2,r2,q2⟩=>?_))
 refine wpAny_bind (wpAny_standAt (wpAny_bind (wpAny_holding (cy (hs pins s2 σ H2 x y v ov iv u _ I2 r1 r2 r q2) fun _ s3 ⟨H3,I3,q3⟩=>?_))))
 exact wpAny_release ⟨σ,H3,I3,q3⟩
def K4 (te:TE) (g:TG):TS:=fun D σ H=>te σ H fun x H1=>g x σ H1 D.nx
theorem BD {tg e:Expr} {te:TE} {g:TG} (he:PE X e te) (hg:PG X tg g) (hs:swapsWithSole [tg] e pos.line X.env=pure false:=by rfl) (hw:swappedStores [tg] e X.env=pure none:=by rfl)
  (h1:(assignEach [tg] X.env).map (·.2)=[assign tg X.env]:=by rfl):PS X (.Assign [tg] e pos) (K4 te g):=by
 intro pins s σ H D I h
 refine wpAny_Assign_stores (cy (he pins s σ H _ I h) fun v s1 ⟨x,H1,I1,r1,q1⟩=>?_) hs hw
 rw [h1]
 exact cy (hg pins s1 σ H1 x v _ I1 r1 q1) fun _ s2 q=>q
theorem aO {i:Nat} {x:Str} {e:Expr} {te:TE} {pos':Pos} (hN:X.N.Nodup) (hi:X.N[i]?=some x) (hx:Loc X.env.scope x) (he:PE X e te) (hs:swapsWith e (some (.Name x pos')) pos.line X.env=pure false:=by rfl) (hf:X.fn x=true∨X.env.scope.names.lookup x=some .local:=by first | exact .inl rfl | exact .inr rfl | assumption) :
  PS X (.Assign [.Name x pos'] e pos) (K4 te (DS i)):=by
 intro pins s σ H D I h
 refine wpAny_Assign_Name (cy (he pins s σ H _ I h) fun v s1 ⟨y,H1,I1,r1,q1⟩=>?_) hs
 exact tU I1 hN hi hx r1 (fun s2 I2=>⟨_,H1,I2,q1⟩) hf
def Ys (i:Nat) (te:TE) (ti:RU):TS:=fun D σ H=>∃ x,σ[i]?=some (some x)∧te σ H fun y H1=>ti x y H1 fun z H2=>D.nx (σ.set i (some z)) H2
theorem Hr {i:Nat} {x:Str} {e:Expr} {te:TE} {op:Operator} {ti:RU} {pos':Pos} (hN:X.N.Nodup) (hi:X.N[i]?=some x) (hx:Loc X.env.scope x) (he:PE X e te) (ho:PIp X op ti) (hf:X.fn x=true∨X.env.scope.names.lookup x=some .local:=by first | exact .inl rfl | exact .inr rfl | assumption) :
  PS X (.AugAssign (.Name x pos') op e pos) (Ys i te ti):=by
 intro pins s σ H D I h
 obtain ⟨v,e1,h⟩:=h
 obtain ⟨m,hn,hl⟩:=I.loc
 have vis:X7 X.env.scope x:=by rcases hx with k | k;exact .inl k;exact .inr (.inl k)
 obtain ⟨u,r,l⟩:=hl i x v hi e1 vis
 refine wpAny_AugAssign_Name ?_
 have go:wpAny (model X.prog X.w) X.A (eval e X.env) (fun w s₂=>wpAny (model X.prog X.w) X.A (inplaceOp op u w) (fun r s₃=>wpAny (model X.prog X.w) X.A (storeName X.env x r) (fun _=>SP X pins D .next) X.xe s₃) X.xe s₂) X.xe s:=by
  refine cy (he pins s σ H _ I h) fun w s1 ⟨y,H1,I1,r1,q1⟩=>?_
  refine cy (ho pins s1 σ H1 v y u w _ I1 r r1 q1) fun z s2 ⟨zv,H2,I2,r2,q2⟩=>?_
  exact tU I2 hN hi hx r2 (fun s3 I3=>⟨_,H2,I3,q2⟩) hf
 rcases l with ⟨hk,hm⟩ | ⟨hk,c,hc,hcell⟩
 ·exact wpAny_loadName_local I.ok.kind hk hn hm go
 ·rcases hk with hk | hk
  ·exact wpAny_loadName_cell I.ok.kind hk hc hcell go
  ·rcases hx with k | k
   ·have:X.env.scope.names.lookup x=some .free:=hk
    rw [k] at this;cases this
   ·have:X.env.scope.names.lookup x=some .free:=hk
    rw [k] at this;cases this
def So (to ti te:TE) (K1:V→V→Hp→VK→Prop) (VV:RU) (K0:Ks):TS:=fun D σ H=>to σ H fun o H1=>ti σ H1 fun i H2=>K1 o i H2 fun x H3=>te σ H3 fun y H4=>VV x y H4 fun z H5=>K0 o i z H5 fun H6=>D.nx σ H6
def VJ (X:Cx) (t:V→V→Hp→VK→Prop):Prop :=
 ∀ (pins:List (Addr×Obj)) (s:Shared) (σ:St) (H:Hp) (o i:V) (ov iv:Value) (Q:VK),Inv X pins σ H s→RelV o ov→RelV i iv→t o i H Q →
  wpAny (model X.prog X.w) X.A (getItem ov iv) (EP X pins σ Q) X.xe s
theorem Lk {o i e:Expr} {to ti te:TE} {K1:V→V→Hp→VK→Prop} {VV:RU} {K0:Ks} {op:Operator} {tpos:Pos} (ho:PE X o to) (hi:PE X i ti) (hg:VJ X K1) (he:PE X e te) (hp:PIp X op VV) (hs:Q7 X K0)
  (ha:∀ ov iv new,augStore i ov iv new=(do holding [new,ov,iv] (setItem ov iv new);release [new,ov,iv] [];pure .next):=by intros;rfl):PS X (.AugAssign (.Subscript o i tpos) op e pos) (So to ti te K1 VV K0):=by
 intro pins s σ H D I h
 refine wpAny_AugAssign_SubscriptAny (cy (ho pins s σ H _ I h) fun ov s1 ⟨x1,H1,I1,r1,q1⟩=>?_) ha
 refine cy (hi pins s1 σ H1 _ I1 q1) fun iv s2 ⟨x2,H2,I2,r2,q2⟩=>?_
 refine cy (hg pins s2 σ H2 x1 x2 ov iv _ I2 r1 r2 q2) fun old s3 ⟨x3,H3,I3,r3,q3⟩=>?_
 refine cy (he pins s3 σ H3 _ I3 q3) fun v s4 ⟨x4,H4,I4,r4,q4⟩=>?_
 refine cy (hp pins s4 σ H4 x3 x4 old v _ I4 r3 r4 q4) fun new s5 ⟨x5,H5,I5,r5,q5⟩=>?_
 exact cy (hs pins s5 σ H5 x1 x2 x5 ov iv new _ I5 r1 r2 r5 q5) fun _ s6 ⟨H6,I6,q6⟩=>⟨σ,H6,I6,q6⟩
def ipI (f:Int→Int→Int):RU:=fun x y H Q=>∃ i j,x=.int i∧y=.int j∧Q (.int (f i j)) H
theorem BZ:PIp X .Add (ipI fun i j=>i+j):=by
 intro pins s σ H x y v u Q I r1 r2 h
 obtain ⟨i,j,e1,e2,q⟩:=h
 subst e1;subst e2
 obtain ⟨t,rfl⟩:=r1
 obtain ⟨t',rfl⟩:=r2
 exact iadd_int ⟨.int _,H,I.tok _,⟨_,rfl⟩,q⟩
end
section
variable {X:Cx} {pos:Pos}
def GU (c:TT) (tb:TS):TS:=fun D σ H=>∃ W:Nat→St→Hp→Prop,(∃ m,W m σ H)∧∀ m σ H,W m σ H →
 c σ H fun b H1=>if b=true then ∃ N:St→Hp→Prop,(∀ σ' H',N σ' H'→∃ m',m' < m∧W m' σ' H')∧tb { D with nx:=N,ct:=N,bk:=D.nx } σ H1 else D.nx σ H1
theorem Hl {c:Expr} {body:List Stmt} {tc:TT} {tb:TS} (hp:PassesOwn (model X.prog X.w) X.A X.env X.xe) (hc:PT X c tc) (hb:xO X body tb):PS X (.While c body [] pos) (GU tc tb):=by
 intro pins s σ H D I h
 obtain ⟨W,⟨m0,w0⟩,turn⟩:=h
 refine wpAny_While (codeAny_whileLoop (fun n s'=>∃ σ' H',Inv X pins σ' H' s'∧W n σ' H') ?_ m0 ⟨σ,H,I,w0⟩)
 rintro n s1 ⟨σ1,H1,I1,w1⟩
 refine wpAny_passesOwn hp (cy (hc pins s1 σ1 H1 _ I1 (turn n σ1 H1 w1)) fun b s2 ⟨H2,I2,q2⟩=>?_)
 cases b with
 | true =>
  obtain ⟨N,hN,q2⟩:=q2
  rw [if_pos rfl]
  refine wpAny_passesOwn hp (cy (hb pins s2 σ1 H2 _ I2 q2) fun f s3 q3=>?_)
  cases f with
  | next =>
   obtain ⟨σ3,H3,I3,n3⟩:=q3
   obtain ⟨m',hm,w3⟩:=hN σ3 H3 n3
   exact ⟨m',hm,σ3,H3,I3,w3⟩
  | cont =>
   obtain ⟨σ3,H3,I3,n3⟩:=q3
   obtain ⟨m',hm,w3⟩:=hN σ3 H3 n3
   exact ⟨m',hm,σ3,H3,I3,w3⟩
  | brk=>exact q3
  | ret v=>exact q3
 | false =>
  rw [if_neg Bool.false_ne_true]
  exact wpAny_execs_nil ⟨σ1,H2,I2,q2⟩
end
structure It where
 go:Nat→Hp→Prop
 ND:Nat→Hp→V→Hp→Prop
 stop:Nat→Hp→Prop
def iL (X:Cx) (pins:List (Addr×Obj)) (H:Hp) (b:Addr):Prop :=
 H b=none∧b≠X.env.locals∧b ∉ X.fs∧(b∈X.ex∨X.s₀.heap.objs.size≤b)∧(∀ x c,X.env.cells.lookup x=some c→c≠b)∧∀ p∈X.pn++pins,p.1≠b
theorem Inv.AF {X:Cx} {pins:List (Addr×Obj)} {σ:St} {H H':Hp} {s:Shared} {b:Addr} (I:Inv X pins σ H s) (hb:s.heap.objs.size≤b) (hn:H' b=none):iL X pins H' b:=by
 refine ⟨hn,Nat.ne_of_gt (Nat.lt_of_lt_of_le I.lt hb),I.Pq hb,.inr (Nat.le_trans I.sz hb),fun x c e z=>?_,fun p hp z=>?_⟩
 ·obtain ⟨v,q⟩:=I.cell x c e
  exact absurd (Nat.lt_of_lt_of_le q.lt (by rw [z];exact hb)) (Nat.lt_irrefl _)
 ·exact absurd (Nat.lt_of_lt_of_le (Heap.lt_size (I.pin p hp).1) (by rw [z];exact hb)) (Nat.lt_irrefl _)
structure Turn (P:Program) (w:World) (K:PySem.W.Frag) (tg:Expr) (J:It) (fp:List Addr) (it:Addr) (tn:Nat→Heap→Prop):Prop where
 mem:it∈fp
 obj:∀ i h,tn i h→∀ b∈fp,∃ o,h.get? b=some o∧∀ v,o.data≠.cell v
 keep:∀ i h h',tn i h→(∀ b∈fp,∀ o,h.get? b=some o→h'.get? b=some o)→tn i h'
 item:∀ (X:Cx),X.prog=P→X.w=w→X.K=K→X.calm=true→∀ (i:Nat) (pins:List (Addr×Obj)) (s:Shared) (σ:St) (H:Hp) (E:Value→Shared→Prop),Inv X pins σ H s→(∀ b∈fp,iL X pins H b)→tn i s.heap→J.go i H →
  wpAny (model P w) X.A (pyNext (.ref it)) (fun r s1=>∃ u,r=some u ∧
   wpAny (model P w) X.A (letOwnedTupleGo tg (.ref it) u) (fun _ s2=>∃ x H',Inv X pins σ H' s2∧RelV x u∧J.ND i H x H'∧tn (i+1) s2.heap∧∀ b∈fp,H' b=none) E s1) E s
 done:∀ (X:Cx),X.prog=P→X.w=w→X.K=K→X.calm=true→∀ (i:Nat) (pins:List (Addr×Obj)) (s:Shared) (σ:St) (H:Hp) (E:Value→Shared→Prop),Inv X pins σ H s→(∀ b∈fp,iL X pins H b)→tn i s.heap→J.stop i H →
  wpAny (model P w) X.A (pyNext (.ref it)) (fun r s1=>r=none∧Inv X pins σ H s1) E s
 self:∀ (A:Around) (i:Nat) (s:Shared) (Q:Value→Shared→Prop) (E:Value→Shared→Prop),tn i s.heap→Q (.ref it) s→wpAny (model P w) A (pyIter (.ref it)) Q E s
abbrev TI:=St→Hp→(It→Hp→Prop)→Prop
def PIE (X:Cx) (pins:List (Addr×Obj)) (σ:St) (tg:Expr) (R:It→Hp→Prop) (itv:Value) (s2:Shared):Prop :=
 ∃ (it:Addr) (fp:List Addr) (tn:Nat→Heap→Prop) (J:It) (H':Hp),itv=.ref it∧Inv X pins σ H' s2∧Turn X.prog X.w X.K tg J fp it tn∧tn 0 s2.heap∧(∀ b∈fp,iL X pins H' b)∧R J H'
def PI (X:Cx) (tg iter:Expr) (wi:TI):Prop :=
 ∀ (pins:List (Addr×Obj)) (s:Shared) (σ:St) (H:Hp) (R:It→Hp→Prop),Inv X pins σ H s→wi σ H R →
  wpAny (model X.prog X.w) X.A (eval iter X.env) (fun v s1=>wpAny (model X.prog X.w) X.A (pyIter v) (PIE X pins σ tg R) X.xe s1) X.xe s
theorem AB {M:Model} {A:Around} {E:Value→Shared→Prop} {s:Shared} {tg:Expr} {it:Addr} {u:Value} {o:Obj} {n:String} {vs:Array Value} {Q:Unit→Shared→Prop} (ho:s.heap.get? it=some o) (hc:o.cls=.type n) (hd:o.data=.fields vs)
  (hn:["enumerate","zip","dict_itemiterator","dict_reverseitemiterator","odict_iterator","itertools.zip_longest","itertools.pairwise"].contains n=false) (hQ:Q () s):wpAny M A (letOwnedTupleGo tg (.ref it) u) Q E s:=by
 unfold letOwnedTupleGo
 cases tg <;> first
  | exact wpAny_pure hQ
  | (cases u <;> first
    | exact wpAny_pure hQ
    | (
      refine wpAny_bind (wpAny_load ho ?_)
      rw [hc,hd]
      show wpAny M A (if (["enumerate","zip","dict_itemiterator","dict_reverseitemiterator","odict_iterator","itertools.zip_longest","itertools.pairwise"].contains n && vs[0]? == some (rawInt _))=true then _ else _) Q E s
      rw [if_neg (by intro h;rw [hn,Bool.false_and] at h;cases h)]
      exact wpAny_pure hQ))
def KU (K:PySem.W.Frag) (a:Addr):It :=
 ⟨fun i H=>∃ xs x,bx K H a xs∧xs[i]?=some x,fun i H x H'=>H'=H∧∀ xs,bx K H a xs→xs[i]?=some x,fun i H=>∃ xs,bx K H a xs∧xs.length≤i⟩
def FH (K:PySem.W.Frag) (a:Addr):It :=
 ⟨fun i H=>∃ xs x,aV K H a xs∧xs[i]?=some x,fun i H x H'=>H'=H∧∀ xs,aV K H a xs→xs[i]?=some x,fun i H=>∃ xs,aV K H a xs∧xs.length≤i⟩
def Ra (lo:Int) (n:Nat):It:=⟨fun i _=>i < n,fun i H x H'=>H'=H∧x=.int (lo+i),fun i _=>n≤i⟩
theorem wM {P:Program} {w:World} {K:PySem.W.Frag} {tg:Expr} (a it:Addr):Turn P w K tg (KU K a) [it] it (fun i h=>h.IsListIter it a i) where
 mem:=by simp
 obj:=fun i h st b hb=>by
  have e:b=it:=by simpa using hb
  subst e
  obtain ⟨o,e,c,d⟩:=st
  exact ⟨o,e,fun v z=>by rw [d] at z;cases z⟩
 keep:=fun i h h' st k=>st.at fun o e=>k it (by simp) o e
 item:=by
  intro X hP hw hK hc i pins s σ H E I hf st hg
  subst hP hw hK
  obtain ⟨xs,x,hq,hx⟩:=hg
  obtain ⟨its,rv,p,hz⟩:=I.list hq
  obtain ⟨u,hu,ru⟩:=rv.get hx
  obtain ⟨f0,f1,f2,f3,f4,f5⟩:=hf it (by simp)
  refine wpAny_pyNext_list_item st p.isList (x:=u) (by simpa using hu) fun h' st' sb=>?_
  have I1:Inv X pins σ H { s with heap:=h' }:=I.turned (t':=s.toks) (fun b o hb e=>(sb.2 b hb).trans e) f0 f1 f3 f4 f5
  obtain ⟨o,e,c,d⟩:=id st'
  exact ⟨u,rfl,AB (s:={ s with heap:=h' }) e c d (by decide) ⟨x,H,I1,ru,⟨rfl,fun ys hy=>by rw [I.Ao hy hq];exact hx⟩,st',fun b hb=>(hf b hb).1⟩⟩
 done:=by
  intro X hP hw hK hc i pins s σ H E I hf st hg
  subst hP hw hK
  obtain ⟨xs,hq,hx⟩:=hg
  obtain ⟨its,rv,p,hz⟩:=I.list hq
  obtain ⟨f0,f1,f2,f3,f4,f5⟩:=hf it (by simp)
  have hl:=rv.length
  exact wpAny_pyNext_list_end (I.ok.hd hc) st p.isList (by simp;omega) fun h' eb=>⟨rfl,I.turned (t':=s.toks) (fun b o hb e=>eb b o hb e) f0 f1 f3 f4 f5⟩
 self:=fun _ _ _ _ _ st h=>wpAny_pyIter_listiter st h
theorem tO {P:Program} {w:World} {K:PySem.W.Frag} {tg:Expr} (a it:Addr):Turn P w K tg (FH K a) [it] it (fun i h=>h.IsTupleIter it a i) where
 mem:=by simp
 obj:=fun i h st b hb=>by
  have e:b=it:=by simpa using hb
  subst e
  obtain ⟨o,e,c,d⟩:=st
  exact ⟨o,e,fun v z=>by rw [d] at z;cases z⟩
 keep:=fun i h h' st k=>st.at fun o e=>k it (by simp) o e
 item:=by
  intro X hP hw hK hc i pins s σ H E I hf st hg
  subst hP hw hK
  obtain ⟨xs,x,hq,hx⟩:=hg
  obtain ⟨its,rv,p,hz⟩:=I.tuple hq
  obtain ⟨u,hu,ru⟩:=rv.get hx
  obtain ⟨f0,f1,f2,f3,f4,f5⟩:=hf it (by simp)
  refine wpAny_pyNext_tuple_item st (show s.heap.IsTuple a its.toArray from p) (x:=u) (by simpa using hu) fun h' st' sb=>?_
  have I1:Inv X pins σ H { s with heap:=h' }:=I.turned (t':=s.toks) (fun b o hb e=>(sb.2 b hb).trans e) f0 f1 f3 f4 f5
  obtain ⟨o,e,c,d⟩:=id st'
  exact ⟨u,rfl,AB (s:={ s with heap:=h' }) e c d (by decide) ⟨x,H,I1,ru,⟨rfl,fun ys hy=>by rw [I.wN hy hq];exact hx⟩,st',fun b hb=>(hf b hb).1⟩⟩
 done:=by
  intro X hP hw hK hc i pins s σ H E I hf st hg
  subst hP hw hK
  obtain ⟨xs,hq,hx⟩:=hg
  obtain ⟨its,rv,p,hz⟩:=I.tuple hq
  obtain ⟨f0,f1,f2,f3,f4,f5⟩:=hf it (by simp)
  have hl:=rv.length
  exact wpAny_pyNext_tuple_end (I.ok.hd hc) st (show s.heap.IsTuple a its.toArray from p) (by simp;omega) fun h' eb=>⟨rfl,I.turned (t':=s.toks) (fun b o hb e=>eb b o hb e) f0 f1 f3 f4 f5⟩
 self:=fun _ _ _ _ _ st h=>wpAny_pyIter_tupleiter st h
theorem Br {P:Program} {w:World} {K:PySem.W.Frag} {tg:Expr} (it:Addr) (lo:Int) (n:Nat):Turn P w K tg (Ra lo n) [it] it (fun i h=>IsRangeIter h it (lo+(i:Nat)*1) ((n:Int) - (i:Nat)) 1) where
 mem:=by simp
 obj:=fun i h st b hb=>by
  have e:b=it:=by simpa using hb
  subst e
  exact ⟨_,st,fun v z=>by
   have z':Data.fields _=Data.cell v:=z
   cases z'⟩
 keep:=fun i h h' st k=>k it (by simp) _ st
 item:=by
  intro X hP hw hK hc i pins s σ H E I hf st hg
  subst hP hw hK
  obtain ⟨f0,f1,f2,f3,f4,f5⟩:=hf it (by simp)
  have W:=Walks.range (prog:=X.prog) (w:=X.w) (I.ok.hd hc) it lo 1 n
  refine W.item i s _ _ hg st fun v h' tk hv st' kk=>?_
  obtain ⟨t,rfl⟩:=hv
  have I1:Inv X pins σ H { s with heap:=h',toks:=tk }:=I.turned (fun b o hb e=>kk b o (by simpa using hb) e) f0 f1 f3 f4 f5
  refine ⟨_,rfl,AB (s:={ s with heap:=h',toks:=tk }) (n:="range_iterator") st' rfl rfl (by decide) ⟨.int (lo+i),H,I1,⟨t,?_⟩,⟨rfl,rfl⟩,st',fun b hb=>(hf b hb).1⟩⟩
  rw [Int.mul_one]
 done:=by
  intro X hP hw hK hc i pins s σ H E I hf st hg
  subst hP hw hK
  obtain ⟨f0,f1,f2,f3,f4,f5⟩:=hf it (by simp)
  exact wpAny_pyNext_range_end (I.ok.hd hc) st (by have:n≤i:=hg;omega) fun h' eb=>⟨rfl,I.turned (t':=s.toks) (fun b o hb e=>eb b o hb e) f0 f1 f3 f4 f5⟩
 self:=fun _ _ _ _ _ st h=>wpAny_pyIter_rangeiter st h
end L2
namespace L2
open PySem PySem.Spec PyProof.Rows
section
variable {X:Cx} {tg:Expr}
def N1 (K:PySem.W.Frag) (tl:TE):TI:=fun σ H R=>tl σ H fun x H1=>∃ a,x=.ref a∧(∃ xs,bx K H1 a xs)∧R (KU K a) H1
def P0 (K:PySem.W.Frag) (tl:TE):TI:=fun σ H R=>tl σ H fun x H1=>∃ a,x=.ref a∧(∃ xs,aV K H1 a xs)∧R (FH K a) H1
theorem eZ {l:Expr} {tl:TE} (hl:PE X l tl):PI X tg l (N1 X.K tl):=by
 intro pins s σ H R I h
 refine cy (hl pins s σ H _ I h) fun v s1 ⟨x,H1,I1,r1,q1⟩=>?_
 obtain ⟨a,e,⟨xs,hq⟩,q⟩:=q1
 subst e
 cases r1
 obtain ⟨its,rv,p,hz⟩:=I1.list hq
 refine wpAny_pyIter_list p.isList ?_
 refine ⟨s1.heap.objs.size,[s1.heap.objs.size],_,_,H1,rfl,I1.kept (t':=s1.toks) fun b o e=>Heap.get?_push_of_some _ e,wM a _,⟨_,Heap.get?_push_size _ rfl,rfl,rfl⟩,fun b hb=>?_,q⟩
 have e:b=s1.heap.objs.size:=by simpa using hb
 subst e
 exact I1.AF (Nat.le_refl _) (I1.hok.fresh (Nat.le_refl _))
theorem cZ {l:Expr} {tl:TE} (hl:PE X l tl):PI X tg l (P0 X.K tl):=by
 intro pins s σ H R I h
 refine cy (hl pins s σ H _ I h) fun v s1 ⟨x,H1,I1,r1,q1⟩=>?_
 obtain ⟨a,e,⟨xs,hq⟩,q⟩:=q1
 subst e
 cases r1
 obtain ⟨its,rv,p,hz⟩:=I1.tuple hq
 refine wpAny_pyIter_tuple (show s1.heap.IsTuple a its.toArray from p) ?_
 refine ⟨s1.heap.objs.size,[s1.heap.objs.size],_,_,H1,rfl,I1.kept (t':=s1.toks) fun b o e=>Heap.get?_push_of_some _ e,tO a _,⟨_,Heap.get?_push_size _ rfl,rfl,rfl⟩,fun b hb=>?_,q⟩
 have e:b=s1.heap.objs.size:=by simpa using hb
 subst e
 exact I1.AF (Nat.le_refl _) (I1.hok.fresh (Nat.le_refl _))
theorem G9 {pins:List (Addr×Obj)} {σ:St} {H:Hp} {s:Shared} {R:It→Hp→Prop} {E:Value→Shared→Prop} {lo hi:Int} {t u v:Tok} {tk:Nat} (I:Inv X pins σ H s) (h1:-(2 ^ 62)≤lo) (h2:lo < 2 ^ 62) (h3:-(2 ^ 62)≤hi) (h4:hi < 2 ^ 62)
  (q:R (Ra lo (hi - lo).toNat) H):wpAny (model X.prog X.w) X.A (pyIter (.ref s.heap.objs.size)) (PIE X pins σ tg R) E { s with heap:=s.heap.push { cls:=.type "range",data:=.fields #[.int lo t,.int hi u,.int 1 v] },toks:=tk }:=by
 refine wpAny_pyIter_range (IsRange.new ..) (small_one h1 h2 h3 h4) ?_
 have I1:Inv X pins σ H { s with heap:=s.heap.push { cls:=.type "range",data:=.fields #[.int lo t,.int hi u,.int 1 v] },toks:=tk }:=I.kept fun b o e=>Heap.get?_push_of_some _ e
 refine ⟨(s.heap.push { cls:=.type "range",data:=.fields #[.int lo t,.int hi u,.int 1 v] }).objs.size,[(s.heap.push { cls:=.type "range",data:=.fields #[.int lo t,.int hi u,.int 1 v] }).objs.size],_,_,H,rfl,
  I1.kept (t':=tk) fun b o e=>Heap.get?_push_of_some _ e,Br _ lo (hi - lo).toNat,?_,fun b hb=>?_,q⟩
 ·have e1:lo+((0:Nat):Int)*1=lo:=by simp
  have e2:(((hi - lo).toNat:Nat):Int) - ((0:Nat):Int)=Builtin.Range.rangeSize lo hi 1:=by rw [rangeSize_one];split <;> omega
  show IsRangeIter _ _ (lo+((0:Nat):Int)*1) ((((hi - lo).toNat:Nat):Int) - ((0:Nat):Int)) 1
  rw [e1,e2]
  exact Heap.get?_push_size _ rfl
 ·have e:b=(s.heap.push { cls:=.type "range",data:=.fields #[.int lo t,.int hi u,.int 1 v] }).objs.size:=by simpa using hb
  subst e
  exact I1.AF (Nat.le_refl _) (I1.hok.fresh (Nat.le_refl _))
def To (ta:TA):TI:=fun σ H R=>ta σ H fun vs H1=>∃ j:Int,vs=[.int j]∧-(2 ^ 62)≤j∧j < 2 ^ 62∧R (Ra 0 j.toNat) H1
theorem eO {a:Expr} {ta:TA} {p pos:Pos} (hg:Gl X "range") (hm:X.mg "range"=none) (ha:PA X [a] ta) (hs:starEach [a] X.env=[(false,eval a X.env)]:=by rfl):PI X tg (.Call (.Name "range" p) [a] [] pos) (To ta):=by
 intro pins s σ H R I h
 refine Call_ (u7 I hg hm boot_range (PyProof.Rows.callWith_type1 (cy (ha pos pins s σ H _ I h) fun us s1 ⟨vs,H1,I1,r1,q1⟩=>?_) hs rfl))
 obtain ⟨j,e,q1,q2,q⟩:=q1
 subst e
 cases r1 with
 | cons r rr =>
  cases rr
  obtain ⟨t,rfl⟩:=r
  exact call_range_1 (G9 I1 (by omega) (by omega) q1 q2 (by simpa using q))
def Sh (wi:TI) (g:TG) (tb:TS):TS:=fun D σ H=>wi σ H fun J H1=>∃ W:Nat→Nat→St→Hp→Prop,(∃ m,W 0 m σ H1)∧∀ i m σ H,W i m σ H →
 (J.stop i H∧D.nx σ H)∨(J.go i H∧∃ N:St→Hp→Prop,(∀ σ' H',N σ' H'→∃ m',m' < m∧W (i+1) m' σ' H')∧∀ x H',J.ND i H x H'→g x σ H' fun σ2 H2=>tb { D with nx:=N,ct:=N,bk:=D.nx } σ2 H2)
def nS (fp:List Addr) (h:Heap):List (Addr×Obj):=fp.filterMap fun b=>(h.get? b).map fun o=>(b,o)
theorem d8 {fp:List Addr} {h:Heap} {b:Addr} {o:Obj} (hb:b∈fp) (e:h.get? b=some o):(b,o)∈nS fp h:=List.mem_filterMap.mpr ⟨b,hb,by rw [e];rfl⟩
theorem EC {fp:List Addr} {h:Heap} {p:Addr×Obj} (hp:p∈nS fp h):p.1∈fp∧h.get? p.1=some p.2:=by
 obtain ⟨b,hb,e⟩:=List.mem_filterMap.mp hp
 cases q:h.get? b with
 | none=>rw [q] at e;cases e
 | some o =>
  rw [q] at e
  have e':(b,o)=p:=Option.some.inj e
  subst e'
  exact ⟨hb,q⟩
theorem Inv.pinned {pins:List (Addr×Obj)} {σ:St} {H:Hp} {s:Shared} {fp:List Addr} (I:Inv X pins σ H s) (hf:∀ b∈fp,iL X pins H b) (ho:∀ b∈fp,∃ o,s.heap.get? b=some o∧∀ v,o.data≠.cell v):Inv X (pins++nS fp s.heap) σ H s :=
 I.oX fun p hp=>(List.mem_append.mp hp).elim (fun z=>I.pin p (List.mem_append_right _ z)) fun z=>by
  obtain ⟨hb,e⟩:=EC z
  obtain ⟨f0,f1,f2,_⟩:=hf p.1 hb
  obtain ⟨o,e',d⟩:=ho p.1 hb
  rw [e] at e';cases e'
  exact ⟨e,f0,f1,f2,d⟩
theorem Inv.gD {pins pl:List (Addr×Obj)} {σ:St} {H:Hp} {s:Shared} (I:Inv X (pins++pl) σ H s):Inv X pins σ H s:=I.oX fun p hp=>I.pin p (List.mem_append_right _ (List.mem_append_left _ hp))
theorem dP {iter:Expr} {body:List Stmt} {wi:TI} {g:TG} {tb:TS} {pos:Pos} (hp:PassesOwn (model X.prog X.w) X.A X.env X.xe) (hc:X.calm=true) (hi:PI X tg iter wi) (hg:PG X tg g) (hb:xO X body tb)
  (hs:∀ x,foldedSetIterable iter X.env x=pure x:=by intro _;rfl):PS X (.For tg iter body [] pos) (Sh wi g tb):=by
 intro pins s σ H D I h
 refine wpAny_For (cy (hi pins s σ H _ I h) fun v s1 h1=>cy h1 fun itv s2 h2=>?_) hs
 obtain ⟨it,fp,tn,J,H2,e,I2,T,st2,f2,W,⟨m0,w0⟩,turn⟩:=h2
 subst e
 have Bu:∀ {H':Hp},(∀ b∈fp,H' b=none)→∀ b∈fp,iL X pins H' b:=fun hn b hb=>⟨hn b hb,(f2 b hb).2⟩
 refine codeAny_forLoop_any (fun n s'=>∃ i σ' H',Inv X pins σ' H' s'∧tn i s'.heap∧(∀ b∈fp,H' b=none)∧W i n σ' H') ?_ m0 ⟨0,σ,H2,I2,st2,fun b hb=>(f2 b hb).1,w0⟩
 rintro n s3 ⟨i,σ3,H3,I3,st3,TU,w3⟩
 rcases turn i n σ3 H3 w3 with ⟨stop,qn⟩ | ⟨go,N,hN,step⟩
 ·refine wpAny_passesOwn hp (cy (T.done X rfl rfl rfl hc i pins s3 σ3 H3 X.xe I3 (Bu TU) st3 stop) fun r s4 ⟨hr,I4⟩=>?_)
  subst hr
  exact wpAny_execs_nil ⟨σ3,H3,I4,qn⟩
 ·refine wpAny_passesOwn hp (cy (T.item X rfl rfl rfl hc i pins s3 σ3 H3 X.xe I3 (Bu TU) st3 go) fun r s4 ⟨u,hr,h4⟩=>?_)
  subst hr
  refine wpAny_passesOwn hp (cy h4 fun _ s5 ⟨x,H5,I5,r5,y5,OS,Qk⟩=>?_)
  have I5':=I5.pinned (Bu Qk) (T.obj _ _ OS)
  refine wpAny_passesOwn hp (cy (hg _ s5 σ3 H5 x u _ I5' r5 (step x H5 y5)) fun _ s6 ⟨σ6,H6,I6,q6⟩=>?_)
  refine wpAny_passesOwn hp (cy (hb _ s6 σ6 H6 _ I6 q6) fun f s7 q7=>?_)
  have again:∀ {σ7:St} {H7:Hp},Inv X (pins++nS fp s5.heap) σ7 H7 s7→N σ7 H7→∃ m,m < n∧∃ i σ' H',Inv X pins σ' H' s7∧tn i s7.heap∧(∀ b∈fp,H' b=none)∧W i m σ' H':=fun {σ7 H7} I7 n7=>by
   obtain ⟨m',hm,w7⟩:=hN σ7 H7 n7
   refine ⟨m',hm,i+1,σ7,H7,I7.gD,T.keep _ _ _ OS fun b hb o e=>(I7.pin (b,o) (List.mem_append_right _ (List.mem_append_right _ (d8 hb e)))).1,fun b hb=>?_,w7⟩
   obtain ⟨o,e,d⟩:=T.obj _ _ OS b hb
   exact (I7.pin (b,o) (List.mem_append_right _ (List.mem_append_right _ (d8 hb e)))).2.1
  cases f with
  | next=>obtain ⟨σ7,H7,I7,n7⟩:=q7;exact again I7 n7
  | cont=>obtain ⟨σ7,H7,I7,n7⟩:=q7;exact again I7 n7
  | brk=>obtain ⟨σ7,H7,I7,q7⟩:=q7;exact ⟨σ7,H7,I7.gD,q7⟩
  | ret v=>obtain ⟨x7,σ7,H7,I7,r7,q7⟩:=q7;exact ⟨x7,σ7,H7,I7.gD,r7,q7⟩
end
theorem fS {K:PySem.W.Frag} {a:Addr} {xs:List V} {g:TG} {tb:TS} {D:Ends} {σ:St} {H:Hp} (Pv:Nat→St→Hp→Prop) (h0:Pv 0 σ H) (hl:∀ i σ H,i≤xs.length→Pv i σ H→bx K H a xs)
  (hs:∀ i x σ H,xs[i]?=some x→Pv i σ H→g x σ H fun σ2 H2=>tb { D with nx:=Pv (i+1),ct:=Pv (i+1),bk:=D.nx } σ2 H2) (hd:∀ σ H,Pv xs.length σ H→D.nx σ H) :
  ∃ W:Nat→Nat→St→Hp→Prop,(∃ m,W 0 m σ H)∧∀ i m σ H,W i m σ H →
   ((KU K a).stop i H∧D.nx σ H)∨((KU K a).go i H∧∃ N:St→Hp→Prop,(∀ σ' H',N σ' H'→∃ m',m' < m∧W (i+1) m' σ' H')∧∀ x H',(KU K a).ND i H x H'→g x σ H' fun σ2 H2=>tb { D with nx:=N,ct:=N,bk:=D.nx } σ2 H2):=by
 refine ⟨fun i m σ H=>m=xs.length - i∧i≤xs.length∧Pv i σ H,⟨xs.length,by simp,Nat.zero_le _,h0⟩,?_⟩
 rintro i m σ H ⟨rfl,hi,p⟩
 have q:=hl i σ H hi p
 by_cases hlt:i < xs.length
 ·refine .inr ⟨⟨xs,xs[i],q,by simp [hlt]⟩,Pv (i+1),fun σ' H' p'=>⟨xs.length - (i+1),by omega,rfl,hlt,p'⟩,fun x H' y=>?_⟩
  obtain ⟨e,y⟩:=y
  subst e
  exact hs i x σ _ (y xs q) p
 ·have e:i=xs.length:=by omega
  subst e
  exact .inl ⟨⟨xs,q,Nat.le_refl _⟩,hd σ H p⟩
theorem pY {K:PySem.W.Frag} {a:Addr} {xs:List V} {g:TG} {tb:TS} {D:Ends} {σ:St} {H:Hp} (Pv:Nat→St→Hp→Prop) (h0:Pv 0 σ H) (hl:∀ i σ H,i≤xs.length→Pv i σ H→aV K H a xs)
  (hs:∀ i x σ H,xs[i]?=some x→Pv i σ H→g x σ H fun σ2 H2=>tb { D with nx:=Pv (i+1),ct:=Pv (i+1),bk:=D.nx } σ2 H2) (hd:∀ σ H,Pv xs.length σ H→D.nx σ H) :
  ∃ W:Nat→Nat→St→Hp→Prop,(∃ m,W 0 m σ H)∧∀ i m σ H,W i m σ H →
   ((FH K a).stop i H∧D.nx σ H)∨((FH K a).go i H∧∃ N:St→Hp→Prop,(∀ σ' H',N σ' H'→∃ m',m' < m∧W (i+1) m' σ' H')∧∀ x H',(FH K a).ND i H x H'→g x σ H' fun σ2 H2=>tb { D with nx:=N,ct:=N,bk:=D.nx } σ2 H2):=by
 refine ⟨fun i m σ H=>m=xs.length - i∧i≤xs.length∧Pv i σ H,⟨xs.length,by simp,Nat.zero_le _,h0⟩,?_⟩
 rintro i m σ H ⟨rfl,hi,p⟩
 have q:=hl i σ H hi p
 by_cases hlt:i < xs.length
 ·refine .inr ⟨⟨xs,xs[i],q,by simp [hlt]⟩,Pv (i+1),fun σ' H' p'=>⟨xs.length - (i+1),by omega,rfl,hlt,p'⟩,fun x H' y=>?_⟩
  obtain ⟨e,y⟩:=y
  subst e
  exact hs i x σ _ (y xs q) p
 ·have e:i=xs.length:=by omega
  subst e
  exact .inl ⟨⟨xs,q,Nat.le_refl _⟩,hd σ H p⟩
theorem g9 {lo:Int} {n:Nat} {g:TG} {tb:TS} {D:Ends} {σ:St} {H:Hp} (Pv:Nat→St→Hp→Prop) (h0:Pv 0 σ H)
  (hs:∀ i σ H,i < n→Pv i σ H→g (.int (lo+i)) σ H fun σ2 H2=>tb { D with nx:=Pv (i+1),ct:=Pv (i+1),bk:=D.nx } σ2 H2) (hd:∀ σ H,Pv n σ H→D.nx σ H) :
  ∃ W:Nat→Nat→St→Hp→Prop,(∃ m,W 0 m σ H)∧∀ i m σ H,W i m σ H →
   ((Ra lo n).stop i H∧D.nx σ H)∨((Ra lo n).go i H∧∃ N:St→Hp→Prop,(∀ σ' H',N σ' H'→∃ m',m' < m∧W (i+1) m' σ' H')∧∀ x H',(Ra lo n).ND i H x H'→g x σ H' fun σ2 H2=>tb { D with nx:=N,ct:=N,bk:=D.nx } σ2 H2):=by
 refine ⟨fun i m σ H=>m=n - i∧i≤n∧Pv i σ H,⟨n,by simp,Nat.zero_le _,h0⟩,?_⟩
 rintro i m σ H ⟨rfl,hi,p⟩
 by_cases hlt:i < n
 ·refine .inr ⟨hlt,Pv (i+1),fun σ' H' p'=>⟨n - (i+1),by omega,rfl,hlt,p'⟩,fun x H' y=>?_⟩
  obtain ⟨e,y⟩:=y
  subst e y
  exact hs i σ _ hlt p
 ·have e:i=n:=by omega
  subst e
  exact .inl ⟨Nat.le_refl _,hd σ H p⟩
theorem tN {c:TT} {tb:TS} {D:Ends} {σ:St} {H:Hp} (Pv:St→Hp→Prop) (μ:St→Hp→Nat) (h0:Pv σ H)
  (hs:∀ σ H,Pv σ H→c σ H fun b H1=>if b=true then tb { D with nx:=fun σ' H'=>Pv σ' H'∧μ σ' H' < μ σ H,ct:=fun σ' H'=>Pv σ' H'∧μ σ' H' < μ σ H,bk:=D.nx } σ H1 else D.nx σ H1)
  (mono:∀ σ H Q Q',(∀ b H1,Q b H1→Q' b H1)→c σ H Q→c σ H Q'):GU c tb D σ H:=by
 refine ⟨fun m σ H=>m=μ σ H∧Pv σ H,⟨_,rfl,h0⟩,?_⟩
 rintro m σ H ⟨rfl,p⟩
 refine mono σ H _ _ (fun b H1 q=>?_) (hs σ H p)
 cases b with
 | true=>exact ⟨_,fun σ' H' ⟨p',l⟩=>⟨_,l,rfl,p'⟩,q⟩
 | false=>exact q
end L2
namespace L2
open PySem PySem.Spec PyProof.Rows
abbrev R2:=V→V→Hp→VK→Prop
def oB (X:Cx) (f:Value→Value→Sem Value) (r:R2):Prop :=
 ∀ (pins:List (Addr×Obj)) (s:Shared) (σ:St) (H:Hp) (x y:V) (v u:Value) (Q:VK),Inv X pins σ H s→RelV x v→RelV y u→r x y H Q →
  wpAny (model X.prog X.w) X.A (f v u) (EP X pins σ Q) X.xe s
def UnR (X:Cx) (f:Value→Sem Value) (r:V→Hp→VK→Prop):Prop :=
 ∀ (pins:List (Addr×Obj)) (s:Shared) (σ:St) (H:Hp) (x:V) (v:Value) (Q:VK),Inv X pins σ H s→RelV x v→r x H Q →
  wpAny (model X.prog X.w) X.A (f v) (EP X pins σ Q) X.xe s
def iI (X:Cx) (f:Value) (r:List V→Hp→VK→Prop):Prop :=
 ∀ (pins:List (Addr×Obj)) (s:Shared) (σ:St) (H:Hp) (xs:List V) (us:List Value) (Q:VK),Inv X pins σ H s→Vals xs us→r xs H Q →
  wpAny (model X.prog X.w) X.A (call f us) (EP X pins σ Q) X.xe s
def R6 (r:R2) (ta tb:TE):TE:=fun σ H Q=>ta σ H fun x H1=>tb σ H1 fun y H2=>r x y H2 Q
def tUn (r:V→Hp→VK→Prop) (ta:TE):TE:=fun σ H Q=>ta σ H fun x H1=>r x H1 Q
def rI (C:Int→Int→Prop) (g:Int→Int→V):R2:=fun x y H Q=>∃ i j,x=.int i∧y=.int j∧C i j∧Q (g i j) H
def Ru (g:Int→Int→V):R2:=fun x y H Q=>∃ i j,x=.int i∧y=.int j∧Q (g i j) H
def rU (g:Int→V):V→Hp→VK→Prop:=fun x H Q=>∃ i,x=.int i∧Q (g i) H
section
variable {X:Cx} {a b c:Expr} {ta tb tc:TE} {pos:Pos}
theorem QY (ha:PE X a ta) (hb:PE X b tb) {pins:List (Addr×Obj)} {s:Shared} {σ:St} {H:Hp} {R:V→V→Hp→Prop} (I:Inv X pins σ H s)
  (h:ta σ H fun x H1=>tb σ H1 fun y H2=>R x y H2) {Q:Value→Shared→Prop} {f:Value→Value→Sem Value}
  (hf:∀ v u s2 x y H2,Inv X pins σ H2 s2→RelV x v→RelV y u→R x y H2→wpAny (model X.prog X.w) X.A (f v u) Q X.xe s2) :
  wpAny (model X.prog X.w) X.A (eval a X.env) (fun v s₁=>wpAny (model X.prog X.w) X.A (eval b X.env) (fun u s₂=>wpAny (model X.prog X.w) X.A (f v u) Q X.xe s₂) X.xe s₁) X.xe s:=by
 refine cy (ha pins s σ H _ I h) fun v s1 ⟨x,H1,I1,r1,q1⟩=>?_
 refine cy (hb pins s1 σ H1 _ I1 q1) fun u s2 ⟨y,H2,I2,r2,q2⟩=>?_
 exact hf v u s2 x y H2 I2 r1 r2 q2
theorem bg {op:Operator} {r:R2} (ho:oB X (binaryOp op) r) (ha:PE X a ta) (hb:PE X b tb):PE X (.BinOp a op b pos) (R6 r ta tb):=by
 intro pins s σ H Q I h
 exact wpAny_BinOp (QY ha hb I h fun v u s2 x y H2 I2 rx ry q=>ho pins s2 σ H2 x y v u Q I2 rx ry q)
theorem uD {op:UnaryOp} {r:V→Hp→VK→Prop} (ho:UnR X (unaryOp op) r) (ha:PE X a ta):PE X (.UnaryOp op a pos) (tUn r ta):=by
 intro pins s σ H Q I h
 exact UnaryOp_ (cy (ha pins s σ H _ I h) fun v s1 ⟨x,H1,I1,r1,q1⟩=>ho pins s1 σ H1 x v Q I1 r1 q1)
theorem opI {f:Value→Value→Sem Value} {C:Int→Int→Prop} {g:Int→Int→Int}
  (rule:∀ (i j:Int) (t u:Tok) (s:Shared) (Q:Value→Shared→Prop) (E:Value→Shared→Prop),C i j→Q (.int (g i j) s.toks) { s with toks:=s.toks+1 }→wpAny (model X.prog X.w) X.A (f (.int i t) (.int j u)) Q E s) :
  oB X f (rI C fun i j=>.int (g i j)):=by
 intro pins s σ H x y v u Q I rx ry h
 obtain ⟨i,j,rfl,rfl,hc,q⟩:=h
 obtain ⟨t,rfl⟩:=rx
 obtain ⟨t',rfl⟩:=ry
 exact rule i j t t' s _ _ hc ⟨.int (g i j),H,I.tok _,⟨_,rfl⟩,q⟩
theorem SN {f:Value→Value→Sem Value} {g:Int→Int→Int}
  (rule:∀ (i j:Int) (t u:Tok) (s:Shared) (Q:Value→Shared→Prop) (E:Value→Shared→Prop),Q (.int (g i j) s.toks) { s with toks:=s.toks+1 }→wpAny (model X.prog X.w) X.A (f (.int i t) (.int j u)) Q E s) :
  oB X f (Ru fun i j=>.int (g i j)):=by
 intro pins s σ H x y v u Q I rx ry h
 obtain ⟨i,j,rfl,rfl,q⟩:=h
 obtain ⟨t,rfl⟩:=rx
 obtain ⟨t',rfl⟩:=ry
 exact rule i j t t' s _ _ ⟨.int (g i j),H,I.tok _,⟨_,rfl⟩,q⟩
theorem SO {f:Value→Value→Sem Value} {g:Int→Int→Bool}
  (rule:∀ (i j:Int) (t u:Tok) (s:Shared) (Q:Value→Shared→Prop) (E:Value→Shared→Prop),Q (.bool (g i j)) s→wpAny (model X.prog X.w) X.A (f (.int i t) (.int j u)) Q E s) :
  oB X f (Ru fun i j=>.bl (g i j)):=by
 intro pins s σ H x y v u Q I rx ry h
 obtain ⟨i,j,rfl,rfl,q⟩:=h
 obtain ⟨t,rfl⟩:=rx
 obtain ⟨t',rfl⟩:=ry
 exact rule i j t t' s _ _ ⟨.bl (g i j),H,I,rfl,q⟩
def b0v (i j:Int):Prop:=0 < j∧j < 1073741824
def Rq (i j:Int):Prop:=(-(2 ^ 64) < i∧i < 2 ^ 64)∨(-(2 ^ 64) < j∧j < 2 ^ 64)
theorem Rq.ok {i j:Int} (h:Rq i j):IntMulOk i j:=by
 rcases h with ⟨h1,h2⟩ | ⟨h1,h2⟩
 ·exact .of_left (intBits_le_64 h1 h2)
 ·exact .of_right (intBits_le_64 h1 h2)
theorem dQ:oB X (binaryOp .Add) (Ru fun i j=>.int (i+j)):=SN fun _ _ _ _ _ _ _ q=>add_int q
theorem yz:oB X (binaryOp .Sub) (Ru fun i j=>.int (i - j)):=SN fun _ _ _ _ _ _ _ q=>sub_int q
theorem fP:oB X (binaryOp .Mult) (rI Rq fun i j=>.int (i*j)):=opI fun _ _ _ _ _ _ _ hc q=>mul_int q hc.ok
theorem Dt:oB X (binaryOp .FloorDiv) (rI b0v fun i j=>.int (i / j)):=opI fun i j _ _ _ _ _ hc q=>by
 have h1:(0:Int) < j:=hc.1
 have h2:j < 1073741824:=hc.2
 exact floordiv_int (by omega) (by rw [Int.fdiv_eq_ediv_of_nonneg i (by omega)];exact q) (.inl (PyProof.noPylong_small (by omega)))
theorem iA:oB X (binaryOp .Mod) (rI (fun _ j=>0 < j) fun i j=>.int (i % j)):=opI fun i j _ _ _ _ _ hc q=>by
 have h1:(0:Int) < j:=hc
 exact mod_int' (by omega) (by rw [Int.fmod_eq_emod_of_nonneg i (by omega)];exact q)
theorem unI {f:Value→Sem Value} {g:Int→Int}
  (rule:∀ (i:Int) (t:Tok) (s:Shared) (Q:Value→Shared→Prop) (E:Value→Shared→Prop),Q (.int (g i) s.toks) { s with toks:=s.toks+1 }→wpAny (model X.prog X.w) X.A (f (.int i t)) Q E s) :
  UnR X f (rU fun i=>.int (g i)):=by
 intro pins s σ H x v Q I rx h
 obtain ⟨i,rfl,q⟩:=h
 obtain ⟨t,rfl⟩:=rx
 exact rule i t s _ _ ⟨.int (g i),H,I.tok _,⟨_,rfl⟩,q⟩
theorem nh:UnR X (unaryOp .USub) (rU fun i=>.int (-i)):=unI fun _ _ _ _ _ q=>neg_int q
end
def Sv:V→V→Bool
 | .eX,.eX=>true | .eX,.int _=>true | .int _,.eX=>true | .eX,.bl _=>true | .bl _,.eX=>true | .eX,.str _=>true | .str _,.eX=>true
 | .int _,.int _=>true | .bl _,.bl _=>true | .str _,.str _=>true | .FG _,.FG _=>true
 | .int _,.str _=>true | .str _,.int _=>true | .bl _,.str _=>true | .str _,.bl _=>true
 | _,_=>false
def rEq:R2:=fun x y H Q=>Sv x y=true∧Q (.bl (decide (x=y))) H
def rNe:R2:=fun x y H Q=>Sv x y=true∧Q (.bl (!decide (x=y))) H
theorem DX {i j:Int}:decide (V.int i=V.int j)=(i == j):=by
 rw [Bool.eq_iff_iff]
 simp
theorem J5 {i j:Bool}:decide (V.bl i=V.bl j)=(i == j):=by
 rw [Bool.eq_iff_iff]
 simp
theorem DW {i j:Str}:decide (V.str i=V.str j)=(i == j):=by
 rw [Bool.eq_iff_iff]
 simp
theorem DY {i j:Array UInt8}:decide (V.FG i=V.FG j)=(i.toList == j.toList):=by
 rw [Bool.eq_iff_iff]
 cases i
 cases j
 simp
section
variable {X:Cx} {a b c:Expr} {ta tb tc:TE} {pos:Pos}
theorem bM {pins:List (Addr×Obj)} {σ:St} {H:Hp} {s:Shared} {Q:VK} {k k':Bool} (I:Inv X pins σ H s) (q:Q (.bl k) H) (e:k=k'):EP X pins σ Q (.bool k') s:=by
 subst e
 exact ⟨.bl k,H,I,rfl,q⟩
theorem bV:oB X (compareOp .Eq) rEq:=by
 intro pins s σ H x y v u Q I rx ry h
 obtain ⟨hs,q⟩:=h
 cases x with
 | eX =>
  cases rx
  cases y with
  | eX=>cases ry;exact PySem.EqNone.eq_none_none (bM I q (by simp))
  | bl j=>cases ry;exact PySem.EqNone.eq_none_bool (bM I q (by simp))
  | int j=>obtain ⟨t',rfl⟩:=ry;exact PySem.EqNone.eq_none_int (bM I q (by simp))
  | str j=>obtain ⟨t',rfl⟩:=ry;exact PySem.EqNone.eq_none_str (bM I q (by simp))
  | _=>exact absurd (show false=true from hs) Bool.false_ne_true
 | bl i =>
  cases rx
  cases y with
  | eX=>cases ry;exact PySem.EqNone.eq_bool_none (bM I q (by simp))
  | bl j=>cases ry;exact eq_bool (bM I q J5)
  | str j=>obtain ⟨t',rfl⟩:=ry;exact PySem.EqMixed.eq_bool_str (bM I q (by simp))
  | _=>exact absurd (show false=true from hs) Bool.false_ne_true
 | int i =>
  obtain ⟨t,rfl⟩:=rx
  cases y with
  | eX=>cases ry;exact PySem.EqNone.eq_int_none (bM I q (by simp))
  | int j=>obtain ⟨t',rfl⟩:=ry;exact eq_int (bM I q DX)
  | str j=>obtain ⟨t',rfl⟩:=ry;exact PySem.EqMixed.eq_int_str (bM I q (by simp))
  | _=>exact absurd (show false=true from hs) Bool.false_ne_true
 | str i =>
  obtain ⟨t,rfl⟩:=rx
  cases y with
  | eX=>cases ry;exact PySem.EqNone.eq_str_none (bM I q (by simp))
  | bl j=>cases ry;exact PySem.EqMixed.eq_str_bool (bM I q (by simp))
  | int j=>obtain ⟨t',rfl⟩:=ry;exact PySem.EqMixed.eq_str_int (bM I q (by simp))
  | str j=>obtain ⟨t',rfl⟩:=ry;exact eq_str (bM I q DW)
  | _=>exact absurd (show false=true from hs) Bool.false_ne_true
 | FG i =>
  obtain ⟨t,rfl⟩:=rx
  cases y with
  | FG j=>obtain ⟨t',rfl⟩:=ry;exact PySem.W.eq_bytes (bM I q DY)
  | _=>exact absurd (show false=true from hs) Bool.false_ne_true
 | _=>cases y <;> exact absurd (show false=true from hs) Bool.false_ne_true
theorem Ds:oB X (compareOp .NotEq) rNe:=by
 intro pins s σ H x y v u Q I rx ry h
 obtain ⟨hs,q⟩:=h
 cases x with
 | eX =>
  cases rx
  cases y with
  | eX=>cases ry;exact PySem.EqNone.ne_none_none (bM I q (by simp))
  | bl j=>cases ry;exact PySem.EqNone.ne_none_bool (bM I q (by simp))
  | int j=>obtain ⟨t',rfl⟩:=ry;exact PySem.EqNone.ne_none_int (bM I q (by simp))
  | str j=>obtain ⟨t',rfl⟩:=ry;exact PySem.EqNone.ne_none_str (bM I q (by simp))
  | _=>exact absurd (show false=true from hs) Bool.false_ne_true
 | bl i =>
  cases rx
  cases y with
  | eX=>cases ry;exact PySem.EqNone.ne_bool_none (bM I q (by simp))
  | bl j=>cases ry;exact ne_bool (bM I q (congrArg not J5))
  | str j=>obtain ⟨t',rfl⟩:=ry;exact PySem.EqMixed.ne_bool_str (bM I q (by simp))
  | _=>exact absurd (show false=true from hs) Bool.false_ne_true
 | int i =>
  obtain ⟨t,rfl⟩:=rx
  cases y with
  | eX=>cases ry;exact PySem.EqNone.ne_int_none (bM I q (by simp))
  | int j=>obtain ⟨t',rfl⟩:=ry;exact ne_int (bM I q (congrArg not DX))
  | str j=>obtain ⟨t',rfl⟩:=ry;exact PySem.EqMixed.ne_int_str (bM I q (by simp))
  | _=>exact absurd (show false=true from hs) Bool.false_ne_true
 | str i =>
  obtain ⟨t,rfl⟩:=rx
  cases y with
  | eX=>cases ry;exact PySem.EqNone.ne_str_none (bM I q (by simp))
  | bl j=>cases ry;exact PySem.EqMixed.ne_str_bool (bM I q (by simp))
  | int j=>obtain ⟨t',rfl⟩:=ry;exact PySem.EqMixed.ne_str_int (bM I q (by simp))
  | str j=>obtain ⟨t',rfl⟩:=ry;exact ne_str (bM I q (congrArg not DW))
  | _=>exact absurd (show false=true from hs) Bool.false_ne_true
 | FG i =>
  obtain ⟨t,rfl⟩:=rx
  cases y with
  | FG j=>obtain ⟨t',rfl⟩:=ry;exact PySem.W.ne_bytes (bM I q (congrArg not DY))
  | _=>exact absurd (show false=true from hs) Bool.false_ne_true
 | _=>cases y <;> exact absurd (show false=true from hs) Bool.false_ne_true
theorem uH:oB X (compareOp .Lt) (Ru fun i j=>.bl (decide (i < j))):=SO fun _ _ _ _ _ _ _ q=>lt_int q
theorem Ac:oB X (compareOp .Gt) (Ru fun i j=>.bl (decide (j < i))):=SO fun _ _ _ _ _ _ _ q=>gt_int q
theorem Lv:oB X (compareOp .IsNot) (fun x y H Q=>y=.eX∧Q (.bl (!decide (x=.eX))) H):=by
 intro pins s σ H x y v u Q I rx ry h
 obtain ⟨rfl,q⟩:=h
 cases ry
 refine isnot_none_gen (bM I q ?_)
 cases x <;> first
  | (cases rx;rfl)
  | (obtain ⟨t,rfl⟩:=rx;rfl)
theorem aL (b:Expr) {op:CmpOp} (h:op≠.In:=by decide) (h2:op≠.NotIn:=by decide):behindInMarks op b=false:=by
 have e1:(op == CmpOp.In)=false:=by cases op <;> first | rfl | exact absurd rfl h
 have e2:(op == CmpOp.NotIn)=false:=by cases op <;> first | rfl | exact absurd rfl h2
 cases b <;> simp [behindInMarks,e1,e2]
theorem bK {op:CmpOp} {r:R2} (ho:oB X (compareOp op) r) (ha:PE X a ta) (hb:PE X b tb) (hm:behindInMarks op b=false):PE X (.Compare a [op] [b] pos) (R6 r ta tb):=by
 intro pins s σ H Q I h
 exact wpAny_Compare1 (QY ha hb I h fun v u s2 x y H2 I2 rx ry q=>ho pins s2 σ H2 x y v u Q I2 rx ry q) hm
def NK (t:TE):TT:=fun σ H Q=>t σ H fun x H'=>∃ k,x=.bl k∧Q k H'
theorem aP {op:CmpOp} {r:R2} (ho:oB X (compareOp op) r) (ha:PE X a ta) (hb:PE X b tb) (hm:behindInMarks op b=false):PT X (.Compare a [op] [b] pos) (NK (R6 r ta tb)):=by
 intro pins s σ H Q I h
 refine wpAny_isTrue_Compare1 (cy (ha pins s σ H _ I h) fun v s1 ⟨x,H1,I1,r1,q1⟩=>cy (hb pins s1 σ H1 _ I1 q1) fun u s2 ⟨y,H2,I2,r2,q2⟩ =>
  cy (ho pins s2 σ H2 x y v u _ I2 r1 r2 q2) fun c s3 ⟨z,H3,I3,r3,k,e,q3⟩=>?_) hm
 subst e
 cases r3
 exact wpAny_truthy_bool ⟨H3,I3,q3⟩
theorem qR:(sizeLine:Nat) < 2 ^ 63:=by rw [sizeLine_eq];decide
theorem jO:oB X (binaryOp .Add) (fun x y H Q=>∃ i j,x=.str i∧y=.str j∧i.length+j.length≤sizeLine∧Q (.str (i++j)) H):=by
 intro pins s σ H x y v u Q I rx ry h
 obtain ⟨i,j,rfl,rfl,hz,q⟩:=h
 obtain ⟨t,rfl⟩:=rx
 obtain ⟨t',rfl⟩:=ry
 exact add_str (fun t' tk=>⟨.str (i++j),H,I.tok _,⟨_,rfl⟩,q⟩) hz
theorem vals1 {x:V} {us:List Value} (r:Vals [x] us):∃ u,us=[u]∧RelV x u:=by
 cases r with
 | cons r1 r2=>cases r2;exact ⟨_,rfl,r1⟩
theorem vals2 {x y:V} {us:List Value} (r:Vals [x,y] us):∃ u w',us=[u,w']∧RelV x u∧RelV y w':=by
 cases r with
 | cons r1 r2 =>
  cases r2 with
  | cons r3 r4=>cases r4;exact ⟨_,_,rfl,r1,r3⟩
theorem fz:iI X (.type "int") (fun xs H Q=>(∃ i,xs=[.int i]∧Q (.int i) H)∨∃ k,xs=[.bl k]∧Q (.int (if k then 1 else 0)) H):=by
 intro pins s σ H xs us Q I r h
 rcases h with ⟨i,rfl,q⟩ | ⟨k,rfl,q⟩
 ·obtain ⟨u,rfl,t,rfl⟩:=vals1 r
  exact call_int_int ⟨.int i,H,I,⟨_,rfl⟩,q⟩
 ·obtain ⟨u,rfl,r1⟩:=vals1 r
  cases r1
  exact call_int_bool ⟨.int (if k then 1 else 0),H,I.tok _,⟨_,rfl⟩,q⟩
theorem qd:iI X (.type "str") (fun xs H Q=>∃ i,xs=[.int i]∧i.natAbs.log2 < 1920∧Q (.str (toString i)) H):=by
 intro pins s σ H xs us Q I r h
 obtain ⟨i,rfl,hz,q⟩:=h
 obtain ⟨u,rfl,t,rfl⟩:=vals1 r
 exact PySem.P.str_of_int hz ⟨.str _,H,I.tok _,⟨_,rfl⟩,q⟩
end
end L2
namespace L2
open PySem PySem.Spec PyProof.Rows
structure CS (h:Heap) (x dx C:Addr) (mA:Str→Option Value):Prop where
 obj:h.get? x=some (PySem.W.instObj C dx)
 ns:h.Ns1 dx mA
 ne:dx≠x
theorem EE {h:Heap} {dx:Addr} {mA:Str→Option Value} (n:h.Ns1 dx mA):∃ od,h.get? dx=some od∧∀ name,PySem.W.lookIn name od=some (mA name):=by
 obtain ⟨o,es,ep,ho,hd,hk,_,hm⟩:=n
 refine ⟨o,ho,fun name=>?_⟩
 have e:=hm name
 unfold nsFind findBy at e
 rw [← Array.find?_toList] at e
 unfold PySem.W.lookIn
 rw [hd]
 dsimp only
 split
 ·rename_i y q
  rw [q] at e
  exact congrArg some e
 ·rename_i q
  rw [q] at e
  have a:es.toList.any (·.refKey)=false:=by
   rw [List.any_eq_false]
   intro y hy
   obtain ⟨z,t,hkey⟩:=hk y (Array.mem_toList_iff.mp hy)
   simp [DictEntry.refKey,hkey]
  have a':¬ es.toList.any (·.refKey)=true:=by rw [a];exact Bool.false_ne_true
  rw [if_neg a']
  exact congrArg some e
theorem CS.look {h:Heap} {x dx C:Addr} {mA:Str→Option Value} (I:CS h x dx C mA):∃ od,PySem.W.InstAt h x (PySem.W.instObj C dx) C (some od)∧∀ name,PySem.W.lookIn name od=some (mA name) :=
 let ⟨od,ho,hl⟩:=EE I.ns
 ⟨od,⟨I.obj,rfl,rfl,ho⟩,hl⟩
section
variable {prog:Program} {w:World} {A:Around} {E:Value→Shared→Prop} {s:Shared} {K:PySem.W.Frag} {x dx C f:Addr} {mA:Str→Option Value} {name:Str} {v:Value}
theorem get_map {expr:Bool} {Q:Value→Shared→Prop} (X:K.In s.heap) (I:CS s.heap x dx C mA) (hg:PySem.W.plainGet K C name=true) (hh:PySem.W.hasDictIn K C=true)
  (ha:PySem.W.findIn K (.ref C) name=some none) (hv:mA name=some v) (hv':PySem.W.handedIn v=true) (h:Q v { s with toks:=s.toks+1 }) :
  wpAny (model prog w) A (getAttr (.ref x) name expr) Q E s:=by
 obtain ⟨od,J,hl⟩:=I.look
 exact PySem.W.get_value X J (PySem.W.plainGet_of hg).1 (PySem.W.findObj_own hh ha rfl (by rw [hl,hv])) hv' h
theorem JL {pl:Sem Bool} {Q:Value×List Value→Shared→Prop} (X:K.In s.heap) (I:CS s.heap x dx C mA) (hg:PySem.W.plainGet K C name=true)
  (hf:PySem.W.findIn K (.ref C) name=some (some (.ref f))) (ht:PySem.W.isFn K (.ref f)=true) (hv:mA name=none) (h:Q (.ref f,[.ref x]) s) :
  wpAny (model prog w) A (getMethod (.ref x) name pl) Q E s:=by
 obtain ⟨od,J,hl⟩:=I.look
 exact PySem.W.method_fn X J (PySem.W.plainGet_of hg).1 (PySem.W.plainGet_of hg).2 hf (beq_iff_eq.mp ht) (by show (PySem.W.lookIn name od).map (·.isSome)=some false;rw [hl,hv];rfl) h
theorem K6 {ns:List Str} {Q:Unit→Shared→Prop} (X:K.In s.heap) (I:CS s.heap x dx C mA)
  (hs:PySem.W.findIn K (.ref C) "__setattr__"=some (some (.builtin "object.__setattr__"))) (hp:PySem.W.plainOver K C=true) (ht:PySem.W.takerIn K C name=some none) (hh:PySem.W.hasDictIn K C=true)
  (hw:PySem.Within mA ns) (hsz:ns.length≤sizeLine)
  (h:∀ h',CS h' x dx C (fun y=>if y=name then some v else mA y)→Heap.SameBut dx s.heap h'→Q () { s with heap:=h',toks:=s.toks+2 }) :
  wpAny (model prog w) A (setAttr (.ref x) name v) Q E s:=by
 obtain ⟨od,J,hl⟩:=I.look
 refine PySem.W.set_plain X J hs (PySem.W.osa_open (s:={ s with toks:=s.toks+1 }) (r:=none) X J hp ht fun b=>?_)
 obtain ⟨cd,hc,hd'⟩:=PySem.W.any_some hh
 have hx:s.heap.get? x=some ⟨.ref C,some dx,.plain,#[]⟩:=I.obj
 refine wpAny_bind (wpAny_pure (wpAny_bind (wpAny_bind (wpAny_loadPart hx (wpAny_bind (PySem.W.Looks.here (s:={ s with toks:=s.toks+1 }) (PySem.W.looks_clsIn X hc) ?_))))))
 rw [hd']
 refine wpAny_pure (a:=some dx) (wpAny_bind (wpAny_pure (wpAny_bind ?_)))
 refine wpAny_nsSet1 (s:={ s with toks:=s.toks+1 }) I.ns fun h' hn2 hs2=>?_
 obtain ⟨oD,esD,epD,hoD,hdD,hcD⟩:=hn2.count (PySem.Within.cons name v hw)
 refine wpAny_bind (wpAny_lookBehind hoD (by rw [hdD];exact pastItsLine_dict (Nat.le_trans hcD (by rw [List.length_cons];omega))) ?_)
 exact wpAny_pure (h _ ⟨(hs2.2 _ (Ne.symm I.ne)).trans I.obj,hn2,I.ne⟩ hs2)
theorem I9 {R:Result→Shared→Prop} {vs:List Value} {kw:List (Str×Value)} (X:K.In s.heap) (hm:PySem.W.makesIn K C=true)
  (hi:PySem.W.findIn K (.ref C) "__init__"=some (some (.ref f))) (hf:PySem.W.typeIn K (.ref f)=some (.type "function"))
  (h:codeAny (model prog w) (A.under (.builtin "type.__call__" ⟨.ref C::vs,kw⟩)) (.call (.ref f) ⟨.ref (s.heap.objs.size+1)::vs,kw⟩) (PySem.W.InitBack (s.heap.objs.size+1) R)
   { s with heap:=(s.heap.push PySem.W.emptyDict).push (PySem.W.instObj C s.heap.objs.size) }) :
  codeAny (model prog w) A (.call (.ref C) ⟨vs,kw⟩) R s:=by
 obtain ⟨hh,g,d,t,os⟩:=s
 exact PySem.W.make_core (PySem.W.makes_of X hm) (PySem.W.looks_findIn X hi) (fun self=>PySem.W.bind_fn X self hf) (.inl rfl) h
end
def gg (f:Str) (v:V):List (Str×V)→List (Str×V)
 | []=>[(f,v)]
 | (g,x)::r=>if g=f then (g,v)::r else (g,x)::gg f v r
theorem aX (f g:Str) (v:V):∀ fs:List (Str×V),(gg f v fs).lookup g=if g=f then some v else fs.lookup g
 | []=>by
  show List.lookup g [(f,v)]=_
  by_cases h:g=f
  ·have hb:(g == f)=true:=beq_iff_eq.mpr h
   simp only [List.lookup,hb,if_pos h]
  ·have hb:(g == f)=false:=beq_eq_false_iff_ne.mpr h
   simp only [List.lookup,hb,if_neg h]
 | (k,x)::r=>by
  have ih:=aX f g v r
  rw [show gg f v ((k,x)::r)=(if k=f then (k,v)::r else (k,x)::gg f v r) from rfl]
  by_cases hk:k=f
  ·rw [if_pos hk]
   by_cases h:g=k
   ·have hb:(g == k)=true:=beq_iff_eq.mpr h
    simp only [List.lookup,hb,if_pos (h.trans hk)]
   ·have hb:(g == k)=false:=beq_eq_false_iff_ne.mpr h
    simp only [List.lookup,hb,if_neg (fun e:g=f=>h (e.trans hk.symm))]
  ·rw [if_neg hk]
   by_cases h:g=k
   ·have hb:(g == k)=true:=beq_iff_eq.mpr h
    simp only [List.lookup,hb,if_neg (fun e:g=f=>hk (h.symm.trans e))]
   ·have hb:(g == k)=false:=beq_eq_false_iff_ne.mpr h
    simp only [List.lookup,hb]
    exact ih
theorem qT (f:Str) (v:V):∀ fs:List (Str×V),f∈(gg f v fs).map (·.1)∧∀ g,g∈fs.map (·.1)→g∈(gg f v fs).map (·.1)
 | []=>⟨by simp [gg],fun g h=>by simp at h⟩
 | (k,x)::r=>by
  obtain ⟨i1,i2⟩:=qT f v r
  rw [show gg f v ((k,x)::r)=(if k=f then (k,v)::r else (k,x)::gg f v r) from rfl]
  by_cases hk:k=f
  ·rw [if_pos hk]
   subst hk
   exact ⟨by simp,fun g h=>by simpa using h⟩
  ·rw [if_neg hk]
   refine ⟨?_,fun g h=>?_⟩
   ·rw [List.map_cons]
    exact List.mem_cons_of_mem _ i1
   ·rw [List.map_cons] at h ⊢
    rcases List.mem_cons.mp h with e | e
    ·exact List.mem_cons.mpr (.inl e)
    ·exact List.mem_cons_of_mem _ (i2 g e)
theorem rS (f:Str) (v:V):∀ fs:List (Str×V),(gg f v fs).length≤fs.length+1
 | []=>by simp [gg]
 | (k,x)::r=>by
  have ih:=rS f v r
  rw [show gg f v ((k,x)::r)=(if k=f then (k,v)::r else (k,x)::gg f v r) from rfl]
  by_cases hk:k=f
  ·rw [if_pos hk,List.length_cons,List.length_cons];omega
  ·rw [if_neg hk,List.length_cons,List.length_cons];omega
theorem j6.some_of {v:V} {o:Option Value} (r:j6 (some v) o):∃ u,o=some u∧RelV v u:=by
 cases o with
 | none=>exact (show False from r).elim
 | some u=>exact ⟨u,rfl,r⟩
theorem j6.none_of {o:Option Value} (r:j6 none o):o=none:=by
 cases o with
 | none=>rfl
 | some u=>exact (show False from r).elim
theorem ER {v:V} {u:Value} (r:RelV v u):PySem.W.handedIn u=true:=by
 cases v with
 | eX=>cases (show u=Value.none from r);rfl
 | bl b=>cases (show u=Value.bool b from r);rfl
 | int i=>obtain ⟨t,e⟩:=(show ∃ t,u=Value.int i t from r);cases e;rfl
 | str x=>obtain ⟨t,e⟩:=(show ∃ t,u=Value.str x t from r);cases e;rfl
 | FG b=>obtain ⟨t,e⟩:=(show ∃ t,u=Value.bytes b t from r);cases e;rfl
 | Qn b=>obtain ⟨t,e⟩:=(show ∃ t,u=Value.float b t from r);cases e;rfl
 | ref a=>cases (show u=Value.ref a from r);rfl
 | ty n=>cases (show u=Value.type n from r);rfl
section
variable {P:Program} {w:World} {H H':Hp} {h h':Heap} {a C dx:Addr} {fs fs':List (Str×V)}
theorem tD (hok:lS P w H h) (e:H a=some (.ins C dx fs)):∃ mA,CS h a dx C mA∧(∀ f,j6 (fs.lookup f) (mA f))∧PySem.Within mA (fs.map (·.1))∧fs.length≤1000∧H dx=some (.own a):=by
 obtain ⟨d,z,ne,ob,mA,n,r,q⟩:=(show cD P w H h a (.ins C dx fs) from hok a _ e)
 exact ⟨mA,⟨ob,n,ne⟩,r,q,z,d⟩
end
structure A5 (K:PySem.W.Frag) (C:Addr):Prop where
 pg:PySem.W.plainGet K C Str.empty=true
 hd:PySem.W.hasDictIn K C=true
 po:PySem.W.plainOver K C=true
 sa:PySem.W.findIn K (.ref C) "__setattr__"=some (some (.builtin "object.__setattr__"))
theorem A5.get {K:PySem.W.Frag} {C:Addr} (c:A5 K C) (f:Str):PySem.W.plainGet K C f=true:=c.pg
def eY (K:PySem.W.Frag) (C:Addr) (f:Str):Prop:=PySem.W.findIn K (.ref C) f=some none
theorem eY.R1 {K:PySem.W.Frag} {C:Addr} {f:Str} (n:eY K C f):PySem.W.takerIn K C f=some none:=by
 unfold PySem.W.takerIn
 rw [show PySem.W.findIn K (.ref C) f=some none from n]
 rfl
structure Meth (K:PySem.W.Frag) (C:Addr) (m:Str) (f:Addr):Prop where
 at_:PySem.W.findIn K (.ref C) m=some (some (.ref f))
 fn:PySem.W.isFn K (.ref f)=true
 kp:PySem.W.keepIn K (.ref f)=true
section
variable {X:Cx} {pins:List (Addr×Obj)} {σ:St} {H:Hp} {s:Shared} {a C dx:Addr} {fs:List (Str×V)} {f:Str} {v:V} {A:Around} {E:Value→Shared→Prop}
theorem Cg {b:Bool} {Q:Value→Shared→Prop} (I:Inv X pins σ H s) (e:H a=some (.ins C dx fs)) (c:A5 X.K C) (n:eY X.K C f) (l:fs.lookup f=some v)
  (h:∀ u s',Inv X pins σ H s'→RelV v u→Q u s'):wpAny (model X.prog X.w) A (getAttr (.ref a) f b) Q E s:=by
 obtain ⟨mA,O,r,_,_,_⟩:=tD I.hok e
 obtain ⟨u,hu,ru⟩:=j6.some_of (v:=v) (o:=mA f) (by rw [← l];exact r f)
 exact get_map I.iX O (c.get f) c.hd n hu (ER ru) (h u _ (I.tok _) ru)
theorem iE {m:Str} {g:Addr} {pl:Sem Bool} {Q:Value×List Value→Shared→Prop} (I:Inv X pins σ H s) (e:H a=some (.ins C dx fs)) (c:A5 X.K C) (k:Meth X.K C m g) (l:fs.lookup m=none)
  (h:Q (.ref g,[.ref a]) s):wpAny (model X.prog X.w) A (getMethod (.ref a) m pl) Q E s:=by
 obtain ⟨mA,O,r,_,_,_⟩:=tD I.hok e
 have hn:mA m=none:=j6.none_of (by rw [← l];exact r m)
 exact JL I.iX O (c.get m) k.at_ k.fn hn h
theorem BA {y:V} {u:Value} {Q:Unit→Shared→Prop} (I:Inv X pins σ H s) (e:H a=some (.ins C dx fs)) (c:A5 X.K C) (n:eY X.K C f) (hl:fs.length < 1000) (ry:RelV y u)
  (h:∀ s',Inv X pins σ (upd H a (.ins C dx (gg f y fs))) s'→Q () s'):wpAny (model X.prog X.w) A (setAttr (.ref a) f u) Q E s:=by
 obtain ⟨mA,O,r,wi,_,ho⟩:=tD I.hok e
 have hz:(fs.map (·.1)).length≤sizeLine:=by rw [List.length_map,sizeLine_eq];omega
 refine K6 I.iX O c.sa c.po n.R1 c.hd wi hz fun h' O' sb=>h _ ?_
 have hd:∃ o,h'.get? dx=some o:=let ⟨o,_,_,e',_⟩:=O'.ns;⟨o,e'⟩
 refine I.write (x:=a) (e:=dx) (by rw [e];exact True.intro) (.inr ho) (fun b q hb z=>(sb.2 b hb).trans z) hd ?_
 refine ⟨by rw [aA O.ne];exact ho,?_,O.ne,O'.obj,_,O'.ns,fun g=>?_,fun g hg=>?_⟩
 ·have:=rS f y fs;omega
 ·show j6 ((gg f y fs).lookup g) (if g=f then some u else mA g)
  rw [aX]
  by_cases q:g=f
  ·rw [if_pos q,if_pos q];exact ry
  ·rw [if_neg q,if_neg q];exact r g
 ·by_cases q:g=f
  ·rw [q];exact (qT f y fs).1
  ·refine (qT f y fs).2 g (wi g fun z=>hg ?_)
   show (if g=f then some u else mA g)=none
   rw [if_neg q];exact z
theorem Inv.made (I:Inv X pins σ H s):Inv X pins σ (upd (upd H s.heap.objs.size (.own (s.heap.objs.size+1))) (s.heap.objs.size+1) (.ins C s.heap.objs.size []))
  { s with heap:=(s.heap.push PySem.W.emptyDict).push (PySem.W.instObj C s.heap.objs.size) }:=by
 have e1:(s.heap.push PySem.W.emptyDict).get? s.heap.objs.size=some PySem.W.emptyDict:=Heap.get?_push_size s.heap rfl
 have e2:((s.heap.push PySem.W.emptyDict).push (PySem.W.instObj C s.heap.objs.size)).get? (s.heap.objs.size+1)=some (PySem.W.instObj C s.heap.objs.size):=by
  have:=Heap.get?_push_size (s.heap.push PySem.W.emptyDict) (o:=PySem.W.instObj C s.heap.objs.size) rfl
  rwa [Heap.size_push] at this
 have e3:(s.heap.push PySem.W.emptyDict).Ns s.heap.objs.size (fun _=>none):=⟨PySem.W.emptyDict,#[],_,e1,rfl,(fun e he=>absurd he (by simp)),fun _=>rfl⟩
 have I1:=I.laid (a:=s.heap.objs.size) (o:=.own (s.heap.objs.size+1)) (h':=s.heap.push PySem.W.emptyDict) (t':=s.toks) (fun b u q=>Heap.get?_push_of_some _ q) (Nat.le_refl _) ⟨_,e1⟩
 refine I1.laid (a:=s.heap.objs.size+1) (o:=.ins C s.heap.objs.size []) (t':=s.toks) (fun b u q=>Heap.get?_push_of_some _ q) (Nat.le_of_eq (Heap.size_push _ _)) ?_
 have ne:s.heap.objs.size≠s.heap.objs.size+1:=Nat.ne_of_lt (Nat.lt_succ_self _)
 refine ⟨by rw [aA ne,ah],Nat.zero_le _,ne,e2,fun _=>none,(Heap.Ns1.of_empty e3).at fun o q=>Heap.get?_push_of_some _ q,fun _=>True.intro,fun y hy=>absurd rfl hy⟩
theorem M7 {prog:Program} {w:World} {env:Env} {e:Expr} {f:Str} {pos:Pos} {s:Shared} {Q:Value→Shared→Prop} (hb:attributeBase e f env (eval e env)=eval e env)
  (h:wpAny (model prog w) A (eval e env) (fun o s₁=>wpAny (model prog w) A (getAttr o f true) Q E s₁) E s):wpAny (model prog w) A (eval (.Attribute e f pos) env) Q E s :=
 Attribute_any_ h (by rw [arm_eval_Attribute,hb])
end
def Si (K:PySem.W.Frag) (ta:TE) (f:Str):TE:=fun σ H Q=>ta σ H fun x H1=>∃ a C dx fs v,x=.ref a∧H1 a=some (.ins C dx fs)∧A5 K C∧eY K C f∧fs.lookup f=some v∧Q v H1
def Zu (K:PySem.W.Frag) (ta tv:TE) (f:Str):TS:=fun D σ H=>tv σ H fun y H1=>ta σ H1 fun x H2=>∃ a C dx fs,x=.ref a∧H2 a=some (.ins C dx fs)∧A5 K C∧eY K C f∧fs.length < 1000 ∧
 D.nx σ (upd H2 a (.ins C dx (gg f y fs)))
section
variable {X:Cx} {o e value:Expr} {f:Str} {pos pos' tpos:Pos} {ta tv:TE}
theorem aY (he:PE X e ta) (hb:attributeBase e f X.env (eval e X.env)=eval e X.env):PE X (.Attribute e f pos) (Si X.K ta f):=by
 intro pins s σ H Q I h
 refine M7 hb (cy (he pins s σ H _ I h) fun u s1 ⟨x,H1,I1,rx,a,C,dx,fs,v,ex,ea,c,n,l,q⟩=>?_)
 subst ex
 obtain rfl:u=Value.ref a:=rx
 exact Cg I1 ea c n l fun u' s2 I2 ru=>⟨v,H1,I2,ru,q⟩
theorem gP (ha:PE X o ta) (hv:PE X value tv) (hs:swapsWith value (some (.Attribute o f pos')) pos.line X.env=pure false):PS X (.Assign [.Attribute o f pos'] value pos) (Zu X.K ta tv f):=by
 intro pins s σ H D I h
 refine plainObj_wpAny_Assign_Attribute (cy (hv pins s σ H _ I h) fun u s1 ⟨y,H1,I1,ry,q⟩=>cy (ha pins s1 σ H1 _ I1 q) fun ov s2 ⟨x,H2,I2,rx,a,C,dx,fs,ex,ea,c,n,l,q2⟩=>?_) hs
 subst ex
 obtain rfl:ov=Value.ref a:=rx
 exact BA I2 ea c n l ry fun s3 I3=>⟨σ,_,I3,q2⟩
end
section
variable {X:Cx} {pins:List (Addr×Obj)} {σ:St} {H:Hp} {s:Shared} {A:Around} {E:Value→Shared→Prop} {Q:Value→Shared→Prop} {c:Value} {b:Bool}
inductive qo (K:PySem.W.Frag) (H:Hp):V→Value→Prop where
 | eX:qo K H .eX (.type "NoneType")
 | bl (x:Bool):qo K H (.bl x) (.type "bool")
 | int (i:Int):qo K H (.int i) (.type "int")
 | str (x:Str):qo K H (.str x) (.type "str")
 | Qn (x:UInt64):qo K H (.Qn x) (.type "float")
 | lst {a:Addr} {xs:List V} (e:H a=some (.lst xs)):qo K H (.ref a) (.type "list")
 | Ci {a:Addr} {o:Obj} {xs:List V} (e:H a=some (.Ci o (.lst xs))):qo K H (.ref a) (.type "list")
 | tup {a:Addr} {xs:List V} (e:H a=some (.tup xs)):qo K H (.ref a) (.type "tuple")
 | dK {a:Addr} {kvs:List (Key×V)} (e:H a=some (.dK kvs)):qo K H (.ref a) (.type "dict")
 | dT {a:Addr} {kvs:List (List Key×V)} (e:H a=some (.dT kvs)):qo K H (.ref a) (.type "dict")
 | ins {a C dx:Addr} {fs:List (Str×V)} (e:H a=some (.ins C dx fs)) (cl:A5 K C) (ha:PySem.W.findIn K (.ref C) "__class__"=some (some (.builtin "object.__class__")))
   (hn:PySem.W.specialIn K (.builtin "object.__class__") "__get__"=some (some (.builtin "getset_descriptor.__get__"))) (htk:PySem.W.takesIn K (.builtin "object.__class__")=some true)
   (hm:PySem.W.mroIn K C (.type "object")=some true):qo K H (.ref a) (.ref C)
theorem EK {x:V} {u t:Value} (I:Inv X pins σ H s) (rx:RelV x u) (ty:qo X.K H x t) (e:PySem.W.kitOne X.K t c=some b) (h:∀ tk,Q (.bool b) { s with toks:=tk }) :
  wpAny (model X.prog X.w) A (call (.builtin "isinstance") [u,c]) Q E s:=by
 cases ty with
 | eX=>cases (show u=Value.none from rx);exact PySem.W.kia_one PySem.W.kitx_none I.iX True.intro e (fun z=>nomatch z) h
 | bl y=>cases (show u=Value.bool y from rx);exact PySem.W.kia_one PySem.W.kitx_bool I.iX True.intro e (fun z=>nomatch z) h
 | int i=>obtain ⟨t,q⟩:=(show ∃ t,u=Value.int i t from rx);cases q;exact PySem.W.kia_one PySem.W.kitx_int I.iX True.intro e (fun z=>nomatch z) h
 | str y=>obtain ⟨t,q⟩:=(show ∃ t,u=Value.str y t from rx);cases q;exact PySem.W.kia_one PySem.W.kitx_str I.iX True.intro e (fun z=>nomatch z) h
 | Qn y=>obtain ⟨t,q⟩:=(show ∃ t,u=Value.float y t from rx);cases q;exact PySem.W.kia_one PySem.W.kitx_float I.iX True.intro e (fun z=>nomatch z) h
 | @lst a xs ea =>
  cases (show u=Value.ref a from rx)
  obtain ⟨_,_,n,_,h1⟩:=(show cD X.prog X.w H s.heap a (.lst xs) from I.hok a _ ea)
  exact PySem.W.kia_one PySem.W.kitx_list I.iX ⟨_,h1,rfl⟩ e (fun z=>nomatch z) h
 | @Ci a ob xs ea =>
  cases (show u=Value.ref a from rx)
  obtain ⟨_,_,_,n,_,h1⟩:=(show cD X.prog X.w H s.heap a (.Ci ob (.lst xs)) from I.hok a _ ea)
  exact PySem.W.kia_one PySem.W.kitx_list I.iX ⟨_,h1,rfl⟩ e (fun z=>nomatch z) h
 | @tup a xs ea =>
  cases (show u=Value.ref a from rx)
  obtain ⟨_,_,_,p⟩:=(show cD X.prog X.w H s.heap a (.tup xs) from I.hok a _ ea)
  obtain ⟨o,h1,h2,_⟩:=p
  exact PySem.W.kia_one PySem.W.kitx_tuple I.iX ⟨o,h1,h2⟩ e (fun z=>nomatch z) h
 | @dK a kvs ea =>
  cases (show u=Value.ref a from rx)
  obtain ⟨_,_,vs,_,p⟩:=(show cD X.prog X.w H s.heap a (.dK kvs) from I.hok a _ ea)
  obtain ⟨o,es,ep,h1,h2,_⟩:=p
  exact PySem.W.kia_one PySem.W.kitx_dict I.iX ⟨o,h1,h2.1⟩ e (fun z=>nomatch z) h
 | @dT a kvs ea =>
  cases (show u=Value.ref a from rx)
  obtain ⟨_,_,xs,_,o,es,ep,h1,h2,_⟩:=(show cD X.prog X.w H s.heap a (.dT kvs) from I.hok a _ ea)
  exact PySem.W.kia_one PySem.W.kitx_dict I.iX ⟨o,h1,h2.1⟩ e (fun z=>nomatch z) h
 | @ins a C dx fs ea cl ha hn htk hm =>
  cases (show u=Value.ref a from rx)
  obtain ⟨mA,O,_⟩:=tD I.hok ea
  obtain ⟨od,J,_⟩:=O.look
  exact PySem.W.kia_one (PySem.W.kitx_own (cl.get _) cl.hd ha hn htk hm) I.iX J e (fun z=>nomatch z) h
end
end L2
namespace L2
open PySem PySem.Spec PyProof.Rows
structure dj (k:Nat) (A:Around):Prop where
 hd:A.handled=none
 dp:A.depth+3*k+5 < recursionLimit
 un:A.units+16*k+200 < cLine
theorem dj.mono {j k:Nat} {A:Around} (r:dj k A) (h:j≤k):dj j A:=⟨r.hd,by have:=r.dp;omega,by have:=r.un;omega⟩
theorem dj.deeper {k:Nat} {A:Around} (r:dj (k+1) A) (env:Env):dj k (A.deeper env) :=
 ⟨r.hd,by have:=r.dp;show A.depth+1+3*k+5 < _;omega,by have:=r.un;show A.units+3+16*k+200 < _;omega⟩
theorem BU {A:Around} {C:Addr} {us:List Value} {kw:List (Str×Value)}:(A.under (.builtin "type.__call__" ⟨.ref C::us,kw⟩)).depth=A.depth+1:=by
 first | rfl | simp [Around.under,Code.weight,Code.isCreation,Code.isGuard,Code.isCaller,Code.frames,Code.isFrame,guardIds]
theorem BS {A:Around} {C:Addr} {us:List Value} {kw:List (Str×Value)}:(A.under (.builtin "type.__call__" ⟨.ref C::us,kw⟩)).units=A.units+1:=by
 first | rfl | simp [Around.under,Code.cUnits,Code.frames,Code.isFrame]
theorem dj.make {k:Nat} {A:Around} (r:dj (k+1) A) (C:Addr) (us:List Value) (kw:List (Str×Value)):dj k (A.under (.builtin "type.__call__" ⟨.ref C::us,kw⟩)) :=
 ⟨r.hd,by have:=r.dp;rw [BU];omega,by have:=r.un;rw [BS];omega⟩
theorem dj.depth {k:Nat} {A:Around} (r:dj k A):A.depth < recursionLimit:=by have:=r.dp;omega
theorem dj.units {k:Nat} {A:Around} (r:dj k A):A.units+64 < cLine:=by have:=r.un;omega
def K3:TA:=fun _ H Q=>Q [] H
def Sl (ta:TE) (tr:TA):TA:=fun σ H Q=>ta σ H fun x H1=>tr σ H1 fun xs H2=>Q (x::xs) H2
section
variable {X:Cx} {e:Expr} {es:List Expr} {te:TE} {t:TA} {pos:Pos}
theorem ai:PA X [] K3:=fun _ _ _ _ H Q I h=>Calls.spliced_nil ⟨[],H,I,.nil,h⟩
theorem aa (ha:PE X e te) (hr:PA X es t) (hs:starEach (e::es) X.env=(false,eval e X.env)::starEach es X.env:=by rfl):PA X (e::es) (Sl te t):=by
 intro pos pins s σ H Q I h
 rw [hs]
 show wpAny _ _ (spliced ((false,eval e X.env)::backTo pos (starEach es X.env))) _ _ s
 refine Calls.spliced_cons (cy (ha pins s σ H _ I h) fun u s1 ⟨x,H1,I1,r1,q1⟩=>?_)
 exact cy (hr pos pins s1 σ H1 _ I1 q1) fun us s2 ⟨xs,H2,I2,r2,q2⟩=>⟨x::xs,H2,I2,.cons r1 r2,q2⟩
def Yi (t:TA):TE:=fun σ H Q=>t σ H fun xs H1=>xs.length≤sizeLine∧∀ p,H1 p=none→Q (.ref p) (upd H1 p (.tup xs))
def Sf (t:TA):TE:=fun σ H Q=>t σ H fun xs H1=>xs.length≤sizeLine∧∀ p,H1 p=none→Q (.ref p) (upd H1 p (.lst xs))
theorem bG {x1} (h:PA X es t):PE X (.Tuple es x1 pos) (Yi t):=by
 intro pins s σ H Q I hq
 refine wpAny_Tuple_spliced (cy (h pos pins s σ H _ I hq) fun us s1 ⟨xs,H1,I1,r,z,q⟩=>⟨by rw [← r.length];exact z,?_⟩)
 have hf:H1 s1.heap.objs.size=none:=I1.hok.fresh (Nat.le_refl _)
 refine ⟨.ref s1.heap.objs.size,upd H1 s1.heap.objs.size (.tup xs),I1.laid (t':=s1.toks) (fun b u e=>Heap.get?_push_of_some _ e) (Nat.le_refl _) ?_,rfl,q _ hf⟩
 exact ⟨z,us,r,⟨_,Heap.get?_push_size _ rfl,rfl,_,rfl⟩⟩
theorem bB (h:PA X es t):PE X (.List es pos) (Sf t):=by
 intro pins s σ H Q I hq
 refine wpAny_List_spliced (cy (h pos pins s σ H _ I hq) fun us s1 ⟨xs,H1,I1,r,z,q⟩=>⟨by rw [← r.length];exact z,?_⟩)
 have hf:H1 s1.heap.objs.size=none:=I1.hok.fresh (Nat.le_refl _)
 refine ⟨.ref s1.heap.objs.size,upd H1 s1.heap.objs.size (.lst xs),I1.laid (t':=s1.toks) (fun b u e=>Heap.get?_push_of_some _ e) (Nat.le_refl _) ?_,rfl,q _ hf⟩
 exact ⟨z,us,0,r,Heap.get?_push_size _ rfl⟩
end
abbrev Sp:=List V→Hp→VK→XK→Prop
abbrev Ba:=List Env→Hp→Shared→XK→Value→Shared→Prop
structure zp (P:Program) (w:World) (K:PySem.W.Frag) (mg:Str→Option Value) (base:Heap) (A:Around) (outer:List Env) (s:Shared) (H:Hp):Prop where
 frames:A.frames=some outer
 mod:Mod K mg base
 bs:∀ b o,base.get? b=some o→s.heap.get? b=some o∧H b=none
 AO:base.objs.size≤s.heap.objs.size
 lH:s.heap.FunFrames base outer
 Fz:∀ b∈frs outer,H b=none
 hok:lS P w H s.heap
 bare:AllBare s.gens
def CE (outer:List Env) (P:Program) (w:World) (H:Hp) (s:Shared) (Q:VK) (u:Value) (s':Shared):Prop :=
 ∃ v H',s'.os=s.os∧AllBare s'.gens∧Un (frs outer) [] H H' s.heap s'.heap∧lS P w H' s'.heap∧RelV v u∧Q v H'
def CR (CX:Ba) (outer:List Env) (P:Program) (w:World) (H:Hp) (s:Shared) (Q:VK) (E:XK) (r:Result) (s':Shared):Prop :=
 match r with
 | .ok (.ret u)=>CE outer P w H s Q u s'
 | .ok _=>False
 | .error e=>CX outer H s E e s'
structure bu (P:Program) (w:World) (K:PySem.W.Frag) (mg:Str→Option Value) (base:Heap) (CX:Ba) (k:Nat) (f:Addr) (fd:FuncData) (ps:List Str) (sp:Sp):Prop where
 len:∀ vs H Q E,sp vs H Q E→vs.length=ps.length
 run:∀ (A:Around) (outer:List Env) (s:Shared) (H:Hp) (args:Args) (us:List Value) (vs:List V) (Q:VK) (E:XK),dj k A→zp P w K mg base A outer s H→BindsTo s fd args (ps.zip us)→Vals vs us→sp vs H Q E →
  codeAny (model P w) A (.call (.ref f) args) (CR CX outer P w H s Q E) s
theorem zp.make {P:Program} {w:World} {K:PySem.W.Frag} {mg:Str→Option Value} {base:Heap} {A:Around} {outer:List Env} {s:Shared} {H:Hp} (e:zp P w K mg base A outer s H) (C:Addr) (us:List Value) (kw:List (Str×Value)) :
  zp P w K mg base (A.under (.builtin "type.__call__" ⟨.ref C::us,kw⟩)) outer s H:=⟨by first | exact e.frames | (simpa [Around.under,Code.envs,Code.isFrame,pushEnvs] using e.frames),e.mod,e.bs,e.AO,e.lH,e.Fz,e.hok,e.bare⟩
section
variable {X:Cx} {pins:List (Addr×Obj)} {σ:St} {H:Hp} {s s':Shared}
theorem Inv.J0 (I:Inv X pins σ H s):zp X.prog X.w X.K X.mg X.base X.A X.stack s H :=
 ⟨I.ok.frames,I.ok.mod,I.bs,Nat.le_trans I.ok.AO I.sz,I.stack,I.lY,I.hok,I.bare⟩
theorem Inv.after {Q:VK} {u:Value} (I:Inv X pins σ H s) (h:CE X.stack X.prog X.w H s Q u s'):EP X pins σ Q u s':=by
 obtain ⟨v,H',os,bare,un,hok,r,q⟩:=h
 obtain ⟨hh,g,d,t,os'⟩:=s'
 obtain rfl:os'=s.os:=os
 exact ⟨v,H',I.call (h':=hh) (g':=g) (d':=d) (t':=t) (ch:=[]) un hok bare (fun b z=>absurd z (by simp)),r,q⟩
end
def C9 (sp:Sp) (kr:List V) (E:XK) (t:TA):TE:=fun σ H Q=>t σ H fun vs H1=>sp (vs++kr) H1 Q E
def NN (C:Addr) (m:Str) (sp:Sp) (kr:List V) (E:XK) (ta:TE) (t:TA):TE:=fun σ H Q=>ta σ H fun x H1=>∃ a dx fs,x=.ref a∧H1 a=some (.ins C dx fs)∧fs.lookup m=none ∧
 t σ H1 fun vs H2=>sp (x::(vs++kr)) H2 Q E
def Se (C:Addr) (sp:Sp) (kr:List V) (E:XK) (t:TA):TE:=fun σ H Q=>t σ H fun vs H1=>∀ x dx,H1 x=none→H1 dx=none→dx≠x →
 sp (.ref x::(vs++kr)) (upd (upd H1 dx (.own x)) x (.ins C dx [])) (fun v H2=>v=.eX∧Q (.ref x) H2) E
def Binds (K:PySem.W.Frag) (fd:FuncData) (ps:List Str) (ds:List Value):Prop :=
 ∀ (s:Shared) (us:List Value),K.In s.heap→(us++ds).length=ps.length→BindsTo s fd ⟨us,[]⟩ (ps.zip (us++ds))
theorem Binds.all {K:PySem.W.Frag} {fd:FuncData} {ps:List Str} (h:∀ us:List Value,us.length=ps.length→bindArgs fd ⟨us,[]⟩=pure (ps.zip us)):Binds K fd ps []:=fun s us _ hl=>by
 rw [List.append_nil] at hl ⊢
 exact .of_eq (h us hl)
def Passes (CX:Ba) (X:Cx) (E:XK):Prop:=∀ (pins:List (Addr×Obj)) (σ:St) (H:Hp) (s:Shared) (e:Value) (s':Shared),Inv X pins σ H s→CX X.stack H s E e s'→X.xe e s'
section
variable {X:Cx} {CX:Ba} {k:Nat} {f C:Addr} {fd:FuncData} {ps:List Str} {sp:Sp} {kr:List V} {ds:List Value} {E:XK} {x m:Str} {p pos apos:Pos} {e o:Expr} {es:List Expr} {ta:TE} {t:TA}
theorem kP {pins:List (Addr×Obj)} {σ:St} {H:Hp} {s:Shared} {Q:VK} {us:List Value} {vs:List V} (F:bu X.prog X.w X.K X.mg X.base CX k f fd ps sp) (hr:dj k X.A) (hb:Binds X.K fd ps ds) (hd:Vals kr ds) (hx:Passes CX X E)
  (I:Inv X pins σ H s) (r:Vals vs us) (h:sp (vs++kr) H Q E):wpAny (model X.prog X.w) X.A (call (.ref f) us) (EP X pins σ Q) X.xe s:=by
 have r2:Vals (vs++kr) (us++ds):=r.append hd
 have hl:(us++ds).length=ps.length:=by rw [← r2.length];exact F.len _ _ _ _ h
 refine wpAny_call (codeAny_mono (F.run X.A X.stack s H ⟨us,[]⟩ (us++ds) (vs++kr) Q E hr I.J0 (hb s us I.iX hl) r2 h) fun r s' hq=>?_)
 cases r with
 | error e=>exact hx pins σ H s e s' I hq
 | ok fl =>
  cases fl with
  | ret u=>exact I.after hq
  | next=>exact False.elim hq
  | brk=>exact False.elim hq
  | cont=>exact False.elim hq
theorem aB (F:bu X.prog X.w X.K X.mg X.base CX k f fd ps sp) (hr:dj k X.A) (hg:Gl X x) (hm:X.mg x=some (.ref f)) (hk:PySem.W.keepIn X.K (.ref f)=true) (hb:Binds X.K fd ps ds) (hd:Vals kr ds) (hx:Passes CX X E)
  (ha:PA X (e::es) t) (hdb:(x == ("__debug__":Str))=false:=by decide) (he:starEach (e::es) X.env=(false,eval e X.env)::starEach es X.env:=by rfl) (hpl:(backTo pos (starEach es X.env)).any (·.1)=false:=by rfl) :
  PE X (.Call (.Name x p) (e::es) [] pos) (C9 sp kr E t):=by
 intro pins s σ H Q I h
 refine wpAny_Call_Name_kw (gB I hg hm ?_ hdb)
 refine PySem.W.callWith_K (h₀:=X.base) I.ok.mod.jb hk (cy (ha pos pins s σ H _ I h) fun us s1 ⟨vs,H1,I1,r,q⟩=>⟨I1.iX,?_⟩) he hpl
 exact kP F hr hb hd hx I1 r q
theorem HR (F:bu X.prog X.w X.K X.mg X.base CX k f fd ps sp) (hr:dj k X.A) (hg:Gl X x) (hm:X.mg x=some (.ref f)) (hk:PySem.W.keepIn X.K (.ref f)=true) (hb:Binds X.K fd ps ds) (hd:Vals kr ds) (hx:Passes CX X E)
  (hdb:(x == ("__debug__":Str))=false:=by decide):PE X (.Call (.Name x p) [] [] pos) (C9 sp kr E K3):=by
 intro pins s σ H Q I h
 refine wpAny_Call_Name_kw (gB I hg hm ?_ hdb)
 exact PySem.W.callWith_K0 I.iX hk (kP (us:=[]) F hr hb hd hx I .nil h)
theorem gA {pl:Sem Bool} (he:PE X o ta) (c:A5 X.K C) (hm:Meth X.K C m f) (F:bu X.prog X.w X.K X.mg X.base CX k f fd ps sp) (hr:dj k X.A) (hb:Binds X.K fd ps ds) (hd:Vals kr ds) (hx:Passes CX X E) (ha:PA X (e::es) t)
  (hst:starEach (e::es) X.env=(false,eval e X.env)::starEach es X.env:=by rfl) (hpl:(backTo pos (starEach es X.env)).any (·.1)=false:=by rfl)
  (ht:eval (.Call (.Attribute o m apos) (e::es) [] pos) X.env=(do
   let ov ← eval o X.env
   standAt apos.atName
   let (f,first) ← holding [ov] (getMethod ov m pl)
   callWith pos f first (backTo pos (starEach (e::es) X.env)) (backToKw pos (keywordEach [] X.env))):=by rfl) :
  PE X (.Call (.Attribute o m apos) (e::es) [] pos) (NN C m sp kr E ta t):=by
 intro pins s σ H Q I h
 refine PySem.W.methodCall_KW (pl:=pl) (cy (he pins s σ H _ I h) fun u s1 ⟨x,H1,I1,rx,a,dx,fs,ex,ea,l,q⟩=>?_) ht
 subst ex
 obtain rfl:u=Value.ref a:=rx
 refine iE I1 ea c hm l ?_
 refine PySem.W.callWith_K (first:=[.ref a]) (h₀:=X.base) I.ok.mod.jb hm.kp (cy (ha pos pins s1 σ H1 _ I1 q) fun us s2 ⟨vs,H2,I2,r,q2⟩=>⟨I2.iX,?_⟩) hst hpl
 exact kP (us:=.ref a::us) (vs:=.ref a::vs) F hr hb hd hx I2 (.cons rfl r) q2
theorem z6 {pl:Sem Bool} (he:PE X o ta) (c:A5 X.K C) (hm:Meth X.K C m f) (F:bu X.prog X.w X.K X.mg X.base CX k f fd ps sp) (hr:dj k X.A) (hb:Binds X.K fd ps ds) (hd:Vals kr ds) (hx:Passes CX X E)
  (ht:eval (.Call (.Attribute o m apos) [] [] pos) X.env=(do
   let ov ← eval o X.env
   standAt apos.atName
   let (f,first) ← holding [ov] (getMethod ov m pl)
   callWith pos f first (backTo pos (starEach [] X.env)) (backToKw pos (keywordEach [] X.env))):=by rfl) :
  PE X (.Call (.Attribute o m apos) [] [] pos) (NN C m sp kr E ta K3):=by
 intro pins s σ H Q I h
 refine PySem.W.methodCall_KW (pl:=pl) (cy (he pins s σ H _ I h) fun u s1 ⟨x,H1,I1,rx,a,dx,fs,ex,ea,l,q⟩=>?_) ht
 subst ex
 obtain rfl:u=Value.ref a:=rx
 refine iE I1 ea c hm l ?_
 exact PySem.W.callWith_K0 (first:=[.ref a]) I1.iX hm.kp (kP (us:=[.ref a]) (vs:=[.ref a]) F hr hb hd hx I1 (.cons rfl .nil) q)
structure Mk (K:PySem.W.Frag) (C f:Addr):Prop where
 makes:PySem.W.makesIn K C=true
 init:PySem.W.findIn K (.ref C) "__init__"=some (some (.ref f))
 fn:PySem.W.isFn K (.ref f)=true
 kp:PySem.W.keepIn K (.ref C)=true
theorem G7 {pins:List (Addr×Obj)} {σ:St} {H:Hp} {s:Shared} {Q:VK} {us:List Value} {vs:List V} (M:Mk X.K C f) (F:bu X.prog X.w X.K X.mg X.base CX k f fd ps sp) (hr:dj (k+1) X.A) (hb:Binds X.K fd ps ds) (hd:Vals kr ds)
  (hx:Passes CX X E) (I:Inv X pins σ H s) (r:Vals vs us)
  (h:∀ x dx,H x=none→H dx=none→dx≠x→sp (.ref x::(vs++kr)) (upd (upd H dx (.own x)) x (.ins C dx [])) (fun v H2=>v=.eX∧Q (.ref x) H2) E) :
  wpAny (model X.prog X.w) X.A (call (.ref C) us) (EP X pins σ Q) X.xe s:=by
 have hq:=h (s.heap.objs.size+1) s.heap.objs.size (I.hok.fresh (Nat.le_succ _)) (I.hok.fresh (Nat.le_refl _)) (Nat.ne_of_lt (Nat.lt_succ_self _))
 have I2:=Inv.made (C:=C) I
 have r2:Vals (V.ref (s.heap.objs.size+1)::(vs++kr)) (Value.ref (s.heap.objs.size+1)::(us++ds)):=.cons rfl (r.append hd)
 have hl:(Value.ref (s.heap.objs.size+1)::us++ds).length=ps.length:=by
  have e:=r2.length
  rw [F.len _ _ _ _ hq] at e
  exact e.symm
 refine wpAny_call (I9 (f:=f) I.iX M.makes M.init (beq_iff_eq.mp M.fn) (codeAny_mono (F.run _ X.stack _ _ ⟨Value.ref (s.heap.objs.size+1)::us,[]⟩ (Value.ref (s.heap.objs.size+1)::(us++ds)) _ _ E (hr.make C us [])
  (I2.J0.make C us []) (hb _ (Value.ref (s.heap.objs.size+1)::us) I2.iX hl) r2 hq) fun r s' hq'=>?_))
 cases r with
 | error e=>exact hx pins σ _ _ e s' I2 hq'
 | ok fl =>
  cases fl with
  | ret u =>
   obtain ⟨v,H',I3,rv,ev,q3⟩:=I2.after hq'
   subst ev
   exact ⟨rv,⟨V.ref (s.heap.objs.size+1),H',I3,rfl,q3⟩⟩
  | next=>exact False.elim hq'
  | brk=>exact False.elim hq'
  | cont=>exact False.elim hq'
theorem cO (M:Mk X.K C f) (F:bu X.prog X.w X.K X.mg X.base CX k f fd ps sp) (hr:dj (k+1) X.A) (hg:Gl X x) (hm:X.mg x=some (.ref C)) (hb:Binds X.K fd ps ds) (hd:Vals kr ds) (hx:Passes CX X E)
  (ha:PA X (e::es) t) (hdb:(x == ("__debug__":Str))=false:=by decide) (he:starEach (e::es) X.env=(false,eval e X.env)::starEach es X.env:=by rfl) (hpl:(backTo pos (starEach es X.env)).any (·.1)=false:=by rfl) :
  PE X (.Call (.Name x p) (e::es) [] pos) (Se C sp kr E t):=by
 intro pins s σ H Q I h
 refine wpAny_Call_Name_kw (gB I hg hm ?_ hdb)
 refine PySem.W.callWith_K (h₀:=X.base) I.ok.mod.jb M.kp (cy (ha pos pins s σ H _ I h) fun us s1 ⟨vs,H1,I1,r,q⟩=>⟨I1.iX,?_⟩) he hpl
 exact G7 M F hr hb hd hx I1 r q
end
section
variable {X:Cx} {CX:Ba} {k:Nat} {f C:Addr} {fd:FuncData} {ps ks:List Str} {sp:Sp} {E:XK} {x m:Str} {p pos apos kpos:Pos} {e o:Expr} {es:List Expr} {kws:List Keyword} {te ta:TE} {t tk:TA} {nm:Option Str}
variable {g:List Value→List Value→List Value} {gV:List V→List V→List V}
end
structure aG (N P:List Str) (sc:Scope):Prop where
 kind:sc.kind=.function
 co:sc.isCoroutine=false
 gen:sc.isGenerator=false
 nd:N.Nodup
 pre:N.take P.length=P
 par:∀ x∈P,sc.names.lookup x=some .local∨sc.names.lookup x=some .cell
 Pu:∀ y∈sc.names,y.2≠.free
theorem xG {kindOf:Str→Option NameKind} {x:Str}:∀ {binds:List (Str×Value)} {m:Str→Option Value},(∀ v,(x,v) ∉ binds)→bindL kindOf binds m x=m x
 | [],_,_=>rfl
 | (n,v)::r,m,h=>by
  unfold bindL
  rw [xG fun w hw=>h w (List.mem_cons_of_mem _ hw)]
  split
  ·have:x≠n:=by rintro rfl;exact h v List.mem_cons_self
   simp [this]
  ·rfl
theorem xJ {kindOf:Str→Option NameKind} {x:Str}:∀ {binds:List (Str×Value)} {m:Str→Option Value},(∀ v,(x,v) ∉ binds)→bindC kindOf binds m x=m x
 | [],_,_=>rfl
 | (n,v)::r,m,h=>by
  unfold bindC
  rw [xJ fun w hw=>h w (List.mem_cons_of_mem _ hw)]
  split
  ·rfl
  ·have:x≠n:=by rintro rfl;exact h v List.mem_cons_self
   simp [this]
theorem xH {kindOf:Str→Option NameKind} {x:Str} {v:Value}:∀ {P:List Str} {vs:List Value} {i:Nat} {m:Str→Option Value},P.Nodup→P[i]?=some x→vs[i]?=some v→kindOf x=some .local →
  bindL kindOf (P.zip vs) m x=some v
 | [],_,_,_,_,h,_,_=>by simp at h
 | _::_,[],_,_,_,_,h,_=>by simp at h
 | p::P,w::vs,0,m,nd,h1,h2,hk=>by
  simp at h1 h2;subst h1;subst h2
  show bindL kindOf ((p,w)::P.zip vs) m p=_
  unfold bindL
  rw [xG fun v hv=>(List.nodup_cons.mp nd).1 (List.of_mem_zip hv).1,if_pos hk]
  simp
 | p::P,w::vs,i+1,m,nd,h1,h2,hk=>by
  show bindL kindOf ((p,w)::P.zip vs) m x=_
  unfold bindL
  exact xH (i:=i) (List.nodup_cons.mp nd).2 (by simpa using h1) (by simpa using h2) hk
theorem xK {kindOf:Str→Option NameKind} {x:Str} {v:Value}:∀ {P:List Str} {vs:List Value} {i:Nat} {m:Str→Option Value},P.Nodup→P[i]?=some x→vs[i]?=some v→kindOf x≠some .local →
  bindC kindOf (P.zip vs) m x=some v
 | [],_,_,_,_,h,_,_=>by simp at h
 | _::_,[],_,_,_,_,h,_=>by simp at h
 | p::P,w::vs,0,m,nd,h1,h2,hk=>by
  simp at h1 h2;subst h1;subst h2
  show bindC kindOf ((p,w)::P.zip vs) m p=_
  unfold bindC
  rw [xJ fun v hv=>(List.nodup_cons.mp nd).1 (List.of_mem_zip hv).1,if_neg hk]
  simp
 | p::P,w::vs,i+1,m,nd,h1,h2,hk=>by
  show bindC kindOf ((p,w)::P.zip vs) m x=_
  unfold bindC
  exact xK (i:=i) (List.nodup_cons.mp nd).2 (by simpa using h1) (by simpa using h2) hk
def start (N:List Str) (vs:List V):St:=vs.map some++List.replicate (N.length - vs.length) none
def zd (CX:Ba) (P:Program) (w:World) (K:PySem.W.Frag) (mg:Str→Option Value) (base:Heap) (N:List Str) (qual:Str) (scope:Scope) (f:Addr) (cd:Value) (A:Around) (outer:List Env) (s:Shared) (H:Hp) (E:XK):Cx where
 prog:=P
 w:=w
 K:=K
 mg:=mg
 base:=base
 A:=A.deeper (envOfC qual scope s.heap.objs.size f cd)
 N:=N
 s₀:=s
 H₀:=H
 env:=envOfC qual scope s.heap.objs.size f cd
 outer:=outer
 stack:=envOfC qual scope s.heap.objs.size f cd::outer
 ex:=[]
 calm:=true
 fn:=fun _=>true
 pn:=[]
 xe:=fun e s'=>wpAny (model P w) (A.deeper (envOfC qual scope s.heap.objs.size f cd)) (leaving (envOfC qual scope s.heap.objs.size f cd) e) (fun _ s''=>CX outer H s E e s'') (fun e' s''=>CX outer H s E e' s'') s'
theorem AN {sc:Scope} {n:Nat} {x:Str} (h:sc.names.lookup x=some .cell):∃ c,(cellsFrom n sc.names []).lookup x=some c:=by
 have q:=PySem.W.cellsFrom_some sc.names n [] (.inl h)
 exact Option.isSome_iff_exists.mp q
theorem xq {CX:Ba} {P:Program} {w:World} {K:PySem.W.Frag} {mg:Str→Option Value} {base:Heap} {N ps:List Str} {qual:Str} {scope:Scope} {f:Addr} {cd:Value} {A:Around} {outer:List Env} {s s1:Shared} {H:Hp} {E:XK} {us:List Value} {vs:List V}
  (S:aG N ps scope) (hd:A.handled=none) (e0:zp P w K mg base A outer s H) (hl:vs.length=ps.length) (r:Vals vs us)
  (x:InCallC s s.heap.objs.size (bindL (envOfC qual scope s.heap.objs.size f cd).kindOf (ps.zip us) fun _=>none) (cellsFrom (s.heap.objs.size+1) scope.names []) (bindC (envOfC qual scope s.heap.objs.size f cd).kindOf (ps.zip us) fun _=>none) s1) :
  Inv (zd CX P w K mg base N qual scope f cd A outer s H E) [] (start N vs) H s1:=by
 have hpl:ps.length≤N.length:=by have:=congrArg List.length S.pre;rw [List.length_take] at this;omega
 obtain ⟨h1,tk,rfl,hk⟩:=x.done
 have S4:∀ b:Addr,b ∉ (zd CX P w K mg base N qual scope f cd A outer s H E).ex:=fun b z=>absurd (show b∈([]:List Addr) from z) (by simp)
 refine ⟨⟨e0.mod,S.kind,rfl,rfl,Nat.le_refl _,fun y z c h1 h2=>?_,fun y hy=>?_,fun y c _ h=>?_,fun _=>hd,Around.frames_deeper e0.frames,.inr ⟨rfl,rfl⟩,fun b z=>absurd z (S4 b),e0.bs,e0.AO,fun b _ _=>S4 b,fun b z=>absurd z (S4 b),e0.lH,e0.Fz⟩,
  rfl,e0.bare,Un.kept hk,⟨_,x.toInCall.ns,fun i y v h1 h2 h3=>?_⟩,fun y c h=>⟨_,x.cell y c h⟩,e0.hok.fresh (Nat.le_refl _),fun y c h=>?_,fun p hp=>absurd (show p∈([]:List (Addr×Obj)) from hp) (by simp),e0.hok.kept hk,?_⟩
 ·exact name_of_addr x.apart (PySem.mem_of_lookup h1) (PySem.mem_of_lookup h2)
 ·have hy:scope.names.lookup y=some .cell∨scope.names.lookup y=some .free:=hy
  rcases hy with hy | hy
  ·exact AN hy
  ·exact absurd rfl (S.Pu _ (PySem.mem_of_lookup hy))
 ·exact Nat.le_of_lt (x.above y c (PySem.mem_of_lookup h))
 ·have hi:i < vs.length:=by
   unfold start at h2
   by_cases hi:i < vs.length
   ·exact hi
   ·rw [List.getElem?_append_right (by simpa using hi)] at h2
    rw [List.getElem?_replicate] at h2
    split at h2 <;> cases h2
  have ha:vs[i]?=some v:=by
   unfold start at h2
   rw [List.getElem?_append_left (by simpa using hi),List.getElem?_map] at h2
   cases e:vs[i]? with
   | none=>rw [e] at h2;cases h2
   | some a=>rw [e] at h2;cases h2;rfl
  obtain ⟨u,hu,rv⟩:=r.get ha
  have hp:ps[i]?=some y:=by
   rw [← S.pre,List.getElem?_take_of_lt (by omega)];exact h1
  have ndP:ps.Nodup:=by rw [← S.pre];exact S.nd.sublist (List.take_sublist _ _)
  refine ⟨u,rv,?_⟩
  rcases S.par y (List.mem_of_getElem? hp) with k | k
  ·exact .inl ⟨k,xH ndP hp hu k⟩
  ·obtain ⟨c,e⟩:=AN (n:=s.heap.objs.size+1) k
   refine .inr ⟨.inl k,c,e,?_⟩
   have q:=x.cell y c e
   rw [xK ndP hp hu (by show scope.names.lookup y≠_;rw [k];decide)] at q
   exact q
 ·exact e0.hok.fresh (Nat.le_of_lt (x.above y c (PySem.mem_of_lookup h)))
 ·unfold start
  show _=N.length
  rw [List.length_append,List.length_map,List.length_replicate]
  omega
theorem N6 {CX:Ba} {P:Program} {w:World} {K:PySem.W.Frag} {mg:Str→Option Value} {base:Heap} {k:Nat} {f:Addr} {name qual:Str} {params:Arguments} {body:List Stmt} {scope:Scope} {dV kV doc pm cdv ct oc:Value} {an od:Option Addr}
  {osl:Array (Option Value)} {N ps:List Str} {sp:Sp} (lk:K.lookup f=some ⟨oc,od,.func (PySem.W.fnOf name qual params body scope dV kV doc pm an cdv ct),osl⟩) (hcd:PySem.W.codeIn K cdv qual=true) (S:aG N ps scope)
  (len:∀ vs H Q E,sp vs H Q E→vs.length=ps.length)
  (hbody:∀ (A:Around) (outer:List Env) (s:Shared) (H:Hp) (vs:List V) (Q:VK) (E:XK),dj k (A.deeper (envOfC qual scope s.heap.objs.size f cdv))→sp vs H Q E →
   ∃ t,xO (zd CX P w K mg base N qual scope f cdv A outer s H E) body t∧t { nx:=fun _ H'=>Q .eX H',rt:=Q } (start N vs) H) :
  bu P w K mg base CX (k+1) f (PySem.W.fnOf name qual params body scope dV kV doc pm an cdv ct) ps sp:=by
 refine ⟨len,fun A outer s H args us vs Q E hr e0 hb r EM=>?_⟩
 have hl:=len _ _ _ _ EM
 have KX:K.In s.heap:=e0.mod.jb.keeps fun b o e=>(e0.bs b o e).1
 have lim:s.heap.NoLimit:=e0.mod.nolimit.keeps fun b o e=>(e0.bs b o e).1
 have hkind:∀ y∈ps.zip us,scope.names.lookup y.1=some .local∨(scope.names.lookup y.1=some .cell∧((cellsFrom (s.heap.objs.size+1) scope.names []).lookup y.1).isSome=true):=fun ⟨n,v⟩ hy=>by
  rcases S.par n (List.of_mem_zip hy).1 with q | q
  ·exact .inl q
  ·exact .inr ⟨q,PySem.W.cellsFrom_some _ _ _ (.inl q)⟩
 refine codeAny_call_function hr.depth (KX _ _ lk) rfl S.co S.gen rfl (PySem.W.codeRec_of KX hcd) (hb _ _ _ _ ?_)
 refine wpAny_newFunctionEnv_cells S.kind hkind fun env he s1 x=>?_
 subst he
 refine ⟨lim.keeps x.toInCall.keep,codeAny_func ?_⟩
 obtain ⟨t,ht,hq⟩:=hbody A outer s H vs Q E (hr.deeper _) EM
 have I:Inv (zd CX P w K mg base N qual scope f cdv A outer s H E) [] (start N vs) H s1:=xq S hr.hd e0 hl r x
 refine wpAny_mono (ht [] s1 (start N vs) H _ I hq) (fun fl s' hs=>?_) fun e s' hs=>hs
 have fin:∀ {σ':St} {H':Hp} {v:V} {u:Value},Inv (zd CX P w K mg base N qual scope f cdv A outer s H E) [] σ' H' s'→RelV v u→Q v H'→CE outer P w H s Q u s' :=
  fun {σ' H' v u} J rv q=>⟨v,H',J.os,J.bare,J.base,J.hok,rv,q⟩
 cases fl with
 | ret u =>
  obtain ⟨v,σ',H',J,rv,q⟩:=hs
  exact fin J rv q
 | next =>
  obtain ⟨σ',H',J,q⟩:=hs
  exact fin (v:=V.eX) (u:=Value.none) J rfl q
 | brk =>
  obtain ⟨_,_,_,q⟩:=hs
  exact False.elim q
 | cont =>
  obtain ⟨_,_,_,q⟩:=hs
  exact False.elim q
end L2
namespace L2
open PySem PySem.Spec PyProof.Rows
section
variable {X:Cx} {x:Str} {p pos:Pos} {e:Expr} {es:List Expr} {t:TA} {id T:String} {r:List V→Hp→VK→Prop}
def tCB (r:List V→Hp→VK→Prop) (t:TA):TE:=fun σ H Q=>t σ H fun vs H1=>r vs H1 Q
theorem bU (hc:iI X (.builtin id) r) (hg:Gl X x) (hm:X.mg x=none) (hv:bootBuiltins x=some (.builtin id)) (ha:PA X (e::es) t) (hn:x≠"__name__":=by decide) (hdb:(x == ("__debug__":Str))=false:=by decide)
  (he:starEach (e::es) X.env=(false,eval e X.env)::starEach es X.env:=by rfl) (hpl:(backTo pos (starEach es X.env)).any (·.1)=false:=by rfl):PE X (.Call (.Name x p) (e::es) [] pos) (tCB r t):=by
 intro pins s σ H Q I h
 refine wpAny_Call_Name_kw (u7 I hg hm hv ?_ hn hdb)
 exact PyProof.Rows.callWith_builtin1 (cy (ha pos pins s σ H _ I h) fun us s1 ⟨vs,H1,I1,r1,q1⟩=>hc pins s1 σ H1 vs us Q I1 r1 q1) he hpl
theorem bz (hc:iI X (.type T) r) (hg:Gl X x) (hm:X.mg x=none) (hv:bootBuiltins x=some (.type T)) (ha:PA X (e::es) t) (hn:x≠"__name__":=by decide) (hdb:(x == ("__debug__":Str))=false:=by decide)
  (he:starEach (e::es) X.env=(false,eval e X.env)::starEach es X.env:=by rfl) (hpl:(backTo pos (starEach es X.env)).any (·.1)=false:=by rfl):PE X (.Call (.Name x p) (e::es) [] pos) (tCB r t):=by
 intro pins s σ H Q I h
 refine wpAny_Call_Name_kw (u7 I hg hm hv ?_ hn hdb)
 exact PyProof.Rows.callWith_type1 (cy (ha pos pins s σ H _ I h) fun us s1 ⟨vs,H1,I1,r1,q1⟩=>hc pins s1 σ H1 vs us Q I1 r1 q1) he hpl
end
end L2
namespace HT
open PySem PyProof.Rows
section
open PySem.SeqAt
open PySem.AutoSeq1 (wpAny_loadPart')
open PySem.MeetsSeq PySem.MeetsSeq2 PySem.MeetsSeq3
end
section
variable {prog:Program} {w:World} {A:Around} {E:Value→Shared→Prop} {s:Shared}
theorem MY {t b:Addr} {vs ws:List Value} {Q:Value→Shared→Prop} (ht:IsTup s.heap t vs.toArray) (hb:IsTup s.heap b ws.toArray) (hv:vs≠[])
  (h1:ws=[]→Q (.ref t) s) (h2:ws≠[]→Q (.ref s.heap.objs.size) { s with heap:=s.heap.push { cls:=.type "tuple",data:=.seq (vs++ws).toArray } })
  (hsz:vs.length+ws.length≤sizeLine):wpAny (model prog w) A (binaryOp .Add (.ref t) (.ref b)) Q E s:=by
 obtain ⟨⟨cls,dd,data,sl⟩,ho,hc,n,hd⟩:=id ht
 obtain ⟨⟨a7V,dd2,data2,sl2⟩,ho2,hc2,n2,hd2⟩:=id hb
 simp only at hc hd hc2 hd2
 subst hc hd hc2 hd2
 have e:vs.toArray++ws.toArray=(vs++ws).toArray:=by simp
 by_cases hw:ws=[]
 ·exact concat_meets ⟨_,ho,rfl⟩ ⟨_,ho2,rfl⟩ noFill_tuple_add seq_tuple_add PySem.F.slot_tuple_add PySem.F.entry_tuple_add (PySem.F.args_tuple_add_2 _ _)
   (tuple_addW1 t b vs.toArray ws.toArray n n2 dd dd2 sl sl2 (by simpa using hv) (by simp [hw])) ⟨ho,ho2,h1 hw⟩
 ·refine concat_meets ⟨_,ho,rfl⟩ ⟨_,ho2,rfl⟩ noFill_tuple_add seq_tuple_add PySem.F.slot_tuple_add PySem.F.entry_tuple_add (PySem.F.args_tuple_add_2 _ _)
   (tuple_addW2 t b vs.toArray ws.toArray n n2 dd dd2 sl sl2 (by simpa using hv) (by simpa using hw) (by rw [List.size_toArray,List.size_toArray];exact hsz)) ⟨ho,ho2,?_⟩
  rw [e]
  exact h2 hw
def iJ (n d:Nat):Option Int→Nat
 | none=>d
 | some v=>if v < 0 then (v+(n:Int)).toNat else min v.toNat n
theorem Dg (n d k:Nat):iJ n d (some (k:Int))=min k n:=by
 show (if (k:Int) < 0 then ((k:Int)+(n:Int)).toNat else min (k:Int).toNat n)=min k n
 rw [if_neg (by omega),Int.toNat_natCast]
theorem OX (n d:Nat) (hd:d≤n) (o:Option Int):iJ n d o≤n:=by
 cases o with
 | none=>exact hd
 | some v =>
  show (if v < 0 then (v+(n:Int)).toNat else min v.toNat n)≤n
  by_cases hv:v < 0
  ·rw [if_pos hv];omega
  ·rw [if_neg hv];exact Nat.min_le_right _ _
theorem Ea (v:Int) (n d:Nat):(if v < 0 then max (v+(n:Int)) 0 else min v (n:Int))=((iJ n d (some v):Nat):Int):=by
 show (if v < 0 then max (v+(n:Int)) 0 else min v (n:Int))=(((if v < 0 then (v+(n:Int)).toNat else min v.toNat n):Nat):Int)
 by_cases hv:v < 0
 ·simp only [if_pos hv];omega
 ·simp only [if_neg hv];omega
theorem CP (lo hi:Option Int) (n:Nat):Builtin.Slice.sliceAdjust lo hi 1 (n:Int)=(((iJ n 0 lo:Nat):Int),((iJ n n hi:Nat):Int)):=by
 have h1:¬ ((1:Int) < 0):=by omega
 unfold Builtin.Slice.sliceAdjust
 simp only [h1,if_false]
 refine Prod.ext ?_ ?_
 ·cases lo with
  | none=>rfl
  | some v=>exact Ea v n 0
 ·cases hi with
  | none=>rfl
  | some v=>exact Ea v n n
theorem BE (i j:Nat):Builtin.Slice.slicePlaces (i:Int) (j:Int) 1=j - i:=by
 unfold Builtin.Slice.slicePlaces
 have h1:(1:Int) > 0:=by omega
 simp only [h1,if_true,Int.ediv_one]
 split <;> omega
theorem ue {v:Value} {o:Option Int} {Q:Option Int→Shared→Prop} (p:IsPart v o) (h:Q o s):wpAny (model prog w) A (Builtin.Slice.slicePartIndex v) Q E s:=by
 cases p with
 | none=>exact slicePart_none h
 | int i t=>exact slicePart_int h
theorem qB {sl:Addr} {vl vu:Value} {lo hi:Option Int} {n:Nat} {Q:Int×Int×Nat→Shared→Prop} (hs:s.heap.IsSliceOf sl vl vu .none) (pl:IsPart vl lo) (pu:IsPart vu hi)
  (h:Q (((iJ n 0 lo:Nat):Int),1,iJ n n hi - iJ n 0 lo) s):wpAny (model prog w) A (Builtin.Slice.sliceApplied (.ref sl) (pure (n:Int))) Q E s:=by
 obtain ⟨os,hos,hcs,hds⟩:=id hs
 unfold Builtin.Slice.sliceApplied Builtin.Slice.sliceFields
 refine wpAny_bind (wpAny_bind (wpAny_field hos hds (x:=vl) rfl (wpAny_bind (wpAny_field hos hds (x:=vu) rfl (wpAny_bind (wpAny_field hos hds (x:=.none) rfl (wpAny_pure ?_)))))))
 refine wpAny_bind (slicePart_none ?_)
 show wpAny _ _ (if ((1:Int) == 0)=true then _ else _) _ _ s
 rw [if_neg (by decide)]
 refine wpAny_bind (ue pl (wpAny_bind (ue pu (wpAny_bind (wpAny_pure ?_)))))
 show wpAny _ _ (match Builtin.Slice.sliceAdjust lo hi 1 (n:Int) with | (lo,hi)=>pure (lo,(1:Int),Builtin.Slice.slicePlaces lo hi 1)) _ _ s
 rw [CP lo hi n]
 show wpAny _ _ (pure (((iJ n 0 lo:Nat):Int),(1:Int),Builtin.Slice.slicePlaces ((iJ n 0 lo:Nat):Int) ((iJ n n hi:Nat):Int) 1)) _ _ s
 rw [BE]
 exact wpAny_pure h
theorem HD (xs:Array Value) (i k:Nat):((List.range k).filterMap fun (m:Nat)=>xs[((i:Int)+(m:Int)*1).toNat]?).toArray=((xs.toList.drop i).take k).toArray:=by
 have e:(fun (m:Nat)=>xs[((i:Int)+(m:Int)*1).toNat]?)=fun m=>xs[i+m]?:=by
  funext m
  have:((i:Int)+(m:Int)*1).toNat=i+m:=by omega
  rw [this]
 rw [e]
 have:=pick_run xs i k
 rw [List.filterMap_map] at this
 have e2:((fun x=>xs[x]?) ∘ fun x=>i+x)=fun m=>xs[i+m]?:=rfl
 rw [e2] at this
 rw [this]
theorem pX {t sl:Addr} {items:Array Value} {vl vu:Value} {lo hi:Option Int} {Q:Value→Shared→Prop} (ht:IsTup s.heap t items) (hs:s.heap.IsSliceOf sl vl vu .none) (pl:IsPart vl lo) (pu:IsPart vu hi)
  (hw:¬ (iJ items.size 0 lo=0∧iJ items.size items.size hi=items.size))
  (h:Q (.ref s.heap.objs.size) { s with heap:=s.heap.push { cls:=.type "tuple",data:=.seq ((items.toList.drop (iJ items.size 0 lo)).take (iJ items.size items.size hi - iJ items.size 0 lo)).toArray } })
  (hsz:items.size≤sizeLine):wpAny (model prog w) A (getItem (.ref t) (.ref sl)) Q E s:=by
 have DN:sizeOk (.seq ((items.toList.drop (iJ items.size 0 lo)).take (iJ items.size items.size hi - iJ items.size 0 lo)).toArray):=by
  show ((items.toList.drop (iJ items.size 0 lo)).take (iJ items.size items.size hi - iJ items.size 0 lo)).toArray.size≤sizeLine
  rw [List.size_toArray,List.length_take,List.length_drop,Array.length_toList]
  omega
 have hj:iJ items.size items.size hi≤items.size:=OX _ _ (Nat.le_refl _) hi
 obtain ⟨os,hos,hcs,hds⟩:=id hs
 have hTs:s.TypeIs (.ref sl) "slice":=⟨os,hos,hcs⟩
 unfold getItem
 try with_reducible refine wpAny_holding ?_
 first | refine wpAny_bind (wpAny_pure ?_) | skip
 refine wpAny_bind (wpAny_sequenceKey ht.typeIs (by decide) ?_)
 refine wpAny_bind (wpAny_callSpecial?_slot (name:=Str.ofString "__getitem__") ht.typeIs PyProof.Rows.slot_tuple_getitem
  (wpAny_call_entry PyProof.Rows.slot_tuple_getitem ht.typeIs entry_tuple_getitem ?_ (args_tuple_getitem _ _)))
 show wpAny _ _ (Builtin.Tuple.tupleItemsOf (.ref t) >>= _) _ _ s
 refine wpAny_bind (tupleItemsOf_ ht ?_)
 refine wpAny_bind (wpAny_typeOf hTs ?_)
 rw [if_pos (by decide)]
 refine wpAny_bind (qB hs pl pu ?_)
 have hno:¬ ((((iJ items.size 0 lo:Nat):Int) == 0 && (1:Int) == 1 && (iJ items.size items.size hi - iJ items.size 0 lo) == items.size)=true):=by
  intro q
  rw [Bool.and_eq_true,Bool.and_eq_true] at q
  have q1:((iJ items.size 0 lo:Nat):Int)=0:=eq_of_beq q.1.1
  have q2:iJ items.size items.size hi - iJ items.size 0 lo=items.size:=eq_of_beq q.2
  exact hw ⟨by omega,by omega⟩
 show wpAny _ _ (if (((iJ items.size 0 lo:Nat):Int) == 0 && (1:Int) == 1 && (iJ items.size items.size hi - iJ items.size 0 lo) == items.size)=true then _ else _) _ _ s
 rw [if_neg hno,HD]
 first
  | exact wpAny_bind (m:=Builtin.Tuple.tupleExact _) (wpAny_newObj_type (wpAny_pure ⟨_,rfl,wpAny_pure h⟩) DN)
  | exact wpAny_bind (m:=Builtin.Tuple.tupleExact _) (wpAny_newObj_type (wpAny_bind (wpAny_pure (wpAny_pure ⟨_,rfl,wpAny_pure h⟩))) DN)
  | exact wpAny_bind (wpAny_bind (m:=Builtin.Tuple.tupleExact _) (wpAny_newObj_type (wpAny_pure (wpAny_pure ⟨_,rfl,wpAny_pure h⟩)) DN))
  | exact wpAny_bind (wpAny_bind (m:=Builtin.Tuple.tupleExact _) (wpAny_newObj_type (wpAny_pure ⟨_,rfl,wpAny_pure h⟩) DN))
end
end HT
namespace L2
open PySem PySem.Spec PyProof.Rows
abbrev TO:=St→Hp→(Option Int→Hp→Prop)→Prop
def PO (X:Cx) (e:Option Expr) (t:TO):Prop :=
 ∀ (pins:List (Addr×Obj)) (s:Shared) (σ:St) (H:Hp) (Q:Option Int→Hp→Prop),Inv X pins σ H s→t σ H Q →
  wpAny (model X.prog X.w) X.A (evalPart e X.env) (fun u s'=>∃ o H',Inv X pins σ H' s'∧IsPart u o∧Q o H') X.xe s
def K2:TO:=fun _ H Q=>Q none H
def R3 (t:TE):TO:=fun σ H Q=>t σ H fun x H1=>∃ i,x=.int i∧Q (some i) H1
theorem intsAre_of {ns:List Int}:∀ {us:List Value},Vals (ns.map V.int) us→IntsAre us ns:=by
 induction ns with
 | nil=>intro us r;rw [List.map_nil] at r;cases r;exact .nil
 | cons n ns ih =>
  intro us r
  rw [List.map_cons] at r
  cases r with
  | cons r1 r2 =>
   obtain ⟨t,e⟩:=r1
   subst e
   exact .cons n t (ih r2)
section
variable {X:Cx} {e:Expr} {te:TE} {lo hi:Option Expr} {tl th:TO} {pos p2:Pos}
theorem yt:PO X none K2:=by
 intro pins s σ H Q I h
 rw [evalPart_none]
 exact wpAny_pure ⟨none,H,I,.none,h⟩
theorem yr (h:PE X e te):PO X (some e) (R3 te):=by
 intro pins s σ H Q I hw
 rw [evalPart_some]
 refine cy (h pins s σ H _ I hw) fun u s1 ⟨x,H1,I1,r1,q1⟩=>?_
 obtain ⟨i,rfl,q⟩:=q1
 obtain ⟨t,rfl⟩:=r1
 exact ⟨some i,H1,I1,.int i t,q⟩
def SlR (X:Cx) (r:V→Option Int→Option Int→Hp→VK→Prop):Prop :=
 ∀ (pins:List (Addr×Obj)) (s:Shared) (σ:St) (H:Hp) (x:V) (v vl vu:Value) (lo hi:Option Int) (sl:Addr) (Q:VK),Inv X pins σ H s→RelV x v→s.heap.IsSliceOf sl vl vu .none→IsPart vl lo→IsPart vu hi→r x lo hi H Q →
  ∃ T id,typeLookup (.type T) "__getitem__"=pure (some (.builtin id))∧s.TypeIs v T∧wpAny (model X.prog X.w) X.A (getItem v (.ref sl)) (EP X pins σ Q) X.xe s
def tSl (r:V→Option Int→Option Int→Hp→VK→Prop) (te:TE) (tl th:TO):TE:=fun σ H Q=>te σ H fun x H1=>tl σ H1 fun l H2=>th σ H2 fun u H3=>r x l u H3 Q
theorem uE {r:V→Option Int→Option Int→Hp→VK→Prop} (hr:SlR X r) (he:PE X e te) (hl:PO X lo tl) (hu:PO X hi th):PE X (.Subscript e (.Slice lo hi none p2) pos) (tSl r te tl th):=by
 intro pins s σ H Q I h
 refine Subscript_ (cy (he pins s σ H _ I h) fun v s1 ⟨x,H1,I1,r1,q1⟩=>?_)
 refine wpAny_Slice (cy (hl pins s1 σ H1 _ I1 q1) fun vl s2 ⟨l,H2,I2,pl,q2⟩=>cy (hu pins s2 σ H2 _ I2 q2) fun vu s3 ⟨u,H3,I3,pu,q3⟩=>?_)
 rw [evalPart_none]
 refine wpAny_pure ?_
 have I4:Inv X pins σ H3 { s3 with heap:=s3.heap.push { cls:=.type "slice",data:=.fields #[vl,vu,.none] } }:=I3.kept (t':=s3.toks) fun b ob q=>Heap.get?_push_of_some _ q
 obtain ⟨T,id,hT,ht,hg⟩:=hr pins { s3 with heap:=s3.heap.push { cls:=.type "slice",data:=.fields #[vl,vu,.none] } } σ H3 x v vl vu l u s3.heap.objs.size Q I4 r1 (Heap.IsSliceOf.new ..) pl pu q3
 show wpAny (model X.prog X.w) X.A (subscriptTail e (.Slice lo hi none p2) v (.ref s3.heap.objs.size)) (EP X pins σ Q) X.xe { s3 with heap:=s3.heap.push { cls:=.type "slice",data:=.fields #[vl,vu,.none] } }
 exact tail_any (ops:=[.ref s3.heap.objs.size,v]) ht hT hg (by with_unfolding_all rfl)
def E6 (xs:List V) (lo hi:Option Int):List V:=(xs.drop (HT.iJ xs.length 0 lo)).take (HT.iJ xs.length xs.length hi - HT.iJ xs.length 0 lo)
theorem AM (xs:List V) (lo hi:Option Int):(E6 xs lo hi).length≤xs.length:=by
 unfold E6
 rw [List.length_take,List.length_drop]
 omega
def Zx (K:PySem.W.Frag):V→Option Int→Option Int→Hp→VK→Prop:=fun x lo hi H Q=>∃ a xs,x=.ref a∧aV K H a xs ∧
 ¬ (HT.iJ xs.length 0 lo=0∧HT.iJ xs.length xs.length hi=xs.length)∧∀ p,H p=none→Q (.ref p) (upd H p (.tup (E6 xs lo hi)))
theorem By:SlR X (Zx X.K):=by
 intro pins s σ H x v vl vu lo hi sl Q I rx hs pl pu h
 obtain ⟨a,xs,rfl,hx,hw,q⟩:=h
 cases rx
 obtain ⟨its,r,ht,hz⟩:=I.tuple hx
 have hlen:its.toArray.size=xs.length:=by rw [List.size_toArray];exact r.length.symm
 refine ⟨"tuple",_,PyProof.Rows.slot_tuple_getitem.lookup,ht.typeIs,?_⟩
 refine HT.pX ht hs pl pu (by rw [hlen];exact hw) ?_ (by rw [hlen];exact hz)
 rw [hlen]
 refine ⟨.ref s.heap.objs.size,_,I.laid (t':=s.toks) (o:=.tup (E6 xs lo hi)) (fun b ob q=>Heap.get?_push_of_some _ q) (Nat.le_refl _) ?_,rfl,q _ (I.hok.fresh (Nat.le_refl _))⟩
 exact ⟨Nat.le_trans (AM xs lo hi) hz,_,(r.drop (HT.iJ xs.length 0 lo)).take (HT.iJ xs.length xs.length hi - HT.iJ xs.length 0 lo),IsTup.new _ _⟩
def SE (K:PySem.W.Frag):R2:=fun x y H Q=>∃ a b xs ys,x=.ref a∧y=.ref b∧aV K H a xs∧aV K H b ys∧xs≠[]∧xs.length+ys.length≤sizeLine ∧
 (ys=[]→Q (.ref a) H)∧(ys≠[]→∀ p,H p=none→Q (.ref p) (upd H p (.tup (xs++ys))))
theorem Vals.sS {xs:List V} {us:List Value} (r:Vals xs us):us=[]↔xs=[]:=by
 cases r with
 | nil=>simp
 | cons _ _=>simp
theorem Lw:oB X (binaryOp .Add) (SE X.K):=by
 intro pins s σ H x y v u Q I rx ry h
 obtain ⟨a,b,xs,ys,rfl,rfl,ha,hb,hx,hz,q1,q2⟩:=h
 cases rx
 cases ry
 obtain ⟨its,r1,p1,_⟩:=I.tuple ha
 obtain ⟨its2,r2,p2,_⟩:=I.tuple hb
 refine HT.MY p1 p2 (fun z=>hx (r1.sS.mp z)) (fun z=>⟨.ref a,H,I,rfl,q1 (r2.sS.mp z)⟩) (fun z=>?_) (by rw [← r1.length,← r2.length];exact hz)
 refine ⟨.ref s.heap.objs.size,_,I.laid (t':=s.toks) (o:=.tup (xs++ys)) (fun b ob q=>Heap.get?_push_of_some _ q) (Nat.le_refl _) ?_,rfl,q2 (fun w=>z (r2.sS.mpr w)) _ (I.hok.fresh (Nat.le_refl _))⟩
 exact ⟨by rw [List.length_append];exact hz,_,r1.append r2,IsTup.new _ _⟩
end
end L2
namespace L2
open PySem PySem.Spec PyProof.Rows
def JB (n:Nat) (i:Int):Option Nat:=if 0≤i then (if i < n then some i.toNat else none) else if -(n:Int)≤i then some (i+n).toNat else none
def xM {α:Type} (xs:List α) (i:Int):Option α:=(JB xs.length i).bind fun j=>xs[j]?
theorem DJ {n:Nat} {i:Int} {j:Nat} (h:JB n i=some j):seqIndex? i n=some j∧j < n∧-(n:Int)≤i∧i < n:=by
 unfold JB at h
 by_cases h0:0≤i
 ·rw [if_pos h0] at h
  by_cases h1:i < n
  ·rw [if_pos h1] at h
   have e:i.toNat=j:=Option.some.inj h
   exact ⟨by rw [seqIndex_of h0 h1,e],by omega,by omega,h1⟩
  ·rw [if_neg h1] at h;cases h
 ·rw [if_neg h0] at h
  by_cases h1:-(n:Int)≤i
  ·rw [if_pos h1] at h
   have e:(i+n).toNat=j:=Option.some.inj h
   exact ⟨by rw [seqIndex_neg (by omega) h1,e],by omega,h1,by omega⟩
  ·rw [if_neg h1] at h;cases h
theorem zh {α:Type} {xs:List α} {i:Int} {v:α} (h:xM xs i=some v):∃ j,seqIndex? i xs.length=some j∧xs[j]?=some v∧j < xs.length∧-(xs.length:Int)≤i∧i < xs.length:=by
 unfold xM at h
 cases e:JB xs.length i with
 | none=>rw [e] at h;cases h
 | some j =>
  rw [e] at h
  obtain ⟨h1,h2,h3,h4⟩:=DJ e
  exact ⟨j,h1,h,h2,h3,h4⟩
theorem dJ {α:Type} {xs:List α} {j:Nat} {v:α} (h:xs[j]?=some v):xM xs (j:Int)=some v:=by
 have hj:j < xs.length:=(List.getElem?_eq_some_iff.mp h).1
 have e:JB xs.length (j:Int)=some j:=by
  unfold JB
  rw [if_pos (by omega),if_pos (by omega)];simp
 unfold xM;rw [e];exact h
theorem Kn {α:Type} (xs:List α) (v:α):xM (xs++[v]) (-1)=some v:=by
 have hl:(xs++[v]).length=xs.length+1:=by simp
 have e:JB (xs++[v]).length (-1)=some xs.length:=by
  unfold JB
  rw [hl,if_neg (by decide),if_pos (by omega)]
  congr 1
  omega
 unfold xM
 rw [e]
 show (xs++[v])[xs.length]?=some v
 simp
def Nb (b:Expr):Prop:=∀ o i,subscripted b false o i=operate [o,i] (getItem o i)
def RX (X:Cx) (r:R2):Prop :=
 ∀ (value slice:Expr) (pins:List (Addr×Obj)) (s:Shared) (σ:St) (H:Hp) (x y:V) (v u:Value) (Q:VK),Inv X pins σ H s→RelV x v→RelV y u→r x y H Q →
  subscripted slice false v u=operate [v,u] (getItem v u)→wpAny (model X.prog X.w) X.A (subscriptTail value slice v u) (EP X pins σ Q) X.xe s
def MtR (X:Cx) (id:String) (r:V→List V→Hp→VK→Prop):Prop :=
 ∀ (pins:List (Addr×Obj)) (s:Shared) (σ:St) (H:Hp) (x:V) (xs:List V) (v:Value) (us:List Value) (Q:VK),Inv X pins σ H s→RelV x v→Vals xs us→r x xs H Q →
  wpAny (model X.prog X.w) X.A (call (.builtin id) (v::us)) (EP X pins σ Q) X.xe s
section
variable {X:Cx} {a b:Expr} {ta tb:TE} {pos:Pos}
theorem aM {r:R2} (hr:RX X r) (ha:PE X a ta) (hb:PE X b tb) (hs:Nb b):PE X (.Subscript a b pos) (R6 r ta tb):=by
 intro pins s σ H Q I h
 exact Subscript_ (QY ha hb I h fun v u s2 x y H2 I2 rx ry q=>hr a b pins s2 σ H2 x y v u Q I2 rx ry q (hs _ _))
def SA (K:PySem.W.Frag):R2:=fun x y H Q=>∃ p xs i v,x=.ref p∧y=.int i∧bx K H p xs∧xM xs i=some v∧Q v H
def Sz (K:PySem.W.Frag):R2:=fun x y H Q=>∃ p xs i v,x=.ref p∧y=.int i∧aV K H p xs∧xM xs i=some v∧Q v H
def Zz:R2:=fun x y H Q=>∃ z i c,x=.str z∧y=.int i∧z.length≤sizeLine∧xM z.cps.toList i=some c∧Q (.str ⟨#[c]⟩) H
theorem bZ:RX X (SA X.K):=by
 intro value slice pins s σ H x y v u Q I rx ry h hs
 obtain ⟨p,xs,i,z,rfl,rfl,hq,he,q⟩:=h
 cases rx
 obtain ⟨t,rfl⟩:=ry
 obtain ⟨its,r,pl,hz⟩:=I.list hq
 obtain ⟨j,h1,h2,h3,h4,h5⟩:=zh he
 obtain ⟨w,ew,rw'⟩:=r.get h2
 have hl:=r.length
 have hn:=qR
 have fin:EP X pins σ Q w s:=⟨z,H,I,rw',q⟩
 by_cases h0:0≤i
 ·have hj:i.toNat=j:=by
   rw [seqIndex_of h0 h5] at h1
   exact Option.some.inj h1
  exact item_listR pl.isList h0 (by omega) (by rw [hj];simpa using ew) fin hs
 ·have hj:(i+(its.toArray.size:Int)).toNat=j:=by
   rw [seqIndex_neg (by omega) h4] at h1
   rw [List.size_toArray,← hl]
   exact Option.some.inj h1
  exact subscriptTail_builtinR (x:=w) pl.isList.typeIs slot_list_getitem.lookup
   (wpAny_getItem_list_neg (Q:=fun r s'=>r=w∧EP X pins σ Q r s') pl.isList (by omega) (by rw [List.size_toArray] <;> omega) (by omega) (by rw [hj];simpa using ew) ⟨rfl,fin⟩) hs
theorem aR:RX X (Sz X.K):=by
 intro value slice pins s σ H x y v u Q I rx ry h hs
 obtain ⟨p,xs,i,z,rfl,rfl,hq,he,q⟩:=h
 cases rx
 obtain ⟨t,rfl⟩:=ry
 obtain ⟨its,r,pl,hz⟩:=I.tuple hq
 obtain ⟨j,h1,h2,h3,h4,h5⟩:=zh he
 obtain ⟨w,ew,rw'⟩:=r.get h2
 have hl:=r.length
 have hn:=qR
 have fin:EP X pins σ Q w s:=⟨z,H,I,rw',q⟩
 exact subscriptTail_builtinR (x:=w) pl.typeIs slot_tuple_getitem.lookup
  (getItem_tuple (j:=j) (Q:=fun r s'=>r=w∧EP X pins σ Q r s') pl (by omega) (by omega) (by rw [List.size_toArray,← hl];exact h1) (by simpa using ew) ⟨rfl,fin⟩) hs
theorem yR:RX X Zz:=by
 intro value slice pins s σ H x y v u Q I rx ry h hs
 obtain ⟨z,i,c,rfl,rfl,hz,he,q⟩:=h
 obtain ⟨t,rfl⟩:=rx
 obtain ⟨t',rfl⟩:=ry
 obtain ⟨j,h1,h2,h3,h4,h5⟩:=zh he
 have hl:z.cps.toList.length=z.length:=by simp [Str.length]
 rw [hl] at h1 h4 h5
 have hn:=qR
 exact tail_any (typeIs_str s z t) slot_str_getitem.lookup (getItem_str (c:=c) (by
  have e1:decide (i < -(2 ^ 63:Int))=false:=decide_eq_false (by omega)
  have e2:decide (i ≥ 2 ^ 63)=false:=decide_eq_false (by omega)
  rw [e1,e2,Bool.or_false]) (by rw [h1];simpa using h2) ⟨.str ⟨#[c]⟩,H,I.tok _,⟨_,rfl⟩,q⟩) hs
theorem BR (its:List Value) (n j:Nat) (u:Value):Obj.mapSeq (·.setIfInBounds j u) { cls:=.type "list",data:=.seq its.toArray n }={ cls:=.type "list",data:=.seq (its.set j u).toArray n }:=by
 simp [Obj.mapSeq]
theorem Inv.lst {pins:List (Addr×Obj)} {σ:St} {H:Hp} {s:Shared} {p:Addr} {xs:List V} (I:Inv X pins σ H s) (h:H p=some (.lst xs)) :
  ∃ (its:List Value) (n:Nat),Vals xs its∧s.heap.get? p=some { cls:=.type "list",data:=.seq its.toArray n }∧xs.length≤sizeLine:=by
 obtain ⟨z,its,n,r,e⟩:=I.hok p _ h
 exact ⟨its,n,r,e,z⟩
theorem Inv.PL {pins:List (Addr×Obj)} {σ:St} {H:Hp} {s:Shared} {p:Addr} {xs ys:List V} {its its':List Value} {n n':Nat} {f:Obj→Obj} (I:Inv X pins σ H s) (h:H p=some (.lst xs))
  (ho:s.heap.get? p=some { cls:=.type "list",data:=.seq its.toArray n }) (hf:f { cls:=.type "list",data:=.seq its.toArray n }={ cls:=.type "list",data:=.seq its'.toArray n' }) (r:Vals ys its') (hz:ys.length≤sizeLine) (t:Nat) :
  Inv X pins σ (upd H p (.lst ys)) { s with heap:=s.heap.update p f,toks:=t }:=by
 have e:(s.heap.update p f).get? p=some { cls:=.type "list",data:=.seq its'.toArray n' }:=by
  rw [Heap.get?_update_self f ho (by rw [hf] <;> rfl),hf]
 refine I.write (x:=p) (e:=p) (by rw [h];trivial) (.inl rfl) (fun b u hb q=>(Heap.get?_update_other _ _ (Ne.symm hb)).trans q) ⟨_,e⟩ ?_
 exact ⟨hz,its',n',r,e⟩
def Sy:V→V→V→Hp→(Hp→Prop)→Prop:=fun o i v H Q=>∃ p xs k j,o=.ref p∧i=.int k∧H p=some (.lst xs)∧JB xs.length k=some j∧Q (upd H p (.lst (xs.set j v)))
theorem set_list:Q7 X Sy:=by
 intro pins s σ H o i v ov iv u Q I ro ri rv h
 obtain ⟨p,xs,k,j,rfl,rfl,hp,hj,q⟩:=h
 cases ro
 obtain ⟨t,rfl⟩:=ri
 obtain ⟨its,n,r,ho,hz⟩:=I.lst hp
 obtain ⟨h1,h2,h3,h4⟩:=DJ hj
 have hl:=r.length
 have hn:=qR
 have I':Inv X pins σ (upd H p (.lst (xs.set j v))) { s with heap:=s.heap.update p (Obj.mapSeq (·.setIfInBounds j u)) } :=
  I.PL hp ho (BR its n j u) (r.set rv j) (by rw [List.length_set];exact hz) s.toks
 by_cases h0:0≤k
 ·have hk:k.toNat=j:=by
   rw [seqIndex_of h0 h4] at h1
   exact Option.some.inj h1
  exact PySem.W.ki_setAt ho h0 (by omega) (by rw [List.size_toArray,← hl];exact h4) (by rw [hk];exact ⟨_,I',q⟩)
 ·have hk:(k+(its.toArray.size:Int)).toNat=j:=by
   rw [seqIndex_neg (by omega) h3] at h1
   rw [List.size_toArray,← hl]
   exact Option.some.inj h1
  exact PySem.W.ki_setBack ho (by omega) (by rw [List.size_toArray,← hl];exact h3) (by omega) (by rw [hk];exact ⟨_,I',q⟩)
def iF:V→Bool
 | .eX=>true
 | .bl _=>true
 | .int _=>true
 | .str _=>true
 | _=>false
def A9:V→V→Bool
 | .eX,.eX=>true
 | .bl a,.bl b=>a == b
 | .bl a,.int b=>(if a then 1 else 0) == b
 | .int a,.bl b=>a == (if b then 1 else 0)
 | .int a,.int b=>a == b
 | .str a,.str b=>a == b
 | _,_=>false
theorem JZ {A:Around} {s:Shared} {y x:V} {u v:Value} (ry:RelV y u) (rx:RelV x v) (fy:iF y=true) (fx:iF x=true):SeqAt.EqAt A s u v (A9 y x):=by
 cases y with
 | eX =>
  cases ry
  cases x with
  | eX=>cases rx;exact SeqAt.EqAt.same _
  | bl b=>cases rx;exact SeqAt.EqAt.none_bool b
  | int b=>obtain ⟨t,rfl⟩:=rx;exact SeqAt.EqAt.none_int b t
  | str b=>obtain ⟨t,rfl⟩:=rx;exact SeqAt.EqAt.none_str b t
  | _=>exact absurd (show false=true from fx) Bool.false_ne_true
 | bl a =>
  cases ry
  cases x with
  | eX=>cases rx;exact SeqAt.EqAt.bool_none a
  | bl b=>cases rx;exact SeqAt.EqAt.bool_bool a b
  | int b=>obtain ⟨t,rfl⟩:=rx;exact SeqAt.EqAt.bool_int a b t
  | str b=>obtain ⟨t,rfl⟩:=rx;exact SeqAt.EqAt.bool_str a b t
  | _=>exact absurd (show false=true from fx) Bool.false_ne_true
 | int a =>
  obtain ⟨t',rfl⟩:=ry
  cases x with
  | eX=>cases rx;exact SeqAt.EqAt.int_none a t'
  | bl b=>cases rx;exact SeqAt.EqAt.int_bool a t' b
  | int b=>obtain ⟨t,rfl⟩:=rx;exact SeqAt.EqAt.int_int a t' b t
  | str b=>obtain ⟨t,rfl⟩:=rx;exact SeqAt.EqAt.int_str a t' b t
  | _=>exact absurd (show false=true from fx) Bool.false_ne_true
 | str a =>
  obtain ⟨t',rfl⟩:=ry
  cases x with
  | eX=>cases rx;exact SeqAt.EqAt.str_none a t'
  | bl b=>cases rx;exact SeqAt.EqAt.str_bool a t' b
  | int b=>obtain ⟨t,rfl⟩:=rx;exact SeqAt.EqAt.str_int a t' b t
  | str b=>obtain ⟨t,rfl⟩:=rx;exact SeqAt.EqAt.str_str a t' b t
  | _=>exact absurd (show false=true from fx) Bool.false_ne_true
 | _=>exact absurd (show false=true from fy) Bool.false_ne_true
def Cr (x:V) (u:Value):Bool:=match u with
 | .none=>A9 .eX x
 | .bool b=>A9 (.bl b) x
 | .int i _=>A9 (.int i) x
 | .str z _=>A9 (.str z) x
 | _=>false
theorem JY {x y:V} {u:Value} (r:RelV y u) (f:iF y=true):Cr x u=A9 y x:=by
 cases y with
 | eX=>cases r;rfl
 | bl b=>cases r;rfl
 | int i=>obtain ⟨t,rfl⟩:=r;rfl
 | str z=>obtain ⟨t,rfl⟩:=r;rfl
 | _=>exact absurd (show false=true from f) Bool.false_ne_true
theorem qk {x:V}:∀ {xs:List V} {us:List Value},Vals xs us→xs.all iF=true→us.any (Cr x)=xs.any fun y=>A9 y x
 | _,_,.nil,_=>rfl
 | y::xs,u::us,.cons r t,f=>by
  rw [List.all_cons,Bool.and_eq_true] at f
  rw [List.any_cons,List.any_cons,JY r f.1,qk t f.2]
theorem lE {A:Around} {s:Shared} {x:V} {v:Value} (rx:RelV x v) (fx:iF x=true):∀ {xs:List V} {us:List Value},Vals xs us→xs.all iF=true→∀ u∈us,SeqAt.EqAt A s u v (Cr x u)
 | _,_,.nil,_=>fun u hu=>by cases hu
 | y::xs,u::us,.cons r t,f=>fun u' hu=>by
  rw [List.all_cons,Bool.and_eq_true] at f
  rcases List.mem_cons.mp hu with rfl | hu
  ·rw [JY r f.1];exact JZ r rx f.1 fx
  ·exact lE rx fx t f.2 u' hu
def m8 (x:V) (xs:List V):Bool:=xs.any fun y=>A9 y x
def ZC (K:PySem.W.Frag) (neg:Bool):R2:=fun x y H Q=>∃ p xs,y=.ref p∧(bx K H p xs∨aV K H p xs)∧iF x=true∧xs.all iF=true∧Q (.bl (if neg then !m8 x xs else m8 x xs)) H
theorem jk:oB X (compareOp .In) (ZC X.K false):=by
 intro pins s σ H x y v u Q I rx ry h
 obtain ⟨p,xs,rfl,hq,fx,fs,q⟩:=h
 cases ry
 rcases hq with hq | hq
 ·obtain ⟨its,r,pl,hz⟩:=I.list hq
  refine SeqAt.in_listAt (Cr x) pl.isList (fun w hw=>lE rx fx r fs w (by simpa using hw)) ⟨.bl _,H,I,rfl,?_⟩
  rw [show its.toArray.any (Cr x)=its.any (Cr x) by simp,qk r fs]
  exact q
 ·obtain ⟨its,r,pl,hz⟩:=I.tuple hq
  refine SeqAt.in_tupleAt (Cr x) pl (fun w hw=>lE rx fx r fs w (by simpa using hw)) ⟨.bl _,H,I,rfl,?_⟩
  rw [show its.toArray.any (Cr x)=its.any (Cr x) by simp,qk r fs]
  exact q
theorem jN:oB X (compareOp .NotIn) (ZC X.K true):=by
 intro pins s σ H x y v u Q I rx ry h
 obtain ⟨p,xs,rfl,hq,fx,fs,q⟩:=h
 cases ry
 rcases hq with hq | hq
 ·obtain ⟨its,r,pl,hz⟩:=I.list hq
  refine SeqAt.notIn_listAt (Cr x) pl.isList (fun w hw=>lE rx fx r fs w (by simpa using hw)) ⟨.bl _,H,I,rfl,?_⟩
  rw [show its.toArray.any (Cr x)=its.any (Cr x) by simp,qk r fs]
  exact q
 ·obtain ⟨its,r,pl,hz⟩:=I.tuple hq
  refine SeqAt.notIn_tupleAt (Cr x) pl (fun w hw=>lE rx fx r fs w (by simpa using hw)) ⟨.bl _,H,I,rfl,?_⟩
  rw [show its.toArray.any (Cr x)=its.any (Cr x) by simp,qk r fs]
  exact q
theorem bX:iI X (.builtin "len") (fun xs H Q=>∃ p ys,xs=[.ref p]∧(bx X.K H p ys∨aV X.K H p ys)∧Q (.int ys.length) H):=by
 intro pins s σ H xs us Q I r h
 obtain ⟨p,ys,rfl,hq,q⟩:=h
 obtain ⟨u,rfl,rx⟩:=vals1 r
 cases rx
 have hn:=qR
 rcases hq with hq | hq
 ·obtain ⟨its,r',pl,hz⟩:=I.list hq
  have hlen:=r'.length
  exact Calls.call_len_list pl.isList (by simp only [List.size_toArray] <;> omega) ⟨.int ys.length,H,I.tok _,⟨s.toks+1,by rw [List.size_toArray,hlen]⟩,q⟩
 ·obtain ⟨its,r',pl,hz⟩:=I.tuple hq
  have hlen:=r'.length
  exact len_tuple pl (by simp only [List.size_toArray] <;> omega) ⟨.int ys.length,H,I.tok _,⟨s.toks+1,by rw [List.size_toArray,hlen]⟩,q⟩
theorem jX:iI X (.type "list") (fun xs H Q=>∃ p ys,xs=[.ref p]∧(bx X.K H p ys∨aV X.K H p ys)∧∀ l,H l=none→Q (.ref l) (upd H l (.lst ys))):=by
 intro pins s σ H xs us Q I r h
 obtain ⟨p,ys,rfl,hq,q⟩:=h
 obtain ⟨u,rfl,rx⟩:=vals1 r
 cases rx
 have fin:∀ (its:List Value),Vals ys its→ys.length≤sizeLine→∀ (h':Heap) (c':Nat),(∀ b o',s.heap.get? b=some o'→h'.get? b=some o') →
   h'.get? s.heap.objs.size=some { cls:=.type "list",dict:=none,data:=.seq its.toArray c',slots:=#[] }→EP X pins σ Q (.ref s.heap.objs.size) { s with heap:=h' }:=fun its r' hz h' c' kp e =>
  ⟨.ref s.heap.objs.size,_,I.laid (t':=s.toks) kp (Nat.le_refl _) (show cD X.prog X.w _ h' _ (.lst ys) from ⟨hz,its,c',r',e⟩),rfl,q _ (I.hok.fresh (Nat.le_refl _))⟩
 rcases hq with hq | hq
 ·obtain ⟨its,r',pl,hz⟩:=I.list hq
  have hlen:=r'.length
  obtain ⟨o,ho,hc,n,hd⟩:=pl.isList
  exact call_list_seq p (.inl rfl) ho hc hd (fun h' c' kp e=>fin its r' hz h' c' kp e) (by simp only [List.size_toArray] <;> omega)
 ·obtain ⟨its,r',pl,hz⟩:=I.tuple hq
  have hlen:=r'.length
  obtain ⟨o,ho,hc,n,hd⟩:=pl
  exact call_list_seq p (.inr rfl) ho hc hd (fun h' c' kp e=>fin its r' hz h' c' kp e) (by simp only [List.size_toArray] <;> omega)
theorem bT:iI X (.type "tuple") (fun xs H Q=>∃ p ys,xs=[.ref p]∧((bx X.K H p ys∧∀ l,H l=none→Q (.ref l) (upd H l (.tup ys)))∨(aV X.K H p ys∧Q (.ref p) H))):=by
 intro pins s σ H xs us Q I r h
 obtain ⟨p,ys,rfl,h⟩:=h
 obtain ⟨u,rfl,rx⟩:=vals1 r
 cases rx
 rcases h with ⟨hq,q⟩ | ⟨hq,q⟩
 ·obtain ⟨its,r',pl,hz⟩:=I.list hq
  have hlen:=r'.length
  refine call_tuple_list pl.isList (fun h' kp=>?_) (by simp only [List.size_toArray] <;> omega)
  have I1:Inv X pins σ H { s with heap:=h' }:=I.kept (t':=s.toks) kp
  have I2:Inv X pins σ (upd H h'.objs.size (.tup ys)) { s with heap:=h'.push { cls:=.type "tuple",data:=.seq its.toArray } } :=
   I1.laid (t':=s.toks) (fun b o e=>Heap.get?_push_of_some _ e) (Nat.le_refl _) (show cD X.prog X.w _ _ _ (.tup ys) from ⟨hz,its,r',IsTup.new _ _⟩)
  exact ⟨.ref h'.objs.size,_,I2,rfl,q _ (I1.hok.fresh (Nat.le_refl _))⟩
 ·obtain ⟨its,r',pl,hz⟩:=I.tuple hq
  exact call_tuple_same pl ⟨.ref p,H,I,rfl,q⟩
def Yh (K:PySem.W.Frag) (T:String) (x:V) (H:Hp):Prop:=match x with
 | .str _=>T="str"
 | .int _=>T="int"
 | .ref p=>(T="list"∧∃ xs,bx K H p xs)∨(T="tuple"∧∃ o,K.lookup p=some o∧o.cls=.type "tuple"∧o.dict=none) ∨
   (T="dict"∧((∃ kvs,H p=some (.dK kvs))∨∃ kvs,H p=some (.dT kvs)))∨(T="set"∧∃ S n,H p=some (.set S n))
 | _=>False
theorem GQ {pins:List (Addr×Obj)} {σ:St} {H:Hp} {s:Shared} {T:String} {x:V} {v:Value} (I:Inv X pins σ H s) (r:RelV x v) (ty:Yh X.K T x H) :
  s.TypeIs v T∧∀ a,v=.ref a→∃ ob,s.heap.get? a=some ob∧ob.dict=none:=by
 cases x with
 | str z =>
  obtain ⟨t,rfl⟩:=r
  cases (show T="str" from ty)
  exact ⟨typeIs_str s z t,fun _ e=>nomatch e⟩
 | int i =>
  obtain ⟨t,rfl⟩:=r
  cases (show T="int" from ty)
  exact ⟨typeIs_int s i t,fun _ e=>nomatch e⟩
 | ref p =>
  cases r
  rcases ty with ⟨rfl,xs,hq⟩ | ⟨rfl,o,hk,hc,hd⟩ | ⟨rfl,hk⟩ | ⟨rfl,S,n,hk⟩
  ·obtain ⟨its,_,pl,_⟩:=I.list hq
   refine ⟨pl.isList.typeIs,fun a e=>?_⟩
   cases e
   obtain ⟨o,n,e,c,hd,_⟩:=pl
   exact ⟨o,e,hd⟩
  ·refine ⟨⟨o,I.iX p o hk,hc⟩,fun a e=>?_⟩
   cases e
   exact ⟨o,I.iX _ o hk,hd⟩
  ·have z:∃ o,s.heap.get? p=some o∧o.ExactDict:=by
    rcases hk with ⟨kvs,hk⟩ | ⟨kvs,hk⟩
    ·obtain ⟨_,_,_,_,o,_,_,e,ex,_⟩:=I.hok p _ hk
     exact ⟨o,e,ex⟩
    ·obtain ⟨_,_,_,_,o,_,_,e,ex,_⟩:=I.hok p _ hk
     exact ⟨o,e,ex⟩
   obtain ⟨o,e,ex⟩:=z
   refine ⟨⟨o,e,ex.1⟩,fun a e2=>?_⟩
   cases e2
   exact ⟨o,e,ex.2.1⟩
  ·obtain ⟨o,_,_,_,e,ex,_⟩:=I.hok p _ hk
   refine ⟨⟨o,e,ex.1⟩,fun a e2=>?_⟩
   cases e2
   exact ⟨o,e,ex.2.1⟩
 | _=>exact False.elim ty
def Yr (K:PySem.W.Frag) (T:String) (r:V→List V→Hp→VK→Prop) (to:TE):TE:=fun σ H Q=>to σ H fun x H1=>Yh K T x H1∧r x [] H1 Q
def tBM (K:PySem.W.Frag) (T:String) (r:V→List V→Hp→VK→Prop) (to:TE) (t:TA):TE:=fun σ H Q=>to σ H fun x H1=>Yh K T x H1∧t σ H1 fun xs H2=>r x xs H2 Q
variable {o e:Expr} {es:List Expr} {to:TE} {t:TA} {name:Str} {apos cpos:Pos} {T id:String} {r:V→List V→Hp→VK→Prop}
theorem Pd (pa:PlainAttrs T) (slot:Slot T name id) (hty:typeOf (.builtin id)=pure (.type "method_descriptor")) (hm:MtR X id r) (ho:PE X o to)
  (hbase:attributeBase o name X.env (eval o X.env)=eval o X.env:=by rfl) (hline:(apos.endLine == cpos.line)=true:=by rfl):PE X (.Call (.Attribute o name apos) [] [] cpos) (Yr X.K T r to):=by
 intro pins s σ H Q I h
 refine wpAny_Call_method0_late hbase hline (cy (ho pins s σ H _ I h) fun v s1 ⟨x,H1,I1,r1,ty,q1⟩=>?_)
 obtain ⟨h1,h2⟩:=GQ I1 r1 ty
 exact ⟨T,id,pa,slot,hty,h1,h2,Calls.callWith_builtin rfl (PySem.evalArgs_none (hm pins s1 σ H1 x [] v [] Q I1 r1 .nil q1))⟩
theorem iS (pa:PlainAttrs T) (slot:Slot T name id) (hty:typeOf (.builtin id)=pure (.type "method_descriptor")) (hm:MtR X id r) (ho:PE X o to) (ha:PA X (e::es) t)
  (hbase:attributeBase o name X.env (eval o X.env)=eval o X.env:=by rfl)
  (hfew:((backTo cpos (starEach (e::es) X.env)).all (fun x=>!x.1) && (backToKw cpos (keywordEach [] X.env)).all (fun x=>x.1.isSome)
   && decide ((e::es).length+([]:List Keyword).length+(if ([]:List Keyword).isEmpty then 0 else 1) < 30))=true:=by rfl)
  (hline:(apos.endLine == cpos.line)=true:=by rfl) (hs:starEach (e::es) X.env=(false,eval e X.env)::starEach es X.env:=by rfl) (hplain:(backTo cpos (starEach es X.env)).any (·.1)=false:=by rfl) :
  PE X (.Call (.Attribute o name apos) (e::es) [] cpos) (tBM X.K T r to t):=by
 intro pins s σ H Q I h
 refine wpAny_Call_method_late hbase hfew hline rfl (cy (ho pins s σ H _ I h) fun v s1 ⟨x,H1,I1,r1,ty,q1⟩=>?_)
 obtain ⟨h1,h2⟩:=GQ I1 r1 ty
 refine ⟨T,id,pa,slot,hty,h1,h2,?_⟩
 have hA:=ha cpos pins s1 σ H1 _ I1 q1
 rw [hs] at hA ⊢
 refine Calls.callWith_builtin (by show (false || (backTo cpos (starEach es X.env)).any (·.1))=false;rw [hplain] <;> rfl) (Calls.evalArgs_plain ?_)
 exact cy hA fun us s2 ⟨vs,H2,I2,r2,q2⟩=>hm pins s2 σ H2 x vs v us Q I2 r1 r2 q2
end
end L2
namespace L2
open PySem PySem.Spec PyProof.Rows
def VM (X:Cx) (id:String) (r:V→List V→Hp→VK→Prop):Prop :=
 ∀ (pins:List (Addr×Obj)) (s:Shared) (σ:St) (H:Hp) (x:V) (xs:List V) (v:Value) (us:List Value) (Q:VK),Inv X pins σ H s→RelV x v→Vals xs us→r x xs H Q →
  wpAny (model X.prog X.w) X.A (call (.builtin id) (v::us)) (EP X pins σ Q) X.xe s
theorem Vals.one:∀ {x:V} {us:List Value},Vals [x] us→∃ u,us=[u]∧RelV x u
 | _,_,.cons r .nil=>⟨_,rfl,r⟩
theorem Vals.zero:∀ {us:List Value},Vals [] us→us=[]
 | _,.nil=>rfl
theorem Vals.eraseIdx:∀ {xs:List V} {us:List Value} (i:Nat),Vals xs us→Vals (xs.eraseIdx i) (us.eraseIdx i)
 | _,_,_,.nil=>.nil
 | _,_,0,.cons _ t=>t
 | _,_,i+1,.cons r t=>.cons r (Vals.eraseIdx i t)
theorem Vals.rep {xs:List V} {us:List Value} (h:Vals xs us):∀ k:Nat,Vals (List.replicate k xs).flatten (List.replicate k us).flatten
 | 0=>.nil
 | k+1=>by
  rw [List.replicate_succ,List.replicate_succ,List.flatten_cons,List.flatten_cons]
  exact Vals.append h (Vals.rep h k)
theorem xj {α:Type}:∀ (l:List α) (i:Nat),(l.eraseIdx i).length≤l.length
 | [],_=>Nat.le_refl _
 | _::_,0=>Nat.le_succ _
 | _::r,i+1=>Nat.succ_le_succ (xj r i)
theorem foldl_rep (its:List Value):∀ (k:Nat) (acc:List Value),
  List.foldl (fun x1 x2=>x1++x2) acc.toArray (List.replicate k its.toArray)=(acc++(List.replicate k its).flatten).toArray
 | 0,acc=>by simp
 | k+1,acc=>by
  have e:acc.toArray++its.toArray=(acc++its).toArray:=by simp
  have e2:(acc++its)++(List.replicate k its).flatten=acc++(List.replicate (k+1) its).flatten:=by
   rw [List.replicate_succ,List.flatten_cons,List.append_assoc]
  rw [← e2,← foldl_rep its k (acc++its),← e,List.replicate_succ,List.foldl_cons]
section
variable {X:Cx} {pins:List (Addr×Obj)} {σ:St} {H:Hp} {s:Shared} {l b:Addr} {xs ys zs:List V}
theorem Inv.Jb {its its':List Value} {n:Nat} {f:Array Value→Array Value} {t':Nat} (I:Inv X pins σ H s) (hH:H l=some (.lst xs))
  (e:s.heap.get? l=some { cls:=.type "list",data:=.seq its.toArray n }) (hf:f its.toArray=its'.toArray) (hv:Vals ys its') (hz:ys.length≤sizeLine) :
  Inv X pins σ (upd H l (.lst ys)) { s with heap:=s.heap.update l (Obj.mapSeq f),toks:=t' }:=by
 have q:=PySem.IsL.update e f
 rw [hf] at q
 refine I.write (x:=l) (e:=l) (by rw [hH];exact trivial) (.inl rfl) (fun b' u hb hu=>(Heap.get?_update_other s.heap (Obj.mapSeq f) (Ne.symm hb)).trans hu) ⟨_,q⟩ ?_
 exact ⟨hz,its',_,hv,q⟩
theorem Inv.Td {its:List Value} {t':Nat} (I:Inv X pins σ H s) (hv:Vals ys its) (hz:ys.length≤sizeLine) :
  Inv X pins σ (upd H s.heap.objs.size (.lst ys)) { s with heap:=s.heap.push { cls:=.type "list",data:=.seq its.toArray },toks:=t' } :=
 I.laid (fun _ _ q=>Heap.get?_push_of_some _ q) (Nat.le_refl _) ⟨hz,its,0,hv,Heap.get?_push_size _ rfl⟩
theorem Inv.fresh (I:Inv X pins σ H s):H s.heap.objs.size=none:=I.hok.fresh (Nat.le_refl _)
theorem Inv.yO (I:Inv X pins σ H s) (hH:H l=some (.lst xs)):xs.length≤sizeLine∧∃ (its:List Value) (n:Nat),Vals xs its∧xs.length=its.length∧s.heap.get? l=some { cls:=.type "list",data:=.seq its.toArray n }:=by
 obtain ⟨z,its,n,r,e⟩:=I.hok l _ hH
 exact ⟨z,its,n,r,r.length,e⟩
theorem uJ {n:Nat} (h:n≤sizeLine):Builtin.List.listTooLong n=false:=by
 unfold Builtin.List.listTooLong
 exact decide_eq_false (by omega)
end
section
variable {X:Cx}
def Lf:V→List V→Hp→VK→Prop:=fun x vs H Q=>∃ l xs y,x=.ref l∧vs=[y]∧H l=some (.lst xs)∧xs.length < sizeLine∧Q .eX (upd H l (.lst (xs++[y])))
theorem eS:VM X "list.append" Lf:=by
 intro pins s σ H x vs v us Q I rx rv h
 obtain ⟨l,xs,y,rfl,rfl,hH,hz,q⟩:=h
 cases rx
 obtain ⟨u,rfl,ru⟩:=rv.one
 obtain ⟨z,its,n,r,hl,e⟩:=I.yO hH
 refine call_meets F.slot_list_append ⟨_,e,rfl⟩ F.entry_list_append (F.args_list_append_2 _ _) (PySem.list_append l its.toArray n u (by rw [List.size_toArray];omega)) ⟨e,?_⟩
 refine ⟨.eX,_,I.Jb (its':=its++[u]) hH e (by simp) (r.append (.cons ru .nil)) ?_,rfl,q⟩
 rw [List.length_append,List.length_singleton]
 omega
def Ld:V→List V→Hp→VK→Prop:=fun x vs H Q=>∃ l b xs zs,x=.ref l∧vs=[.ref b]∧H l=some (.lst xs)∧H b=some (.lst zs)∧xs.length+zs.length≤sizeLine∧Q .eX (upd H l (.lst (xs++zs)))
theorem w4:VM X "list.extend" Ld:=by
 intro pins s σ H x vs v us Q I rx rv h
 obtain ⟨l,b,xs,zs,rfl,rfl,hH,hB,hz,q⟩:=h
 cases rx
 obtain ⟨u,rfl,ru⟩:=rv.one
 cases ru
 obtain ⟨z,its,n,r,hl,e⟩:=I.yO hH
 obtain ⟨z2,its2,n2,r2,hl2,e2⟩:=I.yO hB
 have hsz:its.toArray.size+its2.toArray.size≤sizeLine:=by rw [List.size_toArray,List.size_toArray];omega
 have AA:¬ (!its.toArray.isEmpty && Builtin.List.listTooLong (its.toArray.size+its2.toArray.size))=true:=by
  rw [uJ hsz,Bool.and_false]
  exact Bool.false_ne_true
 refine call_meets F.slot_list_extend ⟨_,e,rfl⟩ F.entry_list_extend (F.args_list_extend_2 _ _)
  (AutoSeq1.list_extend_list_list_0 l its.toArray n b its2.toArray n2 AA (by rw [List.size_toArray];omega) (by omega)) ⟨e,e2,?_⟩
 refine ⟨.eX,_,I.Jb (its':=its++its2) hH e (by simp) (r.append r2) ?_,rfl,q⟩
 rw [List.length_append]
 omega
def O2:V→List V→Hp→VK→Prop:=fun x vs H Q=>∃ l xs i k y,x=.ref l∧vs=[.int i]∧H l=some (.lst xs)∧-(2 ^ 63)≤i∧i < 2 ^ 63∧seqIndex? i xs.length=some k∧xs[k]?=some y∧Q y (upd H l (.lst (xs.eraseIdx k)))
theorem IK:VM X "list.pop" O2:=by
 intro pins s σ H x vs v us Q I rx rv h
 obtain ⟨l,xs,i,k,y,rfl,rfl,hH,h1,h2,hk,hy,q⟩:=h
 cases rx
 obtain ⟨u,rfl,ru⟩:=rv.one
 obtain ⟨t,rfl⟩:=ru
 obtain ⟨z,its,n,r,hl,e⟩:=I.yO hH
 obtain ⟨w,hw,rw'⟩:=r.get hy
 refine call_meets F.slot_list_pop ⟨_,e,rfl⟩ F.entry_list_pop (F.args_list_pop_2 _ _)
  (MeetsSeq.list_pop_at l its.toArray n i t k w (fitsIndex_both h1 h2) (by rw [List.size_toArray,← hl];exact hk) (by rw [← Array.getElem?_toList];exact hw) (by rw [List.size_toArray];omega)) ⟨e,?_⟩
 refine ⟨y,_,I.Jb (its':=its.eraseIdx k) hH e ?_ (r.eraseIdx k) ?_,rw',q⟩
 ·show its.toArray.eraseIdxIfInBounds k=(its.eraseIdx k).toArray
  rw [List.eraseIdxIfInBounds_toArray]
 ·have:=xj xs k
  omega
def O4:V→List V→Hp→VK→Prop:=fun x vs H Q=>∃ l xs,x=.ref l∧vs=[]∧H l=some (.lst xs)∧Q .eX (upd H l (.lst []))
theorem IL:VM X "list.clear" O4:=by
 intro pins s σ H x vs v us Q I rx rv h
 obtain ⟨l,xs,rfl,rfl,hH,q⟩:=h
 cases rx
 have hus:=rv.zero
 subst hus
 obtain ⟨z,its,n,r,hl,e⟩:=I.yO hH
 refine call_meets F.slot_list_clear ⟨_,e,rfl⟩ F.entry_list_clear (F.args_list_clear_1 _) (AutoSeq1.list_clear_list_0 l its.toArray n (by rw [List.size_toArray];omega)) ⟨e,?_⟩
 exact ⟨.eX,_,I.Jb (its':=[]) (ys:=[]) hH e rfl .nil (Nat.zero_le _),rfl,q⟩
def ZD:R2:=fun x y H Q=>∃ l b xs zs,x=.ref l∧y=.ref b∧H l=some (.lst xs)∧H b=some (.lst zs)∧xs.length+zs.length≤sizeLine∧∀ p,H p=none→Q (.ref p) (upd H p (.lst (xs++zs)))
theorem uI:oB X (binaryOp .Add) ZD:=by
 intro pins s σ H x y v u Q I rx ry h
 obtain ⟨l,b,xs,zs,rfl,rfl,hH,hB,hz,q⟩:=h
 cases rx
 cases ry
 obtain ⟨z,its,n,r,hl,e⟩:=I.yO hH
 obtain ⟨z2,its2,n2,r2,hl2,e2⟩:=I.yO hB
 refine PySem.P.add_list e e2 ?_ (by rw [List.size_toArray,List.size_toArray];omega)
 have ea:its.toArray++its2.toArray=(its++its2).toArray:=by simp
 rw [ea]
 exact ⟨.ref _,_,I.Td (t':=s.toks) (r.append r2) (by rw [List.length_append];omega),rfl,q _ I.fresh⟩
def Zy:R2:=fun x y H Q=>∃ l k xs,x=.ref l∧y=.int k∧H l=some (.lst xs)∧-(2 ^ 63)≤k∧k < 2 ^ 63∧xs.length*k.toNat≤sizeLine ∧
 ∀ p,H p=none→Q (.ref p) (upd H p (.lst (List.replicate k.toNat xs).flatten))
theorem len_rep {α:Type} (xs:List α) (k:Nat):(List.replicate k xs).flatten.length=k*xs.length:=by
 induction k with
 | zero=>simp
 | succ k ih=>rw [List.replicate_succ,List.flatten_cons,List.length_append,ih,Nat.succ_mul,Nat.add_comm]
theorem BH:oB X (binaryOp .Mult) Zy:=by
 intro pins s σ H x y v u Q I rx ry h
 obtain ⟨l,k,xs,rfl,rfl,hH,h1,h2,hz,q⟩:=h
 cases rx
 obtain ⟨t,rfl⟩:=ry
 obtain ⟨z,its,n,r,hl,e⟩:=I.yO hH
 have hlen:its.toArray.size*k.toNat≤sizeLine:=by rw [List.size_toArray,← hl];exact hz
 have hcap:¬ its.toArray.size*k.toNat > (2 ^ 63 - 1) / 8:=by
  have:(sizeLine:Nat)≤(2 ^ 63 - 1) / 8:=by decide
  omega
 have hfit:¬ (!Builtin.List.listFitsIndex k)=true:=by
  rw [fitsIndex_both h1 h2]
  exact Bool.false_ne_true
 have AA:¬ Builtin.List.listTooLong (its.toArray.size*k.toNat)=true:=by
  rw [uJ hlen]
  exact Bool.false_ne_true
 have hnew:List.foldl (fun x1 x2=>x1++x2) #[] (List.replicate (if its.toArray.isEmpty=true then 0 else k.toNat) its.toArray)=(List.replicate k.toNat its).flatten.toArray:=by
  have f0:∀ m:Nat,List.foldl (fun x1 x2=>x1++x2) #[] (List.replicate m its.toArray)=(List.replicate m its).flatten.toArray:=fun m=>by
   have:=foldl_rep its m []
   rw [List.nil_append] at this
   exact this
  rw [f0]
  cases its with
  | nil=>simp
  | cons a r'=>rw [if_neg (by simp)]
 refine wpAny_binaryOp_repeat_ref (T:="list") (U:="int") (by decide) ⟨_,e,rfl⟩ (fun s'=>typeIs_int s' k t) noFill_list_mul F.fills_int_mul F.slot_int_rmul repeat_list F.slot_int_index.lookup
  (call_meets F.slot_int_rmul (typeIs_int s k t) F.entry_int_rmul (F.args_int_rmul_2 _ _) (int___rmul___int_list k t l its.toArray n)
   ⟨e,rfl,⟨_,e,rfl⟩,call_meets F.slot_list_mul ⟨_,e,rfl⟩ F.entry_list_mul (F.args_list_mul_2 _ _) (AutoListH.list___mul___list_int_3 l its.toArray n k t hfit hcap AA) ⟨e,?_⟩⟩)
 rw [hnew]
 exact ⟨.ref _,_,I.Td (t':=s.toks) (r.rep k.toNat) (by rw [len_rep,Nat.mul_comm];exact hz),rfl,q _ I.fresh⟩
end
section
variable {prog:Program} {w:World} {A:Around} {E:Value→Shared→Prop} {s:Shared}
end
section
variable {X:Cx}
end
end L2
namespace Att
open PySem PySem.W PySem.Calls PyProof.Rows
theorem sD {P:Params} {h:Heap}:∀ (ns:List Int) (vs:List Value),WellAll P h vs (ns.map WData.int)→IntsAre vs ns:=by
 intro ns
 induction ns with
 | nil =>
  intro vs w
  rw [List.map_nil] at w
  cases w
  exact .nil
 | cons n ns ih =>
  intro vs w
  rw [List.map_cons] at w
  cases w with
  | cons a b =>
   cases a
   exact .cons _ _ (ih _ b)
theorem En {l:OpenLaw} {n:Nat} (hn:l.most=some n) {P:Params} {h:Heap} {args:List WData} {vals:List Value}
  (hpre:l.row.toRowW.claim.pre args=true) (hwl:WellAll P h vals args) :
  ∃ a vs ns,vals=[Value.ref a]∧args=[WData.list (ns.map WData.int)]∧h.get? a=some { cls:=.type "list",data:=.seq vs.toArray }∧IntsAre vs ns∧ns.length≤n:=by
 have hsh:WShape.hasAll [] args [.list .int]=true:=(pre_splitW hpre).1
 have hc:l.pre.holds [] { args:=args }=true:=(pre_splitW hpre).2
 obtain ⟨d,r,rfl,h1,h2⟩:=hasAllW_cons hsh
 obtain rfl:=hasAllW_nil h2
 obtain ⟨xs,rfl,h3⟩:=hasW_list h1
 obtain ⟨ns,rfl⟩:=items_int h3
 have hlen:ns.length≤n:=by
  unfold OpenLaw.pre at hc
  have h4:(WTm.not (.lt (.lit (.int (n:Int))) (.len (.arg 0)))).holds [] { args:=[.list (ns.map .int)] }=true:=by
   have h4:=(holds_andW hc).1
   rw [hn] at h4
   exact h4
  have h5:=condW_of h4 (w_not (w_lt w_lit (w_len_list (w_arg rfl))))
  rw [List.length_map] at h5
  refine Nat.le_of_not_lt fun q=>?_
  have q':(n:Int) < ((ns.length:Nat):Int):=by omega
  first
   | (rw [decide_eq_true q'] at h5;exact absurd h5 (by decide))
   | (simp at h5;omega)
 cases hwl with
 | cons w1 w2 =>
  cases w2
  cases w1 with
  | list ho hall=>exact ⟨_,_,ns,rfl,rfl,ho,sD ns _ hall,hlen⟩
theorem Ep (l:OpenLaw) (args:List WData):l.row.toRowW.claim.post args (.bool true) args=true :=
 postW_of (r:=l.row.toRowW) (X:=(true == true))
  (show WShape.has [] (.bool true) .bool=true by first | rfl | decide | simp [WShape.has,WShape.arms,WShape.armsAll])
  (show (WTm.eq .res (.lit (.bool true))).value [] { args:=args,res:=some (.bool true),after:=args }=some (.bool (true == true)) from w_eq_bool (w_res rfl) w_lit) rfl
theorem AW {l:OpenLaw} {n:Nat} {q:Program} {loose:List Str} {XP:(Str→Option Value)→Heap→Prop} {YP:World→Heap→Prop} {d:DefRec}
  (hn:l.most=some n) (hdf:d.params.defaults=[])
  (call:∀ (w:World) (s₀ s₁:Shared) (mg mb:Str→Option Value) (fa:Addr) (o:Obj) (pm cd doc:Value) (a:Addr) (vs:List Value) (ns:List Int),
   Ground q loose [] XP w s₀ mg mb s₁.heap→YP w s₁.heap →
   s₁.heap.get? fa=some o→o.data=.func (docDef d.name d.params d.body d.scope pm cd doc)→s₁.heap.CodeRec cd d.name→mg d.name=some (.ref fa) →
   s₁.heap.get? a=some { cls:=.type "list",data:=.seq vs.toArray }→IntsAre vs ns→ns.length≤n→s₁.gens=#[] →
   codeAny (model l.prog w) callerA (.call (.ref fa) ⟨[.ref a],[]⟩) (fun r s'=>r=.ok (.ret (.bool true))∧OldK s₁.heap s'.heap∧s'.os=s₁.os∧AllBare s'.gens) s₁) :
  WalkO q loose XP YP l.row.toRowW d [] (fun f vs=>PySem.call f vs):=by
 intro w s₀ s₁ mg mb G Y fa o pm cd doc dV kV ho hd hcd hD hmg hg args vals as hpre hlay hrd hwl hlo
 obtain rfl:dV=.none:=Dflts.none hD hdf
 obtain rfl:kV=.none:=Dflts.noKw hD
 obtain ⟨a,vs,ns,rfl,rfl,hobj,hints,hlen⟩:=En hn hpre hwl
 refine enter_call (codeAny_mono (call w s₀ s₁ mg mb fa o pm cd doc a vs ns G Y ho (fd_plain hd) hcd hmg hobj hints hlen hg) fun r s' hq=>?_)
 obtain ⟨rfl,h2,h3,h4⟩:=hq
 exact ⟨.inl ⟨.bool true,.bool true,[],rfl,fun _=>rfl,.bool true,Ep l _,fun _=>⟨List.Pairwise.nil,fun _ hm=>(nomatch hm)⟩⟩,h2,h3,h4⟩
section
variable {prog:Program} {w:World} {A:Around} {E:Value→Shared→Prop} {s:Shared} {K:Frag}
end
end Att
namespace L2
open PySem PySem.Spec PyProof.Rows
theorem wL:∀ {vs:List Value} {ns:List Int},IntsAre vs ns→Vals (ns.map V.int) vs
 | _,_,.nil=>.nil
 | _,_,.cons n t h=>.cons ⟨t,rfl⟩ (wL h)
def Q8 (H:Hp):Prop:=∀ b,H b=none∨∃ o xs,H b=some (.Ci o (.lst xs))
theorem Jh {P:Program} {w:World} {K:PySem.W.Frag} {mg mb:Str→Option Value} {CX:Ba} {k:Nat} {fa a:Addr} {fd:FuncData} {x:Str} {sp:Sp} {s₁:Shared} {vs:List Value} {ns:List Int}
  (KX:K.In s₁.heap) (hns:s₁.heap.Ns mainGlobals mg) (hb:s₁.heap.Ns builtinsNs mb) (hbb:∀ x:Str,x≠"__name__"→mb x=bootBuiltins x) (hlim:s₁.heap.NoLimit) (hg:s₁.gens=#[])
  (ha:s₁.heap.get? a=some { cls:=.type "list",data:=.seq vs.toArray }) (hi:IntsAre vs ns) (hl:ns.length≤sizeLine) (hr:dj k callerA)
  (F:∀ base:Heap,K.In base→base.Ns mainGlobals mg→bu P w K mg base CX k fa fd [x] sp) (hbind:∀ (s:Shared) (u:Value),BindsTo s fd ⟨[u],[]⟩ [(x,u)])
  (EM:∀ H:Hp,Q8 H→bx K H a (ns.map V.int)→sp [.ref a] H (fun v _=>v=.bl true) fun _ _ _=>False)
  (hCX:∀ H e s',CX [] H s₁ (fun _ _ _=>False) e s'→False) :
  codeAny (model P w) callerA (.call (.ref fa) ⟨[.ref a],[]⟩) (fun r s'=>r=.ok (.ret (.bool true))∧OldK s₁.heap s'.heap∧s'.os=s₁.os∧AllBare s'.gens) s₁:=by
 have rv:=wL hi
 have a2F:=hi.length
 have core:∀ H:Hp,Q8 H→bx K H a (ns.map V.int)→lS P w H s₁.heap→(∀ b,H b≠none→b=a)→(H a≠none→K.lookup a=none) →
   codeAny (model P w) callerA (.call (.ref fa) ⟨[.ref a],[]⟩) (fun r s'=>r=.ok (.ret (.bool true))∧OldK s₁.heap s'.heap∧s'.os=s₁.os∧AllBare s'.gens) s₁:=by
  intro H hO hS hok hA hK
  have Ec:∀ {b:Addr} {o:Obj},s₁.heap.get? b=some o→H b=none→(yT s₁.heap H).get? b=some o:=fun e n=>JD e n
  have S4:∀ {b:Addr} {o:Obj} {es:Array DictEntry} {ep:Nat},s₁.heap.get? b=some o→o.data=.dict es ep→H b=none:=fun {b o es ep} e d=>by
   cases q:H b with
   | none=>rfl
   | some u =>
    have e':b=a:=hA b (by rw [q];simp)
    subst e'
    rw [ha] at e;cases e
    have d':Data.seq vs.toArray _=Data.dict es ep:=d
    cases d'
  have VY:∀ {b:Addr} {m:Str→Option Value},s₁.heap.Ns b m→(yT s₁.heap H).Ns b m:=fun {b m} ⟨o,es,ep,e,d,r⟩=>⟨o,es,ep,Ec e (S4 e d),d,r⟩
  have hKb:K.In (yT s₁.heap H):=fun b o e=>Ec (KX b o e) (by
   cases q:H b with
   | none=>rfl
   | some u =>
    have e':b=a:=hA b (by rw [q];simp)
    subst e'
    rw [hK (by rw [q];simp)] at e;cases e)
  have hM:Mod K mg (yT s₁.heap H):=⟨hKb,VY hns,⟨mb,VY hb,hbb⟩,let ⟨mc,h1,h2⟩:=hlim;⟨mc,VY h1,h2⟩⟩
  have e0:zp P w K mg (yT s₁.heap H) callerA [] s₁ H:=⟨rfl,hM,fun b o e=>LR e,Nat.le_of_eq (EO _ _),trivial,fun b hb=>absurd (show b∈([]:List Addr) from hb) (by simp),hok,.of_eq hg⟩
  refine codeAny_mono ((F _ hKb (VY hns)).run callerA [] s₁ H ⟨[.ref a],[]⟩ [.ref a] [.ref a] _ _ hr e0 (hbind s₁ (.ref a)) (.cons rfl .nil) (EM H hO hS)) fun r s' h=>?_
  cases r with
  | error e=>exact (hCX H e s' h).elim
  | ok fl =>
   cases fl with
   | next=>exact False.elim h
   | brk=>exact False.elim h
   | cont=>exact False.elim h
   | ret u =>
    obtain ⟨v,H',os,bare,un,a5o,r',q⟩:=h
    have q':v=.bl true:=q
    subst q'
    obtain rfl:u=Value.bool true:=r'
    refine ⟨rfl,OldK.of_keep fun b o e=>?_,os,bare⟩
    cases q:H b with
    | none=>exact un.keep b o e q (by intro z;exact absurd (show b∈([]:List Addr) from z) (by simp)) (by simp)
    | some u =>
     rcases hO b with z | ⟨ob,xs,z⟩
     ·rw [q] at z;cases z
     ·have z2:=un.oj b ob _ z
      obtain ⟨e1,_⟩:=hok b _ z
      obtain ⟨e2,_⟩:=a5o b _ z2
      rw [e] at e1;cases e1
      exact e2
 cases hk:K.lookup a with
 | some o =>
  have e:=KX a o hk
  rw [ha] at e
  cases e
  refine core (fun _=>none) (fun _=>.inl rfl) (.inr ⟨_,vs.toArray,_,hk,rfl,rfl,rfl,by rw [List.size_toArray,a2F];exact hl,by simpa using rv⟩) (fun b u z=>by have z':(none:Option HO)=some u:=z;cases z') (fun b z=>absurd rfl z) fun z=>absurd rfl z
 | none =>
  refine core (fun b=>if b=a then some (.Ci { cls:=.type "list",data:=.seq vs.toArray } (.lst (ns.map V.int))) else none) (fun b=>?_) (.inl (.inr ⟨{ cls:=.type "list",data:=.seq vs.toArray },if_pos rfl⟩)) (fun b u z=>?_) (fun b z=>?_) fun _=>hk
  ·by_cases hb:b=a
   ·exact .inr ⟨_,_,if_pos hb⟩
   ·exact .inl (if_neg hb)
  ·by_cases hb:b=a
   ·have z':=(if_pos hb).symm.trans z
    cases z'
    subst hb
    exact ⟨ha,by rw [List.length_map];exact hl,vs,_,rv,ha⟩
   ·have z':=(if_neg hb).symm.trans z
    cases z'
  ·by_cases hb:b=a
   ·exact hb
   ·exact absurd (if_neg hb) z
end L2
namespace L2
open PySem PySem.Spec PyProof.Rows
theorem KZ {l:PySem.W.OpenLaw} {n k:Nat} {q:Program} {loose:List Str} {XP:(Str→Option Value)→Heap→Prop} {YP:World→Heap→Prop} {d:DefRec} {K:Params→PySem.W.Frag} {CX:World→Ba} {sp:World→Sp} {x:Str}
  (hn:l.most=some n) (hn2:n≤sizeLine) (hdf:d.params.defaults=[]) (hr:dj k callerA)
  (hY:∀ (w:World) (h:Heap),YP w h→(K w.params).In h)
  (F:∀ (w:World) (mg:Str→Option Value) (fa:Addr) (h:Heap),(K w.params).In h→h.Ns mainGlobals mg→mg d.name=some (.ref fa) →
   ∃ fd:FuncData,(∀ (s:Shared) (u:Value),BindsTo s fd ⟨[u],[]⟩ [(x,u)]) ∧
    ∀ base:Heap,(K w.params).In base→base.Ns mainGlobals mg→bu l.prog w (K w.params) mg base (CX w) k fa fd [x] (sp w))
  (EM:∀ (w:World) (H:Hp) (a:Addr) (ns:List Int),ns.length≤n→Q8 H→bx (K w.params) H a (ns.map V.int)→sp w [.ref a] H (fun v _=>v=.bl true) fun _ _ _=>False)
  (hCX:∀ (w:World) (H:Hp) (s:Shared) (e:Value) (s':Shared),CX w [] H s (fun _ _ _=>False) e s'→False) :
  PySem.W.WalkO q loose XP YP l.row.toRowW d [] (fun f vs=>PySem.call f vs):=by
 refine Att.AW hn hdf fun w s₀ s₁ mg mb fa o pm cd doc a vs ns G Y ho hd hcd hmg hobj hints hlen hg=>?_
 have KX:=hY w _ Y
 obtain ⟨fd,hb,hF⟩:=F w mg fa _ KX G.T.g hmg
 exact Jh KX G.T.g G.T.b G.T.builtins G.T.nolimit hg hobj hints (Nat.le_trans hlen hn2) hr hF hb (fun H hO hS=>EM w H a ns hlen hO hS) fun H e s'=>hCX w H s₁ e s'
end L2
namespace L2
open PySem PySem.Spec PyProof.Rows
def inClass (s:Stmt) (j:Nat):Stmt:=match s with
 | .ClassDef _ _ _ body _ _ _ _ _ _ _=>body.getD j (.Pass ⟨0,0,0,0⟩)
 | _=>.Pass ⟨0,0,0,0⟩
def aF (s:Stmt):Arguments:=match s with
 | .FunctionDef _ a _ _ _ _ _ _ _ _=>a
 | _=>{ posonlyargs:=[],args:=[],vararg:=none,kwonlyargs:=[],kw_defaults:=[],kwarg:=none,defaults:=[] }
def av (s:Stmt):List Stmt:=match s with
 | .FunctionDef _ _ b _ _ _ _ _ _ _=>b
 | _=>[]
def aj (s:Stmt):Scope:=match s with
 | .FunctionDef _ _ _ _ _ _ sc _ _ _=>sc
 | _=>{ kind:=.function,names:=[],isGenerator:=false,isCoroutine:=false }
abbrev dX:Ba:=fun _ _ _ _ _ _=>False
abbrev E0:XK:=fun _ _ _=>False
theorem aD {X:Cx}:Passes dX X E0:=fun _ _ _ _ _ _ _ h=>h.elim
structure cX (K:PySem.W.Frag) (x qual:Str) (st:Stmt) (f:Addr) (fd:FuncData):Prop where
 ex:∃ (oc:Value) (od:Option Addr) (kV doc pm:Value) (an:Option Addr) (cdv ct:Value) (osl:Array (Option Value)),
  fd=PySem.W.fnOf x qual (aF st) (av st) (aj st) .none kV doc pm an cdv ct∧K.lookup f=some ⟨oc,od,.func fd,osl⟩∧PySem.W.codeIn K cdv qual=true
 kp:PySem.W.keepIn K (.ref f)=true
section
variable {P:Program} {w:World} {K:PySem.W.Frag} {mg:Str→Option Value} {base:Heap}
theorem cX.ok {x qual:Str} {st:Stmt} {f:Addr} {fd:FuncData} {N ps:List Str} {k:Nat} {sp:Sp} (F:cX K x qual st f fd) (S:aG N ps (aj st)) (len:∀ vs H Q E,sp vs H Q E→vs.length=ps.length)
  (hbody:∀ (cdv:Value) (A:Around) (outer:List Env) (s:Shared) (H:Hp) (vs:List V) (Q:VK) (E:XK),dj k (A.deeper (envOfC qual (aj st) s.heap.objs.size f cdv))→sp vs H Q E →
   ∃ t,xO (zd dX P w K mg base N qual (aj st) f cdv A outer s H E).VZ (av st) t∧t { nx:=fun _ H'=>Q .eX H',rt:=Q } (start N vs) H):bu P w K mg base dX (k+1) f fd ps sp:=by
 obtain ⟨oc,od,kV,doc,pm,an,cdv,ct,osl,rfl,lk,hcd⟩:=F.ex
 refine N6 lk hcd S len fun A outer s H vs Q E hr EM=>?_
 obtain ⟨t,h,q⟩:=hbody cdv A outer s H vs Q E hr EM
 exact ⟨t,h.VZ,q⟩
theorem cX.binds {x qual:Str} {st:Stmt} {f:Addr} {fd:FuncData} {ps:List Str} (F:cX K x qual st f fd)
  (h:∀ (kV doc pm:Value) (an:Option Addr) (cdv ct:Value) (us:List Value),us.length=ps.length→bindArgs (PySem.W.fnOf x qual (aF st) (av st) (aj st) .none kV doc pm an cdv ct) ⟨us,[]⟩=pure (ps.zip us)):Binds K fd ps []:=by
 obtain ⟨oc,od,kV,doc,pm,an,cdv,ct,osl,rfl,lk,hcd⟩:=F.ex
 exact .all (h kV doc pm an cdv ct)
theorem aQ {x qual:Str} {st:Stmt} {f:Addr} {oc:Value} {od an:Option Addr} {osl:Array (Option Value)} {kV doc pm cdv ct:Value} (l:K.lookup f=some ⟨oc,od,.func (PySem.W.fnOf x qual (aF st) (av st) (aj st) .none kV doc pm an cdv ct),osl⟩)
  (c:PySem.W.codeIn K cdv qual=true) (k:PySem.W.keepIn K (.ref f)=true):cX K x qual st f (PySem.W.fnOf x qual (aF st) (av st) (aj st) .none kV doc pm an cdv ct):=⟨⟨oc,od,kV,doc,pm,an,cdv,ct,osl,rfl,l,c⟩,k⟩
end
theorem br {A:Around} {k:Nat} (hr:dj k A):A.units+1 < cLine:=Nat.lt_of_le_of_lt (Nat.add_le_add_left (by decide:1≤64) _) hr.units
section
variable {X:Cx}
theorem pv (i:Nat) {x:Str} {pos:Pos} (hN:X.N[i]?=some x:=by rfl) (hv:X7 X.env.scope x:=by first | exact Or.inl rfl | exact Or.inr (Or.inl rfl) | exact Or.inr (Or.inr rfl)) (hd:(x == ("__debug__":Str))=false:=by decide)
  (hcd:(x == ("__classdict__":Str))=false:=by decide):PE X (.Name x pos) (OM i):=Pc hN hv hd hcd
end
theorem wG {A B:Prop} (h:B):if false=true then A else B:=by
 rw [if_neg Bool.false_ne_true]
 exact h
theorem vm {A B:Prop} (h:A):if true=true then A else B:=by
 rw [if_pos rfl]
 exact h
theorem Av {c A B:Prop} [Decidable c] (h1:c→A) (h2:¬ c→B):if c then A else B:=by
 by_cases h:c
 ·rw [if_pos h]
  exact h1 h
 ·rw [if_neg h]
  exact h2 h
theorem DK {c A B:Prop} [Decidable c] (hc:c) (h:B):if (!decide c)=true then A else B:=by
 rw [decide_eq_true hc]
 exact wG h
def az (H H':Hp):Prop:=∀ b o,H b=some o→H' b=some o
theorem az.refl (H:Hp):az H H:=fun _ _ h=>h
theorem az.trans {H H1 H2:Hp} (a:az H H1) (b:az H1 H2):az H H2:=fun c o h=>b c o (a c o h)
theorem az.free {H H':Hp} (e:az H H') {l:Addr} (h:H' l=Option.none):H l=Option.none:=by
 cases q:H l with
 | none=>rfl
 | some o =>
  rw [e l o q] at h
  cases h
theorem az.seq {K:PySem.W.Frag} {H H':Hp} {a:Addr} {xs:List V} (e:az H H') (h:bx K H a xs):bx K H' a xs:=by
 rcases h with (h | ⟨o,h⟩) | h
 ·exact .inl (.inl (e _ _ h))
 ·exact .inl (.inr ⟨o,e _ _ h⟩)
 ·exact .inr h
end L2
namespace L2
open PySem PySem.Spec PyProof.Rows
section
variable {κ:Type} [DecidableEq κ]
def jz (kvs:List (κ×V)) (k:κ):Option V:=(kvs.find? fun kv=>decide (kv.1=k)).map (·.2)
def putK (kvs:List (κ×V)) (k:κ) (v:V):List (κ×V) :=
 if (kvs.any fun kv=>decide (kv.1=k))=true then kvs.map (fun kv=>if kv.1=k then (kv.1,v) else kv) else kvs++[(k,v)]
theorem kD {p:κ×V} {r:List (κ×V)} {k:κ} (e:p.1=k):jz (p::r) k=some p.2:=by simp [jz,List.find?_cons,e]
theorem jh {p:κ×V} {r:List (κ×V)} {k:κ} (e:¬ p.1=k):jz (p::r) k=jz r k:=by simp [jz,List.find?_cons,e]
theorem zG (k:κ):∀ kvs:List (κ×V),(kvs.any fun kv=>decide (kv.1=k))=(jz kvs k).isSome
 | []=>rfl
 | p::r=>by
  rw [List.any_cons]
  by_cases e:p.1=k
  ·simp only [kD e,decide_eq_true e,Bool.true_or,Option.isSome_some]
  ·rw [jh e,decide_eq_false e,Bool.false_or];exact zG k r
theorem rR (kvs:List (κ×V)) (k:κ) (v:V):(putK kvs k v).length≤kvs.length+1:=by
 unfold putK
 split
 ·rw [List.length_map];omega
 ·rw [List.length_append,List.length_cons,List.length_nil];omega
theorem j6.qU {o:Option V} {u:Option Value} (r:j6 o u):o.isSome=u.isSome:=by
 cases o with
 | none=>cases u with
  | none=>rfl
  | some _=>exact (show False from r).elim
 | some _=>cases u with
  | none=>exact (show False from r).elim
  | some _=>rfl
theorem j6.getD {o:Option V} {u:Option Value} {d:V} {d':Value} (r:j6 o u) (rd:RelV d d'):RelV (o.getD d) (u.getD d'):=by
 cases o with
 | none=>cases u with
  | none=>exact rd
  | some _=>exact (show False from r).elim
 | some _=>cases u with
  | none=>exact (show False from r).elim
  | some _=>exact r
theorem KV.val {kvs:List (κ×V)} {vs:List (κ×Value)} (r:KV kvs vs) (k:κ):j6 (jz kvs k) (valueAt vs k):=by
 unfold KV at r
 induction r with
 | nil=>exact True.intro
 | @cons p q ps qs h t ih =>
  obtain ⟨h1,h2⟩:=h
  by_cases e:p.1=k
  ·have e':q.1=k:=h1.symm.trans e
   have b:valueAt (q::qs) k=some q.2:=by simp [valueAt,List.find?_cons,e']
   rw [kD e,b];exact h2
  ·have e':¬ q.1=k:=fun z=>e (h1.trans z)
   have b:valueAt (q::qs) k=valueAt qs k:=by simp [valueAt,List.find?_cons,e']
   rw [jh e,b];exact ih
theorem KV.any {kvs:List (κ×V)} {vs:List (κ×Value)} (r:KV kvs vs) (k:κ):(kvs.any fun kv=>decide (kv.1=k))=vs.any fun kv=>decide (kv.1=k):=by
 unfold KV at r
 induction r with
 | nil=>rfl
 | cons h t ih=>rw [List.any_cons,List.any_cons,ih,h.1]
theorem KV.repl {kvs:List (κ×V)} {vs:List (κ×Value)} (r:KV kvs vs) (k:κ) {y:V} {u:Value} (ry:RelV y u) :
  KV (kvs.map fun kv=>if kv.1=k then (kv.1,y) else kv) (vs.map fun kv=>if kv.1=k then (kv.1,u) else kv):=by
 unfold KV at r ⊢
 induction r with
 | nil=>exact .nil
 | @cons p q ps qs h t ih =>
  rw [List.map_cons,List.map_cons]
  refine .cons ?_ ih
  obtain ⟨h1,h2⟩:=h
  by_cases e:p.1=k
  ·rw [if_pos e,if_pos (h1.symm.trans e)];exact ⟨h1,ry⟩
  ·rw [if_neg e,if_neg (fun z=>e (h1.trans z))];exact ⟨h1,h2⟩
theorem KV.put {kvs:List (κ×V)} {vs:List (κ×Value)} (r:KV kvs vs) (k:κ) {y:V} {u:Value} (ry:RelV y u):KV (putK kvs k y) (stored vs k u):=by
 unfold putK stored
 rw [r.any k]
 by_cases e:(vs.any fun kv=>decide (kv.1=k))=true
 ·rw [if_pos e,if_pos e];exact r.repl k ry
 ·rw [if_neg e,if_neg e];exact Paired.snoc r ⟨rfl,ry⟩
theorem KV.keys {kvs:List (κ×V)} {vs:List (κ×Value)} (r:KV kvs vs):kvs.map (·.1)=vs.map (·.1):=by
 unfold KV at r
 induction r with
 | nil=>rfl
 | cons h t ih=>rw [List.map_cons,List.map_cons,ih,h.1]
theorem KV.length {kvs:List (κ×V)} {vs:List (κ×Value)} (r:KV kvs vs):kvs.length=vs.length:=Paired.length r
end
theorem xm {P:Program} {w:World} {k:Key} {u:Value} (r:RelV (kV k) u):(cP P w).is k u=true:=by
 cases k with
 | inl i=>obtain ⟨t,e⟩:=(show ∃ t,u=Value.int i t from r);subst e;exact Ai P w i t
 | inr x=>obtain ⟨t,e⟩:=(show ∃ t,u=Value.str x t from r);subst e;exact kZ P w x t
theorem xo {P:Program} {w:World}:∀ {ks:List Key} {us:List Value},Vals (ks.map kV) us→ItemsAre (cP P w) ks us
 | [],_,r=>by rw [List.map_nil] at r;cases r;exact .nil
 | k::ks,_,r=>by
  rw [List.map_cons] at r
  cases r with
  | cons h t=>exact .cons (xm h) (xo t)
abbrev KT (H:Hp):List (List Key×V)→List (List Key×Addr×Value)→Prop:=Paired fun p q=>p.1=q.1∧H q.2.1=some (.tup (p.1.map kV))∧RelV p.2 q.2.2
theorem KT.val {H:Hp} {kvs:List (List Key×V)} {xs:List (List Key×Addr×Value)} (r:KT H kvs xs) (k:List Key):j6 (jz kvs k) ((atKey xs k).map (·.2)):=by
 induction r with
 | nil=>exact True.intro
 | @cons p q ps qs h t ih =>
  obtain ⟨h1,_,h2⟩:=h
  by_cases e:p.1=k
  ·have e':q.1=k:=h1.symm.trans e
   have b:atKey (q::qs) k=some q.2:=by simp [atKey,List.find?_cons,e']
   rw [kD e,b];exact h2
  ·have e':¬ q.1=k:=fun z=>e (h1.trans z)
   have b:atKey (q::qs) k=atKey qs k:=by simp [atKey,List.find?_cons,e']
   rw [jh e,b];exact ih
theorem KT.repl {H:Hp} {kvs:List (List Key×V)} {xs:List (List Key×Addr×Value)} (r:KT H kvs xs) (k:List Key) {y:V} {u:Value} (ry:RelV y u) :
  KT H (kvs.map fun kv=>if kv.1=k then (kv.1,y) else kv) (xs.map (putAt k u)):=by
 induction r with
 | nil=>exact .nil
 | @cons p q ps qs h t ih =>
  rw [List.map_cons,List.map_cons]
  refine .cons ?_ ih
  obtain ⟨h1,h2,h3⟩:=h
  unfold putAt
  by_cases e:p.1=k
  ·rw [if_pos e,if_pos (h1.symm.trans e)];exact ⟨h1,h2,ry⟩
  ·rw [if_neg e,if_neg (fun z=>e (h1.trans z))];exact ⟨h1,h2,h3⟩
theorem KT.put {H:Hp} {kvs:List (List Key×V)} {xs:List (List Key×Addr×Value)} (r:KT H kvs xs) (k:List Key) {b:Addr} {y:V} {u:Value} (hb:H b=some (.tup (k.map kV))) (ry:RelV y u) :
  KT H (putK kvs k y) (storedH xs k b u):=by
 have e:(kvs.any fun kv=>decide (kv.1=k))=(atKey xs k).isSome:=by
  rw [zG,(r.val k).qU,Option.isSome_map]
 unfold putK storedH
 rw [e]
 by_cases q:(atKey xs k).isSome=true
 ·rw [if_pos q,if_pos q];exact r.repl k ry
 ·rw [if_neg q,if_neg q];exact Paired.snoc r ⟨rfl,hb,ry⟩
theorem KT.keeps {H H':Hp} {kvs:List (List Key×V)} {xs:List (List Key×Addr×Value)} (r:KT H kvs xs) (ht:∀ b ys,H b=some (.tup ys)→H' b=some (.tup ys)):KT H' kvs xs :=
 Paired.dh r fun _ _ z=>⟨z.1,ht _ _ z.2.1,z.2.2⟩
section
variable {P:Program} {w:World} {H:Hp} {h:Heap} {a:Addr}
theorem NP {u:HO} (ok:lS P w H h) (e:Rd H a u):cD P w H h a u:=e.ok ok
theorem vD {kvs:List (Key×V)} (ok:lS P w H h) (e:Rd H a (.dK kvs)):kvs.length≤sizeLine∧(a == sysModules)=false∧∃ vs,KV kvs vs∧h.DictOf (cP P w) a vs :=
 show cD P w H h a (.dK kvs) from NP ok e
theorem UA {kvs:List (Key×V)} (ok:lS P w H h) (e:H a=some (.dK kvs)):kvs.length≤sizeLine∧(a == sysModules)=false∧∃ vs,KV kvs vs∧h.DictOf (cP P w) a vs:=vD ok (.inl e)
theorem vh {ks:List Key} (ok:lS P w H h) (e:H a=some (.tup (ks.map kV))):(tupleKind (cP P w)).is h ks a:=by
 obtain ⟨_,its,r,o,h1,h2,n,h3⟩:=(show cD P w H h a (.tup (ks.map kV)) from ok a _ e)
 exact ⟨o,its.toArray,n,h1,h2,h3,by simpa using xo r⟩
theorem xx {kvs:List (List Key×V)} (ok:lS P w H h) (e:Rd H a (.dT kvs)):kvs.length≤sizeLine∧(a == sysModules)=false ∧
  ∃ xs,KT H kvs xs∧h.DictOfH (tupleKind (cP P w)) a xs:=by
 obtain ⟨z,y,xs,r,o,es,ep,h1,h2,h3,h4,h5⟩:=(show cD P w H h a (.dT kvs) from NP ok e)
 refine ⟨z,y,xs,r,o,es,ep,h1,h2,h3,h4,fun x hx=>?_,h5⟩
 have all:∀ {l:List (List Key×V)} {m:List (List Key×Addr×Value)},KT H l m→∀ x∈m,(tupleKind (cP P w)).is h x.1 x.2.1:=by
  intro l m q
  induction q with
  | nil=>intro x hx;exact nomatch hx
  | @cons p q ps qs hq t ih =>
   intro x hx
   rcases List.mem_cons.mp hx with e | hx
   ·subst e
    exact vh ok (by rw [← hq.1];exact hq.2.1)
   ·exact ih x hx
 exact all r x hx
theorem Uz {kvs:List (List Key×V)} (ok:lS P w H h) (e:H a=some (.dT kvs)):kvs.length≤sizeLine∧(a == sysModules)=false ∧
  ∃ xs,KT H kvs xs∧h.DictOfH (tupleKind (cP P w)) a xs:=xx ok (.inl e)
end
def rm (H:Hp) (a:Addr) (y:V) (r:Option V):Prop :=
 (∃ kvs k,Rd H a (.dK kvs)∧y=kV k∧r=jz kvs k)∨∃ kvs k b,Rd H a (.dT kvs)∧y=.ref b∧H b=some (.tup (k.map kV))∧r=jz kvs k
def we (H:Hp) (a:Addr) (y v:V) (H':Hp):Prop :=
 (∃ kvs k,H a=some (.dK kvs)∧y=kV k∧kvs.length < sizeLine∧H'=upd H a (.dK (putK kvs k v))) ∨
 ∃ kvs k b,H a=some (.dT kvs)∧y=.ref b∧H b=some (.tup (k.map kV))∧kvs.length < sizeLine∧H'=upd H a (.dT (putK kvs k v))
theorem rm.k {H:Hp} {a:Addr} {kvs:List (Key×V)} {k:Key} (e:H a=some (.dK kvs)):rm H a (kV k) (jz kvs k):=.inl ⟨kvs,k,.inl e,rfl,rfl⟩
theorem we.k {H:Hp} {a:Addr} {kvs:List (Key×V)} {k:Key} {v:V} (e:H a=some (.dK kvs)) (hl:kvs.length < sizeLine):we H a (kV k) v (upd H a (.dK (putK kvs k v))):=.inl ⟨kvs,k,e,rfl,hl,rfl⟩
section
variable {X:Cx} {pins:List (Addr×Obj)} {σ:St} {H:Hp} {s:Shared} {a:Addr} {y v:V} {u r:Value} {o:Option V} {A:Around} {E:Value→Shared→Prop}
theorem Inv.big (I:Inv X pins σ H s):sysModules < s.heap.objs.size:=by
 have h:mainGlobals < s.heap.objs.size:=(I.mod.glob.keeps I.bk).lt
 exact Nat.lt_trans (by decide) h
theorem E3 {Q:Value→Shared→Prop} (hu:A.units+1 < cLine) (I:Inv X pins σ H s) (g:rm H a y (some v)) (ry:RelV y u) (h:∀ w' s',Inv X pins σ H s'→RelV v w'→Q w' s') :
  wpAny (model X.prog X.w) A (getItem (.ref a) u) Q E s:=by
 rcases g with ⟨kvs,k,e,ey,l⟩ | ⟨kvs,k,b,e,ey,eb,l⟩
 ·subst ey
  obtain ⟨z,hd,vs,rel,dd⟩:=vD I.hok e
  obtain ⟨w',hw,rw'⟩:=j6.some_of (v:=v) (o:=valueAt vs k) (by rw [l];exact rel.val k)
  exact wpAny_getItem_of (xm ry) dd.mapOf hw (h w' _ (I.tok _) rw')
 ·subst ey
  cases (show u=Value.ref b from ry)
  obtain ⟨z,hd,xs,rel,dd⟩:=xx I.hok e
  obtain ⟨w',hw,rw'⟩:=j6.some_of (v:=v) (o:=(atKey xs k).map (·.2)) (by rw [l];exact rel.val k)
  obtain ⟨p,hp,hp2⟩:=Option.map_eq_some_iff.mp hw
  refine wpAny_getItem_heap (tupleKind_room_in1 hu) (vh I.hok eb) dd hp ?_
  rw [hp2]
  exact h w' _ (I.tok _) rw'
theorem a63 {Q:Value→Shared→Prop} (hu:A.units+1 < cLine) (I:Inv X pins σ H s) (g:rm H a y o) (ry:RelV y u) (h:∀ s',Inv X pins σ H s'→Q (.bool o.isSome) s') :
  wpAny (model X.prog X.w) A (compareOp .In u (.ref a)) Q E s:=by
 rcases g with ⟨kvs,k,e,ey,l⟩ | ⟨kvs,k,b,e,ey,eb,l⟩
 ·subst ey
  obtain ⟨z,hd,vs,rel,dd⟩:=vD I.hok e
  refine wpAny_in_of (xm ry) hd dd.mapOf ?_
  rw [← (rel.val k).qU,← l]
  exact h _ (I.tok _)
 ·subst ey
  cases (show u=Value.ref b from ry)
  obtain ⟨z,hd,xs,rel,dd⟩:=xx I.hok e
  refine wpAny_in_heap (tupleKind_room_in1 hu) (vh I.hok eb) hd dd ?_
  have q:=(rel.val k).qU
  rw [Option.isSome_map] at q
  rw [← q,← l]
  exact h _ (I.tok _)
theorem DZ {h':Heap} {t':Nat} {ob:HO} (I:Inv X pins σ H s) (mu:VL (H a)) (hs:Heap.SameBut a s.heap h') (he:∃ q,h'.get? a=some q) (new:cD X.prog X.w (upd H a ob) h' a ob) :
  Inv X pins σ (upd H a ob) { s with heap:=h',toks:=t' } :=
 I.write (x:=a) (e:=a) mu (.inl rfl) (fun b q hb z=>(hs.2 b hb).trans z) he new
theorem QJ {P:Program} {w:World} {H':Hp} {h':Heap} {kvs:List (Key×V)} {vs:List (Key×Value)} (z:kvs.length≤sizeLine) (hd:(a == sysModules)=false) (rel:KV kvs vs) (dd:h'.DictOf (cP P w) a vs) :
  cD P w H' h' a (.dK kvs):=⟨z,hd,vs,rel,dd⟩
theorem E2 {H':Hp} {Q:Unit→Shared→Prop} (hu:A.units+1 < cLine) (I:Inv X pins σ H s) (g:we H a y v H') (ry:RelV y u) (rv:RelV v r) (h:∀ s',Inv X pins σ H' s'→Q () s') :
  wpAny (model X.prog X.w) A (setItem (.ref a) u r) Q E s:=by
 rcases g with ⟨kvs,k,e,ey,l,eH⟩ | ⟨kvs,k,b,e,ey,eb,l,eH⟩
 ·subst ey eH
  obtain ⟨z,hd,vs,rel,dd⟩:=UA I.hok e
  have hz:vs.length≤sizeLine:=by rw [← rel.length];exact z
  have hl:(putK kvs k v).length≤sizeLine:=by have:=rR kvs k v;omega
  refine wpAny_setItem_pairs (hsz:=hz) (xm ry) dd fun h' QK hs=>h _ ?_
  have he:∃ q,h'.get? a=some q:=let ⟨q,_,_,hq,_⟩:=QK;⟨q,hq⟩
  exact DZ I (by rw [e];exact True.intro) hs he (QJ hl hd (rel.put k rv) QK)
 ·subst ey eH
  cases (show u=Value.ref b from ry)
  obtain ⟨z,hd,xs,rel,dd⟩:=Uz I.hok e
  have hz:xs.length≤sizeLine:=by rw [← Paired.length rel];exact z
  have hl:(putK kvs k v).length≤sizeLine:=by have:=rR kvs k v;omega
  refine wpAny_setItem_heap (hsz:=hz) (tupleKind_room_in1 hu) (vh I.hok eb) dd fun h' QK hs=>h _ ?_
  obtain ⟨q,es,ep,hq,h2,h3,h4,_,h5⟩:=QK
  refine DZ I (by rw [e];exact True.intro) hs ⟨q,hq⟩ ⟨hl,hd,_,(rel.put k eb rv).keeps fun c ys ec=>?_,q,es,ep,hq,h2,h3,h4,h5⟩
  rw [aA (mX ec e (fun z=>nomatch z))]
  exact ec
end
section
variable {X:Cx} {pins:List (Addr×Obj)} {σ:St} {H:Hp} {s:Shared} {a:Addr} {kvs:List (Key×V)} {k:Key} {u:Value} {A:Around} {E:Value→Shared→Prop}
end
def Q9 (i:Expr):Prop:=∀ ov iv,subscripted i false ov iv=operate [ov,iv] (getItem ov iv)
theorem De {prog:Program} {w:World} {A:Around} {E:Value→Shared→Prop} {s:Shared} {env:Env} {value slice:Expr} {pos:Pos} {T id:String} {Q:Value→Shared→Prop}
  (hl:typeLookup (.type T) "__getitem__"=pure (some (.builtin id))) (hs:Q9 slice)
  (h:wpAny (model prog w) A (eval value env) (fun o s₁=>wpAny (model prog w) A (eval slice env) (fun i s₂=>s₂.TypeIs o T∧wpAny (model prog w) A (getItem o i) Q E s₂) E s₁) E s) :
  wpAny (model prog w) A (eval (.Subscript value slice pos) env) Q E s:=by
 refine Subscript_ (wpAny_mono h (fun o s₁ h₁=>wpAny_mono h₁ (fun i s₂ h₂=>?_) fun _ _ x=>x) fun _ _ x=>x)
 obtain ⟨hT,h₂⟩:=h₂
 unfold subscriptTail
 refine wpAny_bind ?_
 rw [getitemInPython_of_ne hT.not_modules]
 refine wpAny_bind (wpAny_specialOf hT hl ?_)
 have fin:wpAny (model prog w) A (subscripted slice false o i) (fun r s₃=>wpAny (model prog w) A (letTemporaryGo value o r >>= fun _=>pure r) Q E s₃) E s₂:=by
  rw [hs o i]
  exact wpAny_operating (wpAny_mono h₂ (fun r s₃ h₃=>wpAny_bind (wpAny_letTemporaryGo (wpAny_pure h₃))) fun _ _ x=>x)
 first
  | exact wpAny_pure (wpAny_bind fin)
  | exact wpAny_bind (wpAny_pure (wpAny_bind fin))
  | exact wpAny_bind fin
theorem AI {X:Cx} {pins:List (Addr×Obj)} {σ:St} {H:Hp} {s:Shared} {a:Addr} {y:V} {o:Option V} (I:Inv X pins σ H s) (g:rm H a y o):s.TypeIs (.ref a) "dict":=by
 rcases g with ⟨kvs,k,e,_,_⟩ | ⟨kvs,k,b,e,_,_,_⟩
 ·obtain ⟨_,_,vs,_,dd⟩:=vD I.hok e
  exact dd.typeIs
 ·obtain ⟨_,_,xs,_,dd⟩:=xx I.hok e
  exact dd.typeIs
def Sk (td ty:TE):TE:=fun σ H Q=>td σ H fun x H1=>ty σ H1 fun y H2=>∃ a v,x=.ref a∧rm H2 a y (some v)∧Q v H2
def Yo (ty td:TE):TE:=fun σ H Q=>ty σ H fun y H1=>td σ H1 fun x H2=>∃ a o,x=.ref a∧rm H2 a y o∧Q (.bl o.isSome) H2
def Sx (td ty tv:TE):TS:=fun D σ H=>tv σ H fun v H1=>td σ H1 fun x H2=>ty σ H2 fun y H3=>∃ a H4,x=.ref a∧we H3 a y v H4∧D.nx σ H4
section
variable {X:Cx} {o i e value:Expr} {pos pos' tpos:Pos} {td ty tv:TE}
theorem mC (hu:X.A.units+1 < cLine) (ho:PE X o td) (hi:PE X i ty) (hs:Q9 i):PE X (.Subscript o i pos) (Sk td ty):=by
 intro pins s σ H Q I h
 refine De PySem.F.slot_dict_getitem.lookup hs (cy (ho pins s σ H _ I h) fun u s1 ⟨x,H1,I1,rx,q1⟩=>cy (hi pins s1 σ H1 _ I1 q1) fun iv s2 ⟨y,H2,I2,ry,a,v,ex,g,q2⟩=>?_)
 subst ex
 obtain rfl:u=Value.ref a:=rx
 exact ⟨AI I2 g,E3 hu I2 g ry fun w' s3 I3 rw'=>⟨v,H2,I3,rw',q2⟩⟩
theorem Pe (hu:X.A.units+1 < cLine) (hi:PE X i ty) (ho:PE X o td):PC X .In i o (Yo ty td):=by
 intro pins s σ H Q I h
 refine cy (hi pins s σ H _ I h) fun iv s1 ⟨y,H1,I1,ry,q1⟩=>cy (ho pins s1 σ H1 _ I1 q1) fun u s2 ⟨x,H2,I2,rx,a,ov,ex,g,q2⟩=>?_
 subst ex
 obtain rfl:u=Value.ref a:=rx
 exact a63 hu I2 g ry fun s3 I3=>⟨.bl ov.isSome,H2,I3,rfl,q2⟩
theorem jL (hu:X.A.units+1 < cLine) (ho:PE X o td) (hi:PE X i ty) (hv:PE X value tv) (hs:swapsWith value (some (.Subscript o i pos')) pos.line X.env=pure false) :
  PS X (.Assign [.Subscript o i pos'] value pos) (Sx td ty tv):=by
 intro pins s σ H D I h
 refine wpAny_Assign_Subscript (cy (hv pins s σ H _ I h) fun r s1 ⟨v,H1,I1,rv,q1⟩=>cy (ho pins s1 σ H1 _ I1 q1) fun u s2 ⟨x,H2,I2,rx,q2⟩=>cy (hi pins s2 σ H2 _ I2 q2) fun iv s3 ⟨y,H3,I3,ry,a,H4,ex,g,q3⟩=>?_) hs
 subst ex
 obtain rfl:u=Value.ref a:=rx
 exact E2 hu I3 g ry rv fun s4 I4=>⟨σ,H4,I4,q3⟩
end
theorem J4 {P:Program} {w:World} {H:Hp} (h:Heap) (hb:sysModules < h.objs.size):cD P w H (h.push { cls:=.type "dict",data:=.dict #[] }) h.objs.size (.dK []) :=
 ⟨Nat.zero_le _,beq_eq_false_iff_ne.mpr (Ne.symm (Nat.ne_of_lt hb)),[],.nil,Heap.DictOf.new h⟩
def OP:TE:=fun _ H Q=>∀ p,H p=none→Q (.ref p) (upd H p (.dK []))
section
variable {X:Cx} {pos:Pos}
theorem kQ:PE X (.Dict [] [] pos) OP:=fun pins s σ H Q I h =>
 wpAny_Dict_empty ⟨.ref s.heap.objs.size,_,I.laid (a:=s.heap.objs.size) (o:=.dK []) (t':=s.toks) (fun _ _ q=>Heap.get?_push_of_some _ q) (Nat.le_refl _) (J4 s.heap I.big),rfl,h _ (I.hok.fresh (Nat.le_refl _))⟩
end
structure M2 (X:Cx) (o:Expr) (m:Str) (apos:Pos) (e f:Expr) (cpos:Pos):Prop where
 base:attributeBase o m X.env (eval o X.env)=eval o X.env
 few:((backTo cpos (starEach [e,f] X.env)).all (fun x=>!x.1) && (backToKw cpos (keywordEach [] X.env)).all (fun x=>x.1.isSome)
  && decide (([e,f]:List Expr).length+([]:List Keyword).length+(if ([]:List Keyword).isEmpty then 0 else 1) < 30))=true
 line:(apos.endLine == cpos.line)=true
 trees:backTo cpos (starEach [e,f] X.env)=[(false,eval e X.env),(false,eval f X.env)]
def IsD (H:Hp) (a:Addr):Prop:=(∃ kvs,Rd H a (.dK kvs))∨∃ kvs,Rd H a (.dT kvs)
theorem PY {X:Cx} {pins:List (Addr×Obj)} {σ:St} {H:Hp} {s:Shared} {a:Addr} (I:Inv X pins σ H s) (d:IsD H a) :
  s.TypeIs (.ref a) "dict"∧(∀ b,Value.ref a=.ref b→∃ ob,s.heap.get? b=some ob∧ob.dict=none)∧(a == sysModules)=false:=by
 rcases d with ⟨kvs,e⟩ | ⟨kvs,e⟩
 ·obtain ⟨_,hd,vs,_,dd⟩:=vD I.hok e
  refine ⟨dd.typeIs,fun b q=>?_,hd⟩
  cases q
  obtain ⟨ob,_,_,h1,h2,_⟩:=dd
  exact ⟨ob,h1,h2.2.1⟩
 ·obtain ⟨_,hd,xs,_,dd⟩:=xx I.hok e
  refine ⟨dd.typeIs,fun b q=>?_,hd⟩
  cases q
  obtain ⟨ob,_,_,h1,h2,_⟩:=dd
  exact ⟨ob,h1,h2.2.1⟩
section
variable {X:Cx} {pins:List (Addr×Obj)} {σ:St} {H:Hp} {s:Shared} {a:Addr} {y d:V} {u r:Value} {o:Option V} {A:Around} {E:Value→Shared→Prop}
theorem QU {Q:Value→Shared→Prop} (hu:A.units+1 < cLine) (I:Inv X pins σ H s) (g:rm H a y o) (ry:RelV y u) (rd:RelV d r) (h:∀ w' s',Inv X pins σ H s'→RelV (o.getD d) w'→Q w' s') :
  wpAny (model X.prog X.w) A (call (.builtin "dict.get") [.ref a,u,r]) Q E s:=by
 rcases g with ⟨kvs,k,e,ey,l⟩ | ⟨kvs,k,b,e,ey,eb,l⟩
 ·subst ey
  obtain ⟨z,hd,vs,rel,dd⟩:=vD I.hok e
  refine call_meetsIn PySem.F.slot_dict_get dd.typeIs PySem.F.entry_dict_get (PySem.F.args_dict_get_3 _ _ _) (meets_dict_get_default (cP X.prog X.w) a (xm ry) hd r) ⟨_,dd.mapOf,h _ _ (I.tok _) ?_⟩
  rw [l]
  exact (rel.val k).getD rd
 ·subst ey
  cases (show u=Value.ref b from ry)
  obtain ⟨z,hd,xs,rel,dd⟩:=xx I.hok e
  refine call_meetsIn PySem.F.slot_dict_get dd.typeIs PySem.F.entry_dict_get (PySem.F.args_dict_get_3 _ _ _) (meetsH_dict_get_default (tupleKind (cP X.prog X.w)) a b hd r) ⟨tupleKind_room_in1 hu,k,xs,vh I.hok eb,dd,h _ _ (I.tok _) ?_⟩
  rw [l]
  exact (rel.val k).getD rd
end
def OQ (td ty tx:TE):TE:=fun σ H Q=>td σ H fun x H1=>∃ a,x=.ref a∧IsD H1 a∧ty σ H1 fun y H2=>tx σ H2 fun z H3=>∃ o,rm H3 a y o∧Q (o.getD z) H3
section
variable {X:Cx} {o e f:Expr} {apos cpos:Pos} {td ty tx:TE}
theorem HP (hu:X.A.units+1 < cLine) (ho:PE X o td) (he:PE X e ty) (hf:PE X f tx) (m:M2 X o "get" apos e f cpos):PE X (.Call (.Attribute o "get" apos) [e,f] [] cpos) (OQ td ty tx):=by
 intro pins s σ H Q I h
 refine wpAny_Call_method m.base m.few m.line PySem.F.plainAttrs_dict PySem.F.slot_dict_get PySem.F.type_dict_get (cy (ho pins s σ H _ I h) fun u s1 ⟨x,H1,I1,rx,a,ex,d,q1⟩=>?_)
 subst ex
 obtain rfl:u=Value.ref a:=rx
 obtain ⟨t1,t2,_⟩:=PY I1 d
 refine ⟨t1,t2,?_⟩
 rw [m.trees]
 refine Calls.callWith_builtin rfl (Calls.evalArgs_plain (Calls.spliced_cons (cy (he pins s1 σ H1 _ I1 q1) fun iv s2 ⟨y,H2,I2,ry,q2⟩ =>
  Calls.spliced_cons (cy (hf pins s2 σ H2 _ I2 q2) fun fv s3 ⟨z,H3,I3,rz,ov,g,q3⟩=>Calls.spliced_nil ?_))))
 exact QU hu I3 g ry rz fun w' s4 I4 rw'=>⟨_,H3,I4,rw',q3⟩
end
section
variable {X:Cx} {pins:List (Addr×Obj)} {σ:St} {H:Hp} {s:Shared} {a:Addr} {kvs:List (Key×V)} {A:Around} {E:Value→Shared→Prop}
end
section
variable {X:Cx} {pins:List (Addr×Obj)} {σ:St} {H:Hp} {s:Shared} {a:Addr} {y:V} {u:Value} {A:Around} {E:Value→Shared→Prop}
end
end L2
namespace L2
open PySem PySem.Spec PyProof.Rows
section
variable {X:Cx}
end
section
variable {κ:Type} [DecidableEq κ]
end
end L2
set_option maxHeartbeats 4000000
namespace L2
open PySem PySem.Spec PyProof.Rows
abbrev gp:Value→Shared→Prop:=fun _ _=>False
abbrev xA (X:Cx) (sc:Scope) (N:List Str) (cl:List (Str×Addr)) (C:Addr) (s:Shared) (H:Hp) (fp:List Addr):Cx :=
 { X with N:=N,s₀:=s,H₀:=H,env:=compEnvC sc cl C X.env,outer:=X.stack,ex:=fp,fn:=fun _=>false,pn:=[],xe:=gp }
def Ext (σ σ':St):Prop:=σ'.length=σ.length∧∀ (i:Nat) v,σ[i]?=some (some v)→σ'[i]?=some (some v)
theorem Ext.one {x:V} {r:St}:Ext (none::r) (some x::r):=⟨rfl,fun i v h=>by cases i with | zero=>cases h | succ i=>exact h⟩
theorem Ext.two {x y:V} {r:St}:Ext (none::none::r) (some x::some y::r):=⟨rfl,fun i v h=>by
 cases i with
 | zero=>cases h
 | succ i=>cases i with | zero=>cases h | succ i=>exact h⟩
def C8 (cs:List Expr) (env:Env):Sem Bool:=forIn cs true fun c r=>if r=true then do let ok ← isTrue c env (eval c env);pure (ForInStep.yield ok) else pure (ForInStep.yield r)
def Q6 (X:Cx) (cs:List Expr) (t:TT):Prop :=
 ∀ (pins:List (Addr×Obj)) (s:Shared) (σ:St) (H:Hp) (Q:Bool→Hp→Prop),Inv X pins σ H s→t σ H Q→wpAny (model X.prog X.w) X.A (C8 cs X.env) (TP X pins σ Q) X.xe s
def Dc:TT:=fun _ H Q=>Q true H
theorem cA {X:Cx}:Q6 X [] Dc:=fun pins s σ H Q I h=>wpAny_tests_nil ⟨H,I,h⟩
theorem jK {X:Cx} {c:Expr} {t:TT} (hc:PT X c t):Q6 X [c] t:=fun pins s σ H Q I h=>wpAny_tests_one (hc pins s σ H Q I h)
section
variable {prog:Program} {w:World} {A:Around} {R:Result→Shared→Prop} {s:Shared}
theorem xD {elt target iter:Expr} {cs:List Expr} {scope:Scope} {pos:Pos} {it acc:Value} {env:Env} (J:Nat→Shared→Prop)
  (turn:∀ n s,J n s→wpAny (model prog w) A (pyNext it) (fun r s1=>match r with
   | none=>R (.ok .next) s1
   | some v=>wpAny (model prog w) A (letOwnedTupleGo target it v) (fun _ s2=>wpAny (model prog w) A (assign target env v) (fun _ s3 =>
     wpAny (model prog w) A (C8 cs env) (fun ok s4=>if ok=true then wpAny (model prog w) A (eval elt env) (fun x s5 =>
       wpAny (model prog w) A (call (.builtin "list.append") [acc,x]) (fun _ s6=>∃ m,m < n∧J m s6) gp s5) gp s4
      else ∃ m,m < n∧J m s4) gp s3) gp s2) gp s1) gp s) (n:Nat) (h:J n s) :
  codeAny (model prog w) A (.compLoop (.ListComp elt [⟨target,iter,cs,0⟩] scope pos) 0 it acc env) R s:=by
 refine codeAny_loop rfl J (fun k s' hk=>?_) n h
 show wpAny (model prog w) A ((compTurn (.ListComp elt [⟨target,iter,cs,0⟩] scope pos) 0 it acc env).onRaise (fun x=>do noteFrame x env;theTreesLotGoes x)) _ _ s'
 refine wpAny_noted ?_
 have no:∀ (e:Value) (s2:Shared),gp e s2→notedBy (model prog w) A env (fun e s'=>R (.error e) s') e s2:=fun _ _ f=>f.elim
 rw [compTurn_list]
 refine wpAny_bind (wpAny_standAt (wpAny_bind (wpAny_mono (turn k s' hk) (fun r s1 g1=>?_) no)))
 cases r with
 | none=>exact wpAny_pure g1
 | some v =>
  refine wpAny_bind (wpAny_mono g1 (fun _ s2 g2=>?_) no)
  refine wpAny_bind (wpAny_mono g2 (fun _ s3 g3=>?_) no)
  refine wpAny_bind (wpAny_mono g3 (fun ok s4 g4=>?_) no)
  cases ok with
  | false=>exact wpAny_pure ⟨rfl,g4⟩
  | true=>exact wpAny_bind (wpAny_bind (wpAny_mono g4 (fun x s5 g5=>wpAny_bind (wpAny_mono g5 (fun _ s6 g6=>wpAny_pure (wpAny_pure ⟨rfl,g6⟩)) no)) no))
end
def qf (J:It) (g:TG) (tt:TT) (te:TE) (σ0:St) (W:Nat→Nat→List V→Hp→Prop) (R:List V→Hp→Prop):Prop :=
 ∀ i m ys H,W i m ys H→(J.stop i H∧R ys H)∨(J.go i H∧∃ F:List V→Hp→Prop,(∀ ys' H',F ys' H'→∃ m',m' < m∧W (i+1) m' ys' H')∧∀ x H',J.ND i H x H'→g x σ0 H' fun σ2 H2=>Ext σ0 σ2∧tt σ2 H2 fun b H3 =>
  if b=true then te σ2 H3 fun v H4=>ys.length < sizeLine∧F (ys++[v]) H4 else F ys H3)
structure lW (X:Cx) (sc:Scope) (cl:List (Str×Addr)) (own:Nat) (N:List Str) (fr:List Nat):Prop where
 kind:sc.kind=.function
 names:∀ x∈sc.names,x.2=.local→sc.names.lookup x.1=some .local
 uK:∀ x∈sc.names,x.2≠.cell
 clos:closureFor sc X.env=pure cl
 cells:∀ x c,cl.lookup x=some c→X.env.cells.lookup x=some c
 has:∀ x,((relabel sc X.env).names.lookup x=some .cell∨(relabel sc X.env).names.lookup x=some .free)→∃ c,cl.lookup x=some c
 len:N.length=own+fr.length
 TR:∀ (i:Nat) j,fr[i]?=some j→∃ x,N[own+i]?=some x∧X.N[j]?=some x∧(X.env.kindOf x=some .cell∨X.env.kindOf x=some .free)∧((relabel sc X.env).names.lookup x=some .cell∨(relabel sc X.env).names.lookup x=some .free)
def Nz (env:Env):List (Str×Addr)→Prop
 | []=>True
 | p::r=>env.cells.lookup p.1=some p.2∧Nz env r
theorem Nz.mem {env:Env}:∀ {cl:List (Str×Addr)},Nz env cl→∀ p∈cl,env.cells.lookup p.1=some p.2
 | [],_,_,h=>nomatch h
 | _::_,h,p,hp=>by
  rcases List.mem_cons.mp hp with rfl | hp
  ·exact h.1
  ·exact h.2.mem p hp
def yS (k:Option NameKind):Bool:=match k with
 | some .cell=>true
 | some .free=>true
 | _=>false
theorem DL {k:Option NameKind} (h:yS k=true):k=some .cell∨k=some .free:=by
 cases k with
 | none=>cases h
 | some k=>cases k <;> first | exact .inl rfl | exact .inr rfl | cases h
def DT (X:Cx) (sc:Scope):List Str→List Nat→Bool
 | [],[]=>true
 | x::ns,j::fr=>decide (X.N[j]?=some x) && yS (X.env.kindOf x) && yS ((relabel sc X.env).names.lookup x) && DT X sc ns fr
 | _,_=>false
theorem AE {X:Cx} {sc:Scope}:∀ {ns:List Str} {fr:List Nat},DT X sc ns fr=true→ns.length=fr.length∧∀ (i:Nat) j,fr[i]?=some j→∃ x,ns[i]?=some x∧X.N[j]?=some x∧yS (X.env.kindOf x)=true∧yS ((relabel sc X.env).names.lookup x)=true
 | [],[],_=>⟨rfl,fun i j h=>by simp at h⟩
 | [],_::_,h=>by cases h
 | _::_,[],h=>by cases h
 | x::ns,j::fr,h=>by
  have h:(decide (X.N[j]?=some x) && yS (X.env.kindOf x) && yS ((relabel sc X.env).names.lookup x) && DT X sc ns fr)=true:=h
  rw [Bool.and_eq_true,Bool.and_eq_true,Bool.and_eq_true] at h
  obtain ⟨⟨⟨h1,h2⟩,h3⟩,h4⟩:=h
  obtain ⟨l,g⟩:=AE h4
  refine ⟨by simp [l],fun i k e=>?_⟩
  cases i with
  | zero=>cases e;exact ⟨x,rfl,of_decide_eq_true h1,h2,h3⟩
  | succ i=>exact g i k e
theorem bq {X:Cx} {sc:Scope} {cl:List (Str×Addr)} (SJ frN:List Str) (fr:List Nat) (kind:sc.kind=.function) (names:(sc.names.all fun x=>x.2 != .local || sc.names.lookup x.1 == some .local)=true)
  (uK:(sc.names.all fun x=>x.2 != .cell)=true) (clos:closureFor sc X.env=pure cl) (cells:Nz X.env cl) (has:((relabel sc X.env).names.all fun y=>!yS (some y.2) || (cl.lookup y.1).isSome)=true)
  (len:frN.length=fr.length) (TR:DT X sc frN fr=true):lW X sc cl SJ.length (SJ++frN) fr where
 kind:=kind
 names:=fun x hx hl=>by
  have:=List.all_eq_true.mp names x hx
  rw [hl] at this
  simpa using this
 uK:=fun x hx=>by simpa using List.all_eq_true.mp uK x hx
 clos:=clos
 cells:=fun x c h=>cells.mem (x,c) (PySem.mem_of_lookup h)
 has:=fun x h=>by
  obtain ⟨k,hk,e⟩:∃ k,(relabel sc X.env).names.lookup x=some k∧yS (some k)=true:=by
   rcases h with h | h
   ·exact ⟨_,h,rfl⟩
   ·exact ⟨_,h,rfl⟩
  have:=List.all_eq_true.mp has (x,k) (PySem.mem_of_lookup hk)
  rw [e] at this
  exact Option.isSome_iff_exists.mp (by simpa using this)
 len:=by rw [List.length_append,len]
 TR:=fun i j e=>by
  obtain ⟨_,g⟩:=AE TR
  obtain ⟨x,e1,e2,e3,e4⟩:=g i j e
  refine ⟨x,?_,e2,DL e3,DL e4⟩
  rw [List.getElem?_append_right (Nat.le_add_right _ _),Nat.add_sub_cancel_left]
  exact e1
def zK (own:Nat) (fr:List Nat) (σ:St):St:=List.replicate own none++fr.map fun j=>(σ[j]?).join
section
variable {X:Cx} {sc:Scope} {cl:List (Str×Addr)} {own:Nat} {N:List Str} {fr:List Nat}
theorem GX {σ:St} {i:Nat} {v:V} (h:(zK own fr σ)[i]?=some (some v)):∃ k j,i=own+k∧fr[k]?=some j∧σ[j]?=some (some v):=by
 unfold zK at h
 by_cases hi:i < own
 ·rw [List.getElem?_append_left (by simpa using hi),List.getElem?_replicate,if_pos hi] at h
  cases h
 ·rw [List.getElem?_append_right (by simpa using hi),List.length_replicate,List.getElem?_map] at h
  cases e:fr[i - own]? with
  | none=>rw [e] at h;cases h
  | some j =>
   rw [e] at h
   have h:(σ[j]?).join=some v:=Option.some.inj h
   refine ⟨i - own,j,by omega,e,?_⟩
   cases q:σ[j]? with
   | none=>rw [q] at h;cases h
   | some o=>rw [q] at h;exact congrArg some h
theorem Fc {pins:List (Addr×Obj)} {σ:St} {H:Hp} {s:Shared} {fp:List Addr} {h1:Heap} {m1:Str→Option Value} {t:Nat} {C D:Addr} {od:Obj} (S:lW X sc cl own N fr) (I:Inv X pins σ H s) (hfp:∀ b∈fp,iL X pins H b)
  (hob:∀ b∈fp,∃ o,s.heap.get? b=some o) (kp:∀ b o,s.heap.get? b=some o→h1.get? b=some o) (hC:s.heap.objs.size≤C) (hns:h1.Ns C m1) (hD:s.heap.objs.size≤D) (hDC:D≠C) (ho:h1.get? D=some od) (hod:∀ v,od.data≠.cell v) :
  Inv (xA X sc N cl C s H fp) [(D,od)] (zK own fr σ) H { s with heap:=h1,toks:=t }:=by
 have xX:∀ b∈fp,b < s.heap.objs.size:=fun b hb=>let ⟨o,e⟩:=hob b hb;Heap.lt_size e
 refine ⟨⟨I.ok.mod,S.kind,I.ok.glob,I.ok.blt,hC,fun x y c a b=>I.ok.inj x y c (S.cells x c a) (S.cells y c b),S.has,(fun x c z=>nomatch z),I.ok.hd,I.ok.frames,.inl rfl,fun b hb=>?_,I.bs,Nat.le_trans I.ok.AO I.sz,fun b o e hb=>?_,fun b hb hf=>?_,I.stack,I.lY⟩,
  rfl,I.bare,Un.kept kp,⟨m1,hns,fun i x v e1 e2 e3=>?_⟩,fun x c e=>?_,I.hok.fresh hC,fun x c e=>I.gF x c (S.cells x c e),fun p hp=>?_,I.hok.kept kp,?_⟩
 ·exact ⟨Nat.ne_of_lt (Nat.lt_of_lt_of_le (xX b hb) hC),fun x c e=>(hfp b hb).2.2.2.2.1 x c (S.cells x c e)⟩
 ·rcases (hfp b hb).2.2.2.1 with z | z
  ·exact I.ok.wD b o e z
  ·exact absurd (Nat.lt_of_lt_of_le (Heap.lt_size e) (Nat.le_trans I.ok.AO z)) (Nat.lt_irrefl _)
 ·rcases List.mem_cons.mp (I.kF b hf) with z | z
  ·exact (hfp b hb).2.1 z
  ·exact (hfp b hb).2.2.1 z
 ·obtain ⟨k,j,rfl,ej,eσ⟩:=GX e2
  obtain ⟨y,n1,n2,k1,k2⟩:=S.TR k j ej
  have e1:N[own+k]?=some x:=e1
  rw [n1] at e1
  cases e1
  obtain ⟨m,hn,hl⟩:=I.loc
  obtain ⟨u,ru,l⟩:=hl j x v n2 eσ (by rcases k1 with z | z;exact .inr (.inl z);exact .inr (.inr z))
  refine ⟨u,ru,.inr ⟨k2,?_⟩⟩
  obtain ⟨c,hc⟩:=S.has x k2
  refine ⟨c,hc,?_⟩
  rcases l with ⟨q,_⟩ | ⟨_,c',e',z⟩
  ·rcases k1 with k1 | k1 <;> (rw [k1] at q;cases q)
  ·have:=S.cells x c hc
   rw [e'] at this;cases this
   obtain ⟨o,yU,h2'⟩:=z
   exact ⟨o,kp _ _ yU,h2'⟩
 ·obtain ⟨v,o,yU,h2'⟩:=I.cell x c (S.cells x c e)
  exact ⟨v,o,kp _ _ yU,h2'⟩
 ·have hp:p=(D,od):=by simpa using hp
  subst hp
  refine ⟨ho,I.hok.fresh hD,hDC,fun hf=>?_,hod⟩
  have:D∈X.env.locals::X.fs:=I.kF D hf
  rcases List.mem_cons.mp this with z | z
  ·exact absurd (Nat.lt_of_lt_of_le I.lt hD) (by rw [z];exact Nat.lt_irrefl _)
  ·exact I.Pq hD z
 ·unfold zK
  rw [List.length_append,List.length_replicate,List.length_map]
  exact S.len.symm
theorem Fd {pins pl:List (Addr×Obj)} {σ τ:St} {H H':Hp} {s s':Shared} {fp:List Addr} {C D:Addr} {ys:List V} {its:List Value} {n:Nat} (I:Inv X pins σ H s) (hfp:∀ b∈fp,iL X pins H b) (hC:s.heap.objs.size≤C) (hD:s.heap.objs.size≤D)
  (B:Inv (xA X sc N cl C s H fp) pl τ H' s') (hn:H' D=none) (ho:s'.heap.get? D=some { cls:=.type "list",data:=.seq its.toArray n }) (r:Vals ys its) (hz:ys.length≤sizeLine) :
  Inv X pins σ (upd H' D (.lst ys)) s':=by
 have ne:∀ b o,s.heap.get? b=some o→b≠D:=fun b o e=>Nat.ne_of_lt (Nat.lt_of_lt_of_le (Heap.lt_size e) hD)
 have nt:∀ b u,H' b=some u→b≠D:=fun b u e=>aq e hn
 refine I.Kg (ch:=fp) B.os ⟨B.base.keep,B.base.slot,fun b o e q hx=>?_,B.base.there,fun b xs e=>?_,fun b o u e=>?_,fun b ps e=>?_⟩ (fun b u e=>?_) B.bare fun b hb=>?_
 ·rw [aA (ne b o e)];exact B.base.free b o e q hx
 ·have:=B.base.tups b xs e;rw [aA (nt _ _ this)];exact this
 ·have:=B.base.oj b o u e;rw [aA (nt _ _ this)];exact this
 ·obtain ⟨mo,this⟩:=B.base.oG b ps e;exact ⟨mo,by rw [aA (nt _ _ this)];exact this⟩
 ·by_cases hb:b=D
  ·subst hb
   rw [ah] at e
   cases e
   exact ⟨hz,its,n,r,ho⟩
  ·rw [aA hb] at e
   exact (B.hok b u e).stay (fun _ _ _ q=>q) (fun c q=>by rw [aA (nt _ _ q)];exact q) fun c xs q=>by rw [aA (nt _ _ q)];exact q
 ·obtain ⟨_,f1,_,f3,f4,f5⟩:=hfp b hb
  exact ⟨f3,f1,f4,f5⟩
end
end L2
namespace L2
open PySem PySem.Spec PyProof.Rows
section
variable {X:Cx} {sc:Scope} {cl:List (Str×Addr)} {own:Nat} {N:List Str} {fr:List Nat}
theorem Inv.z0 {pins jj:List (Addr×Obj)} {σ:St} {H:Hp} {s:Shared} (I:Inv X pins σ H s) (h:∀ p∈jj,p∈pins):Inv X jj σ H s:=I.oX fun p hp=>I.pin p (List.mem_append_right _ (h p hp))
theorem xE {elt tg iter:Expr} {cs:List Expr} {pos:Pos} {g:TG} {tt:TT} {te:TE} {pins:List (Addr×Obj)} {σ:St} {H:Hp} {s:Shared} {it:Addr} {fp:List Addr} {tn:Nat→Heap→Prop} {J:It} {RR:Value→Addr→Result→Shared→Prop}
  (S:lW X sc cl own N fr) (hc:X.calm=true) (I:Inv X pins σ H s) (T:Turn X.prog X.w X.K tg J fp it tn) (st:tn 0 s.heap) (hfp:∀ b∈fp,iL X pins H b)
  (hg:∀ C s H,PG (xA X sc N cl C s H fp) tg g) (ht:∀ C s H,Q6 (xA X sc N cl C s H fp) cs tt) (he:∀ C s H,PE (xA X sc N cl C s H fp) elt te)
  {W:Nat→Nat→List V→Hp→Prop} {R:List V→Hp→Prop} (w0:∃ m,W 0 m [] H) (walk:qf J g tt te (zK own fr σ) W R)
  (fin:∀ D C H' ys s' m,s'.heap.Ns C m→H' D=none→iL X pins (upd H' D (.lst ys)) C→Inv X pins σ (upd H' D (.lst ys)) s'→R ys H'→RR (.ref D) C (.ok .next) s') :
  wpAny (model X.prog X.w) X.A (newList []) (fun acc s3=>wpAny (model X.prog X.w) X.A (newFunctionEnv sc X.env.globals cl [] X.env.qual none .none (some X.env)) (fun cenv s4 =>
   codeAny (model X.prog X.w) X.A (.compStart (.ListComp elt [⟨tg,iter,cs,0⟩] sc pos) 0 (.ref it) acc { cenv with scope:=relabel sc X.env }) (RR acc cenv.locals) s4) X.xe s3) X.xe s:=by
 refine wpAny_newObj_type (wpAny_newFunctionEnv S.uK (by intro y hy;simp at hy) (fun h1 hns Ms=>?_) S.kind)
 dsimp only at hns Ms ⊢
 generalize hH:s.heap.push { cls:=.type "list",dict:=none,data:=.seq ([]:List Value).toArray }=hp at hns Ms ⊢
 have sC:hp.objs.size=s.heap.objs.size+1:=by rw [← hH,Heap.size_push]
 have hDC:s.heap.objs.size≠hp.objs.size:=by omega
 have kp:∀ b o,s.heap.get? b=some o→h1.get? b=some o:=fun b o e=>by
  have l:=Heap.lt_size e
  exact Ms.extBut b o (Nat.ne_of_lt (by rw [sC];exact Nat.lt_succ_of_lt l)) (Heap.get?_push_of_some _ (hH ▸ Heap.get?_push_of_some _ e))
 have hD1:h1.get? s.heap.objs.size=some { cls:=.type "list",data:=.seq ([]:List Value).toArray }:=Ms.extBut _ _ hDC (Heap.get?_push_of_some _ (hH ▸ Heap.get?_push_size _ rfl))
 have xX:∀ b∈fp,b < s.heap.objs.size:=fun b hb=>let ⟨o,e,_⟩:=T.obj 0 _ st b hb;Heap.lt_size e
 generalize hCC:hp.objs.size=C at *
 generalize hDD:s.heap.objs.size=D at *
 have I1:∀ t,Inv (xA X sc N cl C s H fp) [(D,{ cls:=.type "list",data:=.seq ([]:List Value).toArray })] (zK own fr σ) H { s with heap:=h1,toks:=t }:=fun t =>
  Fc S I hfp (fun b hb=>let ⟨o,e,_⟩:=T.obj 0 _ st b hb;⟨o,e⟩) kp (by omega) hns (by omega) hDC hD1 (by intro v z;cases z)
 have st1:tn 0 h1:=T.keep 0 _ _ st fun b hb o e=>kp b o e
 have Ql:∀ {H':Hp} {s':Shared} {τ:St} {pl:List (Addr×Obj)} {od:Obj},Inv (xA X sc N cl C s H fp) pl τ H' s'→(∀ p∈pl,p.1=D)→(∀ b∈fp,H' b=none)→∀ b∈fp,iL (xA X sc N cl C s H fp) pl H' b:=fun {H' s' τ pl od} B hpl hn b hb=>by
  have q:=xX b hb
  refine ⟨hn b hb,(B.ok.KR b hb).1,B.ok.wH b hb,.inl hb,(B.ok.KR b hb).2,fun p hp=>?_⟩
  have hp:p∈pl:=by simpa using hp
  rw [hpl p hp];exact (Nat.ne_of_lt q).symm
 have loop:∀ t,codeAny (model X.prog X.w) X.A (.compLoop (.ListComp elt [⟨tg,iter,cs,0⟩] sc pos) 0 (.ref it) (.ref D) (compEnvC sc cl C X.env)) (RR (.ref D) C) { s with heap:=h1,toks:=t }:=by
  intro t
  obtain ⟨m0,w0⟩:=w0
  refine xD (fun n s'=>∃ i ys its k H',Inv (xA X sc N cl C s H fp) [(D,{ cls:=.type "list",data:=.seq (List.toArray its) k })] (zK own fr σ) H' s'∧tn i s'.heap∧(∀ b∈fp,H' b=none)∧Vals ys its∧ys.length≤sizeLine∧W i n ys H') ?_ m0
   ⟨0,[],[],_,H,I1 t,st1,fun b hb=>(hfp b hb).1,.nil,Nat.zero_le _,w0⟩
  rintro n s2 ⟨i,ys,its,k,H2,B2,st2,JN,rv,hz,w2⟩
  have pD:=B2.pin (D,{ cls:=.type "list",data:=.seq (List.toArray its) k }) (List.mem_append_right _ (List.mem_singleton.mpr rfl))
  rcases walk i n ys H2 w2 with ⟨stop,rr⟩ | ⟨go,nx,Tu,tk⟩
  ·refine wpAny_mono (T.done (xA X sc N cl C s H fp) rfl rfl rfl hc i _ s2 _ H2 gp B2 (Ql (od:=default) B2 (by simp) JN) st2 stop) (fun r s3 ⟨hr,B3⟩=>?_) fun _ _ z=>z
   subst hr
   obtain ⟨m3,n3,_⟩:=B3.loc
   have Pf:=B3.pin (D,{ cls:=.type "list",data:=.seq (List.toArray its) k }) (List.mem_append_right _ (List.mem_singleton.mpr rfl))
   refine fin D C H2 ys s3 m3 n3 Pf.2.1 ?_ (Fd I hfp (by omega) (by omega) B3 Pf.2.1 Pf.1 rv hz) rr
   exact I.AF (by omega) (by rw [aA (Ne.symm hDC)];exact B3.free)
  ·refine wpAny_mono (T.item (xA X sc N cl C s H fp) rfl rfl rfl hc i _ s2 _ H2 gp B2 (Ql (od:=default) B2 (by simp) JN) st2 go) (fun r s3 ⟨u,hr,g3⟩=>?_) fun _ _ z=>z
   subst hr
   refine wpAny_mono g3 (fun _ s4 ⟨x,H4,B4,rx,y4,OT,W0⟩=>?_) fun _ _ z=>z
   have B5:=B4.pinned (Ql (od:=default) B4 (by simp) W0) (T.obj _ _ OT)
   refine wpAny_mono (hg C s H _ s4 _ H4 x u _ B5 rx (tk x H4 y4)) (fun _ s5 ⟨σ5,H5,B6,ex,q5⟩=>?_) fun _ _ z=>z
   refine wpAny_mono (ht C s H _ s5 σ5 H5 _ B6 q5) (fun b s6 ⟨H6,B7,q6⟩=>?_) fun _ _ z=>z
   have back:∀ {H':Hp} {s':Shared},Inv (xA X sc N cl C s H fp) ([(D,{ cls:=.type "list",data:=.seq (List.toArray its) k })]++nS fp s4.heap) σ5 H' s'→tn (i+1) s'.heap∧∀ b∈fp,H' b=none:=fun {H' s'} B=>by
    refine ⟨T.keep _ _ _ OT fun b hb o e=>(B.pin (b,o) (List.mem_append_right _ (List.mem_append_right _ (d8 hb e)))).1,fun b hb=>?_⟩
    obtain ⟨o,e,_⟩:=T.obj _ _ OT b hb
    exact (B.pin (b,o) (List.mem_append_right _ (List.mem_append_right _ (d8 hb e)))).2.1
   cases b with
   | false =>
    obtain ⟨m',hm,w'⟩:=Tu _ _ q6
    obtain ⟨t7,f7⟩:=back B7
    exact ⟨m',hm,i+1,ys,its,k,H6,(B7.gD).weak ex.1.symm ex.2,t7,f7,rv,hz,w'⟩
   | true =>
    refine wpAny_mono (he C s H _ s6 σ5 H6 _ B7 q6) (fun x7 s7 ⟨v7,H7,B8,r7,hz7,q7⟩=>?_) fun _ _ z=>z
    obtain ⟨m',hm,w'⟩:=Tu _ _ q7
    obtain ⟨t8,f8⟩:=back B8
    have BG:=B8.pin (D,{ cls:=.type "list",data:=.seq (List.toArray its) k }) (List.mem_append_right _ (List.mem_append_left _ (List.mem_singleton.mpr rfl)))
    have lz:its.length=ys.length:=rv.length.symm
    refine call_meets F.slot_list_append ⟨_,BG.1,rfl⟩ F.entry_list_append (F.args_list_append_2 _ _) (PySem.list_append D its.toArray k x7 (by rw [List.size_toArray];omega)) ⟨BG.1,?_⟩
    have q:=PySem.IsL.update BG.1 (·.push x7)
    have eo:its.toArray.push x7=(its++[x7]).toArray:=by simp
    have B9:Inv (xA X sc N cl C s H fp) [] (zK own fr σ) H7 { s7 with heap:=s7.heap.update D (Obj.mapSeq (·.push x7)) } :=
     Inv.turned (t':=s7.toks) (((B8.z0 (jj:=[]) (by intro p hp;simp at hp)).weak ex.1.symm ex.2)) (fun b o hb e=>(Heap.get?_update_other _ _ (Ne.symm hb)).trans e) BG.2.1 hDC (.inr (by show s.heap.objs.size≤D;omega)) (fun y c e z=>by
      have:=B8.cell y c e
      obtain ⟨v,o,yU,h2'⟩:=this
      have yU:s7.heap.get? c=some o:=yU
      rw [z,BG.1] at yU
      cases yU
      cases h2') (by intro p hp;simp at hp)
    have B10:∀ o',(s7.heap.update D (Obj.mapSeq (·.push x7))).get? D=some o'→(∀ v,o'.data≠.cell v)→Inv (xA X sc N cl C s H fp) [(D,o')] (zK own fr σ) H7 { s7 with heap:=s7.heap.update D (Obj.mapSeq (·.push x7)) }:=fun o' e1 e2 =>
     Inv.oX B9 fun p hp=>by
      have hp:p=(D,o'):=by simpa using hp
      subst hp
      exact ⟨e1,BG.2.1,hDC,BG.2.2.2.1,e2⟩
    rw [eo] at q
    refine ⟨m',hm,i+1,ys++[v7],its++[x7],_,H7,B10 _ q (by intro v z;cases z),T.keep _ _ _ t8 fun b hb o e=>(Heap.get?_update_other _ _ (Nat.ne_of_gt (xX b hb))).trans e,f8,rv.append (.cons r7 .nil),by rw [List.length_append,List.length_singleton];omega,w'⟩
 exact codeAny_compStart_list (loop _) (T.self _ 0 _ _ _ st1 (loop _))
def GV (own:Nat) (fr:List Nat) (wi:TI) (g:TG) (tt:TT) (te:TE):TE:=fun σ H Q=>wi σ H fun J H1=>∃ W:Nat→Nat→List V→Hp→Prop,(∃ m,W 0 m [] H1) ∧
 qf J g tt te (zK own fr σ) W fun ys H2=>∀ p,H2 p=none→Q (.ref p) (upd H2 p (.lst ys))
theorem cB {elt tg iter:Expr} {cs:List Expr} {pos:Pos} {wi:TI} {g:TG} {tt:TT} {te:TE} (S:lW X sc cl own N fr) (hc:X.calm=true) (hi:PI X tg iter wi) (hg:∀ C s H fp,PG (xA X sc N cl C s H fp) tg g)
  (ht:∀ C s H fp,Q6 (xA X sc N cl C s H fp) cs tt) (he:∀ C s H fp,PE (xA X sc N cl C s H fp) elt te) (hs:∀ x,foldedSetIterable iter X.env x=pure x:=by intro _;rfl) :
  PE X (.ListComp elt [⟨tg,iter,cs,0⟩] sc pos) (GV own fr wi g tt te):=by
 intro pins s σ H Q I h
 rw [eval_ListComp]
 refine wpAny_comprehension_free (use:=none) rfl hs S.clos S.kind S.names (cy (hi pins s σ H _ I h) fun v s1 h1=>cy h1 fun itv s2 h2=>?_)
 obtain ⟨it,fp,tn,J,H2,e,I2,T,st2,f2,W,w0,walk⟩:=h2
 subst e
 refine xE (RR:=fun acc C=>compPost (model X.prog X.w) X.A X.xe none (EP X pins σ Q) acc C) S hc I2 T st2 f2 (fun C s H=>hg C s H fp) (fun C s H=>ht C s H fp) (fun C s H=>he C s H fp) w0 walk ?_
 intro D C H' ys s' m hn hD fC I' rr
 obtain ⟨f0,f1,f2',f3,f4,f5⟩:=fC
 exact ⟨m,hn,fun h' hs'=>⟨.ref D,_,Inv.turned (t':=s'.toks) I' (fun b o hb e=>hs'.extBut b o hb e) f0 f1 f3 f4 f5,rfl,rr D hD⟩⟩
theorem mw {elt tg iter:Expr} {cs:List Expr} {pos spos py:Pos} {wi:TI} {g:TG} {tt:TT} {te:TE} {i:Nat} {y:Str} (hN:X.N.Nodup) (hiy:X.N[i]?=some y) (hy:Loc X.env.scope y) (S:lW X sc cl own N fr) (hc:X.calm=true) (hi:PI X tg iter wi)
  (hg:∀ C s H fp,PG (xA X sc N cl C s H fp) tg g) (ht:∀ C s H fp,Q6 (xA X sc N cl C s H fp) cs tt) (he:∀ C s H fp,PE (xA X sc N cl C s H fp) elt te)
  (hsw:swapsWith (.ListComp elt [⟨tg,iter,cs,0⟩] sc pos) (some (.Name y py)) spos.line X.env=pure true:=by rfl) (hs:∀ x,foldedSetIterable iter X.env x=pure x:=by intro _;rfl)
  (hf:X.fn y=true∨X.env.scope.names.lookup y=some .local:=by first | exact .inl rfl | exact .inr rfl | assumption) :
  PS X (.Assign [.Name y py] (.ListComp elt [⟨tg,iter,cs,0⟩] sc pos) spos) (K4 (GV own fr wi g tt te) (DS i)):=by
 intro pins s σ H D0 I h
 rw [exec_Assign_Name_used _ _ _ _ hsw]
 refine wpAny_bind (wpAny_standAt (wpAny_bind ?_))
 show wpAny _ X.A (do let _ ← comprehension (.ListComp elt [⟨tg,iter,cs,0⟩] sc pos) sc X.env _ (newList []) false (eval iter X.env) (some (assign (.Name y py) X.env))) _ _ s
 refine wpAny_bind (cy (wpAny_comprehension_free (use:=some (assign (.Name y py) X.env)) (Q:=fun _ s'=>SP X pins D0 .next s') rfl hs S.clos S.kind S.names
  (cy (hi pins s σ H _ I h) fun v s1 h1=>cy h1 fun itv s2 h2=>?_)) fun _ s' hq=>wpAny_pure (wpAny_pure hq))
 obtain ⟨it,fp,tn,J,H2,e,I2,T,st2,f2,W,w0,walk⟩:=h2
 subst e
 refine xE (RR:=fun acc C=>compPost (model X.prog X.w) X.A X.xe (some (assign (.Name y py) X.env)) (fun _ s'=>SP X pins D0 .next s') acc C) S hc I2 T st2 f2 (fun C s H=>hg C s H fp) (fun C s H=>ht C s H fp) (fun C s H=>he C s H fp) w0 walk ?_
 intro D C H' ys s' m hn hD fC I' rr
 obtain ⟨f0,f1,f2',f3,f4,f5⟩:=fC
 show wpAny _ X.A (assign (.Name y py) X.env (.ref D)) _ _ _
 refine wpAny_assign_Name (qy I' hN hiy hy (v:=.ref D) rfl (fun s2 I2 ⟨a,sb,ha⟩=>?_) hf)
 have aC:C≠a:=by
  rcases ha with z | z
  ·rw [z];exact f1
  ·exact fun q=>f4 y a z q.symm
 exact ⟨m,hn.sameBut sb aC,fun h' hs'=>⟨_,_,Inv.turned (t':=s2.toks) I2 (fun b o hb e=>hs'.extBut b o hb e) f0 f1 f3 f4 f5,rr D hD⟩⟩
end
theorem gy {K:PySem.W.Frag} {a:Addr} {xs:List V} {g:TG} {tt:TT} {te:TE} {σ0:St} {H:Hp} {R:List V→Hp→Prop} (Pv:Nat→List V→Hp→Prop) (h0:Pv 0 [] H) (hl:∀ i ys H,i≤xs.length→Pv i ys H→bx K H a xs)
  (hs:∀ i x ys H,xs[i]?=some x→Pv i ys H→g x σ0 H fun σ2 H2=>Ext σ0 σ2∧tt σ2 H2 fun b H3=>if b=true then te σ2 H3 fun v H4=>ys.length < sizeLine∧Pv (i+1) (ys++[v]) H4 else Pv (i+1) ys H3)
  (hd:∀ ys H,Pv xs.length ys H→R ys H):∃ W:Nat→Nat→List V→Hp→Prop,(∃ m,W 0 m [] H)∧qf (KU K a) g tt te σ0 W R:=by
 refine ⟨fun i m ys H=>m=xs.length - i∧i≤xs.length∧Pv i ys H,⟨xs.length,by simp,Nat.zero_le _,h0⟩,?_⟩
 rintro i m ys H ⟨rfl,hi,p⟩
 have q:=hl i ys H hi p
 by_cases hlt:i < xs.length
 ·refine .inr ⟨⟨xs,xs[i],q,by simp [hlt]⟩,Pv (i+1),fun ys' H' p'=>⟨xs.length - (i+1),by omega,rfl,hlt,p'⟩,fun x H' y=>?_⟩
  obtain ⟨e,y⟩:=y
  subst e
  exact hs i x ys _ (y xs q) p
 ·have e:i=xs.length:=by omega
  subst e
  exact .inl ⟨⟨xs,q,Nat.le_refl _⟩,hd ys H p⟩
theorem cF {K:PySem.W.Frag} {a:Addr} {xs:List V} {g:TG} {tt:TT} {te:TE} {σ0:St} {H:Hp} {R:List V→Hp→Prop} (Pv:Nat→List V→Hp→Prop) (h0:Pv 0 [] H) (hl:∀ i ys H,i≤xs.length→Pv i ys H→aV K H a xs)
  (hs:∀ i x ys H,xs[i]?=some x→Pv i ys H→g x σ0 H fun σ2 H2=>Ext σ0 σ2∧tt σ2 H2 fun b H3=>if b=true then te σ2 H3 fun v H4=>ys.length < sizeLine∧Pv (i+1) (ys++[v]) H4 else Pv (i+1) ys H3)
  (hd:∀ ys H,Pv xs.length ys H→R ys H):∃ W:Nat→Nat→List V→Hp→Prop,(∃ m,W 0 m [] H)∧qf (FH K a) g tt te σ0 W R:=by
 refine ⟨fun i m ys H=>m=xs.length - i∧i≤xs.length∧Pv i ys H,⟨xs.length,by simp,Nat.zero_le _,h0⟩,?_⟩
 rintro i m ys H ⟨rfl,hi,p⟩
 have q:=hl i ys H hi p
 by_cases hlt:i < xs.length
 ·refine .inr ⟨⟨xs,xs[i],q,by simp [hlt]⟩,Pv (i+1),fun ys' H' p'=>⟨xs.length - (i+1),by omega,rfl,hlt,p'⟩,fun x H' y=>?_⟩
  obtain ⟨e,y⟩:=y
  subst e
  exact hs i x ys _ (y xs q) p
 ·have e:i=xs.length:=by omega
  subst e
  exact .inl ⟨⟨xs,q,Nat.le_refl _⟩,hd ys H p⟩
theorem om {lo:Int} {n:Nat} {g:TG} {tt:TT} {te:TE} {σ0:St} {H:Hp} {R:List V→Hp→Prop} (Pv:Nat→List V→Hp→Prop) (h0:Pv 0 [] H)
  (hs:∀ i ys H,i < n→Pv i ys H→g (.int (lo+i)) σ0 H fun σ2 H2=>Ext σ0 σ2∧tt σ2 H2 fun b H3=>if b=true then te σ2 H3 fun v H4=>ys.length < sizeLine∧Pv (i+1) (ys++[v]) H4 else Pv (i+1) ys H3)
  (hd:∀ ys H,Pv n ys H→R ys H):∃ W:Nat→Nat→List V→Hp→Prop,(∃ m,W 0 m [] H)∧qf (Ra lo n) g tt te σ0 W R:=by
 refine ⟨fun i m ys H=>m=n - i∧i≤n∧Pv i ys H,⟨n,by simp,Nat.zero_le _,h0⟩,?_⟩
 rintro i m ys H ⟨rfl,hi,p⟩
 by_cases hlt:i < n
 ·refine .inr ⟨hlt,Pv (i+1),fun ys' H' p'=>⟨n - (i+1),by omega,rfl,hlt,p'⟩,fun x H' y=>?_⟩
  obtain ⟨e,y⟩:=y
  subst e y
  exact hs i ys _ hlt p
 ·have e:i=n:=by omega
  subst e
  exact .inl ⟨Nat.le_refl _,hd ys H p⟩
def a4P (K:PySem.W.Frag) (tl:TE):TI:=fun σ H R=>tl σ H fun x H1=>∃ a,x=.ref a∧(((∃ xs,bx K H1 a xs)∧R (KU K a) H1)∨((∃ xs,aV K H1 a xs)∧R (FH K a) H1))
theorem HE {X:Cx} {tg l:Expr} {tl:TE} (hl:PE X l tl):PI X tg l (a4P X.K tl):=by
 intro pins s σ H R I h
 refine cy (hl pins s σ H _ I h) fun v s1 ⟨x,H1,I1,r1,q1⟩=>?_
 obtain ⟨a,e,q⟩:=q1
 subst e
 cases r1
 have fo:∀ b∈[s1.heap.objs.size],iL X pins H1 b:=fun b hb=>by
  have e:b=s1.heap.objs.size:=by simpa using hb
  subst e
  exact I1.AF (Nat.le_refl _) (I1.hok.fresh (Nat.le_refl _))
 rcases q with ⟨⟨xs,hq⟩,q⟩ | ⟨⟨xs,hq⟩,q⟩
 ·obtain ⟨its,rv,p,hz⟩:=I1.list hq
  refine wpAny_pyIter_list p.isList ?_
  exact ⟨s1.heap.objs.size,[s1.heap.objs.size],_,_,H1,rfl,I1.kept (t':=s1.toks) fun b o e=>Heap.get?_push_of_some _ e,wM a _,⟨_,Heap.get?_push_size _ rfl,rfl,rfl⟩,fo,q⟩
 ·obtain ⟨its,rv,p,hz⟩:=I1.tuple hq
  refine wpAny_pyIter_tuple (show s1.heap.IsTuple a its.toArray from p) ?_
  exact ⟨s1.heap.objs.size,[s1.heap.objs.size],_,_,H1,rfl,I1.kept (t':=s1.toks) fun b o e=>Heap.get?_push_of_some _ e,tO a _,⟨_,Heap.get?_push_size _ rfl,rfl,rfl⟩,fo,q⟩
end L2
namespace Hw
open PySem PySem.Spec
def lt (a b:Str):Bool:=ltCps a.cps.toList b.cps.toList
theorem Oj:∀ a:List Nat,ltCps a a=false
 | []=>rfl
 | x::r=>by simp [ltCps,Oj r]
theorem Eb:∀ a b c:List Nat,ltCps a b=true→ltCps b c=true→ltCps a c=true
 | [],[],_,h,_=>by simp [ltCps] at h
 | [],_::_,[],_,h=>by simp [ltCps] at h
 | [],_::_,_::_,_,_=>rfl
 | _::_,[],_,h,_=>by simp [ltCps] at h
 | _::_,_::_,[],_,h=>by simp [ltCps] at h
 | x::a,y::b,z::c,h,g=>by
  simp only [ltCps,Bool.or_eq_true,Bool.and_eq_true,decide_eq_true_eq,beq_iff_eq] at h g ⊢
  rcases h with h | ⟨h,h'⟩ <;> rcases g with g | ⟨g,g'⟩
  ·left;omega
  ·left;omega
  ·left;omega
  ·right;exact ⟨by omega,Eb a b c h' g'⟩
theorem Oi:∀ a b:List Nat,ltCps a b=true∨a=b∨ltCps b a=true
 | [],[]=>.inr (.inl rfl)
 | [],_::_=>.inl rfl
 | _::_,[]=>.inr (.inr rfl)
 | x::a,y::b=>by
  simp only [ltCps,Bool.or_eq_true,Bool.and_eq_true,decide_eq_true_eq,beq_iff_eq,List.cons.injEq]
  rcases Nat.lt_trichotomy x y with h | h | h
  ·exact .inl (.inl h)
  ·rcases Oi a b with g | g | g
   ·exact .inl (.inr ⟨h,g⟩)
   ·exact .inr (.inl ⟨h,g⟩)
   ·exact .inr (.inr (.inr ⟨h.symm,g⟩))
  ·exact .inr (.inr (.inl h))
theorem yN (a:Str):lt a a=false:=Oj _
theorem lt_trans {a b c:Str}:lt a b=true→lt b c=true→lt a c=true:=Eb _ _ _
theorem uV (a b:Str):lt a b=true∨a=b∨lt b a=true:=by
 rcases Oi a.cps.toList b.cps.toList with h | h | h
 ·exact .inl h
 ·refine .inr (.inl ?_)
  obtain ⟨⟨x⟩⟩:=a;obtain ⟨⟨y⟩⟩:=b
  have h:x=y:=h
  rw [h]
 ·exact .inr (.inr h)
theorem DE {a b:Str} (h:lt a b=true):a≠b:=fun e=>by rw [e,yN] at h;cases h
theorem not_lt_trans {a b c:Str} (h:lt b a=false) (g:lt c b=false):lt c a=false:=by
 rcases uV c a with e | e | e
 ·rcases uV b a with k | k | k
  ·rw [h] at k;cases k
  ·rw [k] at g;rw [g] at e;cases e
  ·rw [lt_trans e k] at g;cases g
 ·rw [e];exact yN a
 ·cases q:lt c a with
  | false=>rfl
  | true=>have:=lt_trans e q;rw [yN] at this;cases this
abbrev Ps:=List (Str×Int)
def bH:Ps→(Str→Int)→Int
 | [],_=>0
 | p::r,f=>p.2*f p.1+bH r f
theorem cE:∀ (a b:Ps) (f:Str→Int),bH (a++b) f=bH a f+bH b f
 | [],b,f=>by simp [bH]
 | p::a,b,f=>by simp only [List.cons_append,bH,cE a b f];omega
theorem Jf {a b:Ps} (h:a.Perm b) (f:Str→Int):bH a f=bH b f:=by
 induction h with
 | nil=>rfl
 | cons x _ ih=>simp only [bH,ih]
 | swap x y l=>simp only [bH];omega
 | trans _ _ i j=>exact i.trans j
theorem uX (k:Int):∀ (a:Ps) (f:Str→Int),bH (a.map fun p=>(p.1,p.2*k)) f=bH a f*k
 | [],f=>by simp [bH]
 | p::a,f=>by
  simp only [List.map_cons,bH,uX k a f,Int.add_mul]
  rw [Int.mul_assoc,Int.mul_comm k,← Int.mul_assoc]
theorem yP:∀ (a:Ps) (f:Str→Int),bH (a.map fun p=>(p.1,-p.2)) f=-bH a f
 | [],f=>by simp [bH]
 | p::a,f=>by
  simp only [List.map_cons,bH,yP a f,Int.neg_mul];omega
theorem n9:∀ (a:Ps) (f:Str→Int),bH (a.filter fun p=>decide (p.2≠0)) f=bH a f
 | [],f=>rfl
 | p::a,f=>by
  by_cases h:p.2=0
  ·rw [List.filter_cons_of_neg (by simp [h]),n9 a f,bH,h];simp
  ·rw [List.filter_cons_of_pos (by simp [h]),bH,bH,n9 a f]
structure Canon (a:Ps):Prop where
 up:a.Pairwise fun p q=>lt p.1 q.1=true
 nz:∀ p∈a,p.2≠0
def ind (t:Str):Str→Int:=fun s=>if s=t then 1 else 0
theorem pO {t:Str}:∀ {a:Ps},(∀ p∈a,p.1≠t)→bH a (ind t)=0
 | [],_=>rfl
 | p::a,h=>by
  have h1:p.1≠t:=h p (List.mem_cons_self ..)
  rw [bH,pO (a:=a) fun q hq=>h q (List.mem_cons_of_mem _ hq)]
  simp [ind,h1]
theorem Canon.tail {p:Str×Int} {a:Ps} (c:Canon (p::a)):Canon a:=⟨(List.pairwise_cons.mp c.up).2,fun q hq=>c.nz q (List.mem_cons_of_mem _ hq)⟩
theorem Canon.head {p:Str×Int} {a:Ps} (c:Canon (p::a)):bH (p::a) (ind p.1)=p.2:=by
 rw [bH,pO fun q hq=>(DE ((List.pairwise_cons.mp c.up).1 q hq)).symm]
 simp [ind]
theorem Canon.low {t:Str} {p:Str×Int} {a:Ps} (c:Canon (p::a)) (h:lt t p.1=true):bH (p::a) (ind t)=0:=by
 refine pO fun q hq=>?_
 rcases List.mem_cons.mp hq with rfl | hq
 ·exact (DE h).symm
 ·exact (DE (lt_trans h ((List.pairwise_cons.mp c.up).1 q hq))).symm
theorem Canon.same:∀ {a b:Ps},Canon a→Canon b→(∀ f,bH a f=bH b f)→a=b
 | [],[],_,_,_=>rfl
 | [],p::b,_,cb,h=>by
  have e:=h (ind p.1)
  rw [cb.head] at e
  exact absurd e.symm (cb.nz p (List.mem_cons_self ..))
 | p::a,[],ca,_,h=>by
  have e:=h (ind p.1)
  rw [ca.head] at e
  exact absurd e (ca.nz p (List.mem_cons_self ..))
 | p::a,q::b,ca,cb,h=>by
  rcases uV p.1 q.1 with g | g | g
  ·have e:=h (ind p.1)
   rw [ca.head,cb.low g] at e
   exact absurd e (ca.nz p (List.mem_cons_self ..))
  ·have e:=h (ind p.1)
   rw [ca.head,g,cb.head] at e
   have pq:p=q:=Prod.ext g e
   subst pq
   rw [Canon.same ca.tail cb.tail fun f=>by have:=h f;simp only [bH] at this;omega]
  ·have e:=h (ind q.1)
   rw [cb.head,ca.low g] at e
   exact absurd e.symm (cb.nz q (List.mem_cons_self ..))
def sJ (a b:Ps):Prop:=Canon b∧∀ f,bH b f=bH a f
theorem sJ.same {a b a' b':Ps} (h:sJ a b) (h':sJ a' b') (e:∀ f,bH a f=bH a' f):b=b':=h.1.same h'.1 fun f=>by rw [h.2,h'.2,e]
def get (d:Ps) (t:Str):Int:=((d.find? fun p=>decide (p.1=t)).map (·.2)).getD 0
def put (d:Ps) (t:Str) (n:Int):Ps:=if (d.any fun p=>decide (p.1=t))=true then d.map (fun p=>if p.1=t then (p.1,n) else p) else d++[(t,n)]
def keys (d:Ps):List Str:=d.map (·.1)
theorem cU (p:Str×Int) (r:Ps) (t:Str):get (p::r) t=if p.1=t then p.2 else get r t:=by
 unfold get
 by_cases e:p.1=t
 ·simp [List.find?_cons,e]
 ·simp [List.find?_cons,e]
theorem j4 (d:Ps) (t:Str):(d.any fun p=>decide (p.1=t))=true↔t∈keys d:=by
 unfold keys
 rw [List.any_eq_true,List.mem_map]
 constructor
 ·rintro ⟨p,h,e⟩;exact ⟨p,h,of_decide_eq_true e⟩
 ·rintro ⟨p,h,e⟩;exact ⟨p,h,decide_eq_true e⟩
theorem vq:∀ {d:Ps} {t:Str},t ∉ keys d→get d t=0
 | [],_,_=>rfl
 | p::r,t,h=>by
  have h':p.1≠t∧t ∉ keys r:=by
   constructor
   ·intro e;exact h (by unfold keys;rw [List.map_cons,e];exact List.mem_cons_self ..)
   ·intro e;exact h (List.mem_cons_of_mem _ e)
  rw [cU,if_neg h'.1,vq h'.2]
theorem vg (d:Ps) (t:Str) (n:Int):keys (put d t n)=if t∈keys d then keys d else keys d++[t]:=by
 unfold put
 by_cases h:t∈keys d
 ·rw [if_pos ((j4 d t).mpr h),if_pos h]
  unfold keys
  rw [List.map_map]
  refine List.map_congr_left fun p _=>?_
  show (if p.1=t then (p.1,n) else p).1=p.1
  split <;> rfl
 ·rw [if_neg (fun e=>h ((j4 d t).mp e)),if_neg h]
  unfold keys
  rw [List.map_append];rfl
theorem wZ {d:Ps} {t:Str} {n:Int} (h:(keys d).Nodup):(keys (put d t n)).Nodup:=by
 rw [vg]
 by_cases e:t∈keys d
 ·rw [if_pos e];exact h
 ·rw [if_neg e,List.nodup_append]
  refine ⟨h,by simp,fun x hx y hy=>?_⟩
  rw [List.mem_singleton] at hy
  rw [hy];rintro rfl;exact e hx
theorem s9 (d:Ps) (t:Str) (n:Int):(put d t n).length≤d.length+1:=by
 have h:(keys (put d t n)).length≤(keys d).length+1:=by
  rw [vg];split
  ·omega
  ·simp
 simpa [keys] using h
theorem Aq (t:Str) (n:Int) (f:Str→Int):∀ {d:Ps},(keys d).Nodup→t∈keys d→bH (d.map fun p=>if p.1=t then (p.1,n) else p) f=bH d f+(n - get d t)*f t
 | [],_,h=>by simp [keys] at h
 | p::r,nd,h=>by
  have S7:p.1 ∉ keys r∧(keys r).Nodup:=List.nodup_cons.mp nd
  rw [List.map_cons,bH,bH,cU]
  by_cases e:p.1=t
  ·have hr:r.map (fun p=>if p.1=t then (p.1,n) else p)=r:=by
    refine (List.map_congr_left fun q hq=>?_).trans (List.map_id r)
    rw [if_neg];rfl
    intro z
    exact S7.1 (by rw [e,← z];exact List.mem_map.mpr ⟨q,hq,rfl⟩)
   rw [hr,if_pos e,if_pos e,Int.sub_mul]
   show n*f p.1+_=_
   rw [e];omega
  ·have ht:t∈keys r:=(List.mem_cons.mp h).resolve_left fun z=>e z.symm
   rw [if_neg e,if_neg e,Aq t n f S7.2 ht];omega
theorem Mb {d:Ps} (t:Str) (n:Int) (f:Str→Int) (nd:(keys d).Nodup):bH (put d t n) f=bH d f+(n - get d t)*f t:=by
 unfold put
 by_cases h:t∈keys d
 ·rw [if_pos ((j4 d t).mpr h),Aq t n f nd h]
 ·rw [if_neg (fun e=>h ((j4 d t).mp e)),cE,vq h];simp [bH]
def step (d:Ps) (p:Str×Int):Ps:=put d p.1 (get d p.1+p.2)
structure Tab (pre d:Ps):Prop where
 nd:(keys d).Nodup
 len:d.length≤pre.length
 bH:∀ f,bH d f=bH pre f
theorem Tab.nil:Tab [] []:=⟨.nil,Nat.le_refl _,fun _=>rfl⟩
theorem Tab.step {pre d:Ps} (h:Tab pre d) (p:Str×Int):Tab (pre++[p]) (step d p):=by
 refine ⟨wZ h.nd,?_,fun f=>?_⟩
 ·have:=s9 d p.1 (get d p.1+p.2);have:=h.len;simp;unfold Hw.step;omega
 ·unfold Hw.step
  rw [Mb _ _ _ h.nd,cE,h.bH]
  simp only [Hw.bH]
  have:get d p.1+p.2 - get d p.1=p.2:=by omega
  rw [this];omega
theorem Ar:∀ {d:Ps} (f:Str→Int),(keys d).Nodup→bH ((keys d).map fun t=>(t,get d t)) f=bH d f
 | [],_,_=>rfl
 | p::r,f,nd=>by
  have S7:p.1 ∉ keys r∧(keys r).Nodup:=List.nodup_cons.mp nd
  show bH ((p.1,get (p::r) p.1)::(keys r).map fun t=>(t,get (p::r) t)) f=_
  have e:((keys r).map fun t=>(t,get (p::r) t))=(keys r).map fun t=>(t,get r t):=by
   refine List.map_congr_left fun t ht=>?_
   rw [cU,if_neg (fun z=>S7.1 (by rw [z];exact ht))]
  rw [e,bH,Ar f S7.2,cU,if_pos rfl,bH]
def outs (d:Ps) (ys:List Str):Ps:=(ys.map fun t=>(t,get d t)).filter fun p=>decide (p.2≠0)
theorem Tab.gat {pre d:Ps} {ys:List Str} (h:Tab pre d) (hp:ys.Perm (keys d)) (hs:ys.Pairwise fun a b=>lt b a=false):sJ pre (outs d ys):=by
 have nd:ys.Nodup:=hp.nodup_iff.mpr h.nd
 have up:ys.Pairwise fun a b=>lt a b=true:=by
  have:=hs.and nd
  refine this.imp fun {a b} q=>?_
  rcases uV a b with e | e | e
  ·exact e
  ·exact absurd e q.2
  ·rw [q.1] at e;cases e
 refine ⟨⟨?_,fun p hp=>?_⟩,fun f=>?_⟩
 ·unfold outs
  refine List.Pairwise.filter _ ?_
  rw [List.pairwise_map];exact up
 ·exact of_decide_eq_true (List.mem_filter.mp hp).2
 ·unfold outs
  rw [n9,Jf (hp.map _),Ar f h.nd,h.bH]
end Hw
namespace L2
open PySem PySem.Spec PyProof.Rows
section
variable {X:Cx}
theorem rO:∀ (ns:List Int),PySem.preSum (fun i=>ns.getD i 0) ns.length=ns.sum:=by
 intro ns
 induction ns with
 | nil=>rfl
 | cons n r ih =>
  rw [List.length_cons,PySem.W.kdu_shift,List.sum_cons,← ih]
  rfl
theorem Ke (hc:X.calm=true):iI X (.builtin "sum") (fun xs H Q=>∃ (p:Addr) (ns:List Int),xs=[.ref p]∧bx X.K H p (ns.map V.int)∧Q (.int ns.sum) H):=by
 intro pins s σ H xs us Q I r h
 obtain ⟨p,ns,rfl,hq,q⟩:=h
 obtain ⟨u,rfl,ru⟩:=vals1 r
 cases ru
 obtain ⟨its,rv,pl,hz⟩:=I.list hq
 have hi:IntsAre its ns:=intsAre_of rv
 have lp:p < s.heap.objs.size:=let ⟨o,_,e,_⟩:=pl;Heap.lt_size e
 refine call_sum_walkAnyS (wpAny_pyIter_list pl.isList ?_)
 have W:=Walks.list (prog:=X.prog) (w:=X.w) (A:=X.A.in1) (I.ok.hd hc) s.heap.objs.size p (Nat.ne_of_lt lp) its.toArray
 refine ⟨s.heap.objs.size,_,_,_,_,_,_,(fun i=>ns.getD i 0),rfl,W.toS,⟨⟨_,Heap.get?_push_size _ rfl,rfl,rfl⟩,pl.isList.at fun o e=>Heap.get?_push_of_some _ e⟩,fun b hb=>?_,fun i v hv=>?_,fun s' t' hm=>?_⟩
 ·show b < (s.heap.push _).objs.size
  rw [Heap.size_push]
  rcases List.mem_cons.mp hb with e | hb
  ·rw [e];exact Nat.lt_succ_self _
  ·rw [List.mem_singleton.mp hb];exact Nat.lt_succ_of_lt lp
 ·have hv:its.toArray[i]?=some v:=hv
  have hv:its[i]?=some v:=by simpa using hv
  have hl:=rv.length
  have hil:i < its.length:=(List.getElem?_eq_some_iff.mp hv).1
  rw [List.length_map] at hl
  obtain ⟨u,hu,ru⟩:=rv.get (i:=i) (x:=.int (ns.getD i 0)) (by rw [List.getElem?_map,List.getD_eq_getElem?_getD,List.getElem?_eq_getElem (by omega)];rfl)
  rw [hv] at hu
  cases hu
  exact ru
 ·have kp:∀ b o,s.heap.get? b=some o→s'.heap.get? b=some o:=fun b o e =>
   hm.heap b o (fun hI=>absurd (Heap.lt_size e) (by rw [List.mem_singleton.mp hI];exact Nat.lt_irrefl _)) (Heap.get?_push_of_some _ e)
  rw [Moved.eq_with hm]
  have hl:=rv.length
  rw [List.length_map] at hl
  have e:PySem.preSum (fun i=>ns.getD i 0) its.toArray.size=ns.sum:=by rw [List.size_toArray,← hl];exact rO ns
  rw [e]
  exact ⟨.int ns.sum,H,I.kept (t':=s'.toks) kp,⟨_,rfl⟩,q⟩
theorem rN:∀ (p:Str) (l:List Str),risingS p l=true→(p::l).Pairwise fun a b=>Hw.lt b a=false
 | p,[],_=>by simp
 | p,x::r,h=>by
  have h:(!ltCps x.cps.toList p.cps.toList && risingS x r)=true:=h
  rw [Bool.and_eq_true,Bool.not_eq_true'] at h
  have ih:=rN x r h.2
  refine List.pairwise_cons.mpr ⟨fun y hy=>?_,ih⟩
  rcases List.mem_cons.mp hy with rfl | hy
  ·exact h.1
  ·exact Hw.not_lt_trans h.1 ((List.pairwise_cons.mp ih).1 y hy)
theorem yj:∀ (l:List Str),sortedS l=true→l.Pairwise fun a b=>Hw.lt b a=false
 | [],_=>.nil
 | x::r,h=>rN x r h
theorem tT:∀ {ss:List Str} {us:List Value},StrsAre us ss→Vals (ss.map V.str) us
 | _,_,.nil=>.nil
 | _,_,.cons x t h=>.cons ⟨t,rfl⟩ (tT h)
theorem rQ:∀ {ss:List Str} {us:List Value},Vals (ss.map V.str) us→StrsAre us ss:=by
 intro ss
 induction ss with
 | nil=>intro us r;rw [List.map_nil] at r;cases r;exact .nil
 | cons x ss ih =>
  intro us r
  rw [List.map_cons] at r
  cases r with
  | cons r1 r2 =>
   obtain ⟨t,e⟩:=r1
   subst e
   exact .cons x t (ih r2)
theorem rA:∀ {xs:List V} {us:List Value},xs.length=us.length→(∀ (i:Nat) x,xs[i]?=some x→∃ u,us[i]?=some u∧RelV x u)→Vals xs us
 | [],[],_,_=>.nil
 | [],_::_,h,_=>by simp at h
 | _::_,[],h,_=>by simp at h
 | x::xs,u::us,h,g=>by
  obtain ⟨v,e,r⟩:=g 0 x rfl
  cases e
  exact .cons r (rA (by simpa using h) fun i y hy=>g (i+1) y hy)
theorem cD.here {P:Program} {w:World} {H:Hp} {h:Heap} {a:Addr} {o:HO} (x:cD P w H h a o):∃ u,h.get? a=some u:=by
 cases o with
 | lst xs=>obtain ⟨_,_,_,_,e⟩:=x;exact ⟨_,e⟩
 | tup xs=>obtain ⟨_,_,_,o,e,_⟩:=x;exact ⟨_,e⟩
 | dK kvs=>obtain ⟨_,_,_,_,o,_,_,e,_⟩:=x;exact ⟨_,e⟩
 | dT kvs=>obtain ⟨_,_,_,_,o,_,_,e,_⟩:=x;exact ⟨_,e⟩
 | set S n=>obtain ⟨o,_,_,_,e,_⟩:=x;exact ⟨_,e⟩
 | ins C dx fs=>obtain ⟨_,_,_,e,_⟩:=x;exact ⟨_,e⟩
 | own y=>obtain ⟨_,e⟩:=x;exact ⟨_,e⟩
 | xd fs=>obtain ⟨_,⟨_,_,_,e,_⟩,_⟩:=x;exact ⟨_,e⟩
 | VX lo hi=>obtain ⟨_,_,_,e⟩:=x;exact ⟨_,e⟩
 | Ci ob u=>obtain ⟨e,_⟩:=x;exact ⟨_,e⟩
 | NJ ps=>exact ⟨_,(show h.get? a=some _ from x)⟩
 | met f y=>exact ⟨_,(show h.get? a=some _ from x)⟩
 | ext φ=>obtain ⟨_,⟨_,e⟩,_⟩:=x;exact ⟨_,e⟩
theorem Inv.Tf {pins:List (Addr×Obj)} {σ:St} {H:Hp} {s:Shared} {h':Heap} {a:Addr} {o:HO} {t':Nat} (I:Inv X pins σ H s) (k:∀ b u,s.heap.get? b=some u→h'.get? b=some u) (hp:∀ b u,s.heap.get? b=some u→b≠a) (new:cD X.prog X.w (upd H a o) h' a o) :
  H a=none∧Inv X pins σ (upd H a o) { s with heap:=h',toks:=t' }:=by
 have hn:H a=none:=by
  cases q:H a with
  | none=>rfl
  | some u=>obtain ⟨v,e⟩:=(I.hok a u q).here;exact absurd rfl (hp a v e)
 refine ⟨hn,I.un ⟨fun b u e _ _ _=>k b u e,fun b u e _ _ _=>⟨u.slots,k b u e⟩,fun b u e n _=>by rw [aA (hp b u e)];exact n,fun b u e _=>⟨u,k b u e⟩,fun b xs e=>by rw [aA (aq e hn)];exact e,fun b u xs e=>by rw [aA (aq e hn)];exact e,fun b ps e=>⟨#[],by rw [aA (aq e hn),e];simp⟩⟩ fun b u e=>?_⟩
 by_cases hb:b=a
 ·subst hb;rw [ah] at e;cases e;exact new
 ·rw [aA hb] at e
  exact (I.hok b u e).stay (fun c v _ q=>k c v q) (fun c q=>by rw [aA (aq q hn)];exact q) fun c xs q=>by rw [aA (aq q hn)];exact q
theorem qe (hc:X.calm=true):iI X (.builtin "sorted") (fun xs H Q=>∃ p kvs ss,xs=[.ref p]∧H p=some (.dK kvs)∧kvs.map (·.1)=List.map (Sum.inr:Str→Key) ss∧kvs.length < 64 ∧
  ∀ l ys,H l=none→List.Perm ys ss→ys.Pairwise (fun a b=>Hw.lt b a=false)→Q (.ref l) (upd H l (.lst (ys.map V.str)))):=by
 intro pins s σ H xs us Q I r h
 obtain ⟨p,kvs,ss,rfl,hp,hk,h64,q⟩:=h
 obtain ⟨u,rfl,ru⟩:=vals1 r
 cases ru
 obtain ⟨hz,lo,vs,rel,dd⟩:=vD I.hok (.inl hp)
 obtain ⟨ep,hat⟩:=dd.dictAt
 have mU:=rel.length
 refine Calls.call_function_entry kind_sorted plain_sorted entry_sorted (args_sorted1 _) ?_
 unfold Builtin.«sorted»
 refine wpAny_bind (m:=checkCount "sorted" 1 1 _) (wpAny_pure (wpAny_bind (PySem.W.kdu_collect (A:=X.A.in1) (PySem.W.kdl_dict (knd:=cP X.prog X.w) (kvs:=vs) (ep:=ep) lo) (I.ok.hd hc) hat (by rw [← mU];exact hz) fun h' tk acc kp hacc=>?_)))
 have hS:StrsAre acc.toList ss:=by
  refine rQ (rA ?_ fun i x hx=>?_)
  ·have:(kvs.map (·.1)).length=(List.map (Sum.inr:Str→Key) ss).length:=by rw [hk]
   rw [List.length_map,List.length_map] at this
   have el:acc.toList.length=kvs.length:=by rw [Array.length_toList,hacc.1,← mU]
   rw [List.length_map,el,this]
  ·rw [List.getElem?_map] at hx
   cases e:ss[i]? with
   | none=>rw [e] at hx;cases hx
   | some y =>
    rw [e] at hx
    cases hx
    have hi:i < acc.size:=by
     have h1:i < ss.length:=(List.getElem?_eq_some_iff.mp e).1
     have:(kvs.map (·.1)).length=(List.map (Sum.inr:Str→Key) ss).length:=by rw [hk]
     rw [List.length_map,List.length_map] at this
     rw [hacc.1];omega
    obtain ⟨k,x,hv,hkk⟩:=hacc.2 i acc[i] (by simp)
    have ek:(vs.map (·.1))[i]?=some (Sum.inr y):=by rw [← rel.keys,hk,List.getElem?_map,e];rfl
    rw [List.getElem?_map,hv] at ek
    have ek:k=Sum.inr y:=Option.some.inj ek
    subst ek
    rcases cL (show vj (Sum.inr y) acc[i]=true from hkk) with ⟨_,_,z,_⟩ | ⟨z,t,z1,z2⟩
    ·cases z
    ·cases z1
     exact ⟨acc[i],by simp,t,z2⟩
 have hla:acc.toList.length < 64:=by rw [Array.length_toList,hacc.1,← mU];exact h64
 refine wpAny_bind (wpAny_newList ?_ (by
   have:64≤sizeLine:=by rw [sizeLine_eq];decide
   omega))
 have ho:(h'.push (seqObj "list" acc.toList.toArray 0)).get? h'.objs.size=some (seqObj "list" acc.toList.toArray 0):=Heap.get?_push_size _ rfl
 refine wpAny_bind (wpAny_holding (wpAny_call_entry slot_list_sort ⟨_,ho,rfl⟩ entry_list_sort (list_sort_treeK (s:={ s with heap:=h'.push (seqObj "list" acc.toList.toArray 0),toks:=tk }) strKind_oneLt ho hS.keysOf (fun v1 v2 rest e=>keyKind_strs (by rw [← e];exact hS)) hla fun st' a1 a2=>⟨_,rfl,?_⟩) (args_list_sort _)))
 obtain ⟨ss',b1,b2,b3⟩:=sorted_out_str hS a1 a2
 obtain ⟨e,he⟩:=sortedHeap_at (out:=(arrOf st').map (·.2)) ho
 have hss:(ss'.map V.str).length≤sizeLine:=by
  have h1:64≤sizeLine:=by rw [sizeLine_eq];decide
  have h2:(ss'.map V.str).length=acc.toList.length:=by rw [List.length_map,b2.length_eq,← StrsAre.length hS]
  rw [h2]
  exact Nat.le_trans (Nat.le_of_lt hla) h1
 have L:=I.Tf (h':=sortedHeap (h'.push (seqObj "list" acc.toList.toArray 0)) h'.objs.size acc.toList ((arrOf st').map (·.2))) (a:=h'.objs.size) (o:=.lst (ss'.map V.str)) (t':=tk)
  (fun b u q=>by
   have l:=Heap.lt_size (kp b u q)
   rw [sortedHeap_old (Nat.ne_of_lt l) (by rw [Heap.size_push];exact Nat.lt_succ_of_lt l)]
   exact Heap.get?_push_of_some _ (kp b u q))
  (fun b u q=>Nat.ne_of_lt (Heap.lt_size (kp b u q)))
  ⟨hss,((arrOf st').map (·.2)).toList,e,tT b1,by rw [Array.toArray_toList];exact he⟩
 exact wpAny_pure ⟨_,rfl,.ref h'.objs.size,_,L.2,rfl,q _ ss' L.1 b2 (yj _ b3)⟩
def lR (K:PySem.W.Frag) (H:Hp):Nat→V→V→Prop
 | 0,x,y=>iF x=true∧x=y
 | n+1,x,y=>(iF x=true∧x=y)∨∃ a b xs ys,x=.ref a∧y=.ref b∧((bx K H a xs∧bx K H b ys)∨(aV K H a xs∧aV K H b ys))∧Paired (lR K H n) xs ys
theorem JX {x:V} (h:iF x=true):A9 x x=true:=by
 cases x with
 | eX=>rfl
 | bl b=>simp [A9]
 | int i=>simp [A9]
 | str z=>simp [A9]
 | _=>cases h
theorem z8 {F:V→V→Prop}:∀ {xs ys:List V},Paired F xs ys→∀ {i:Nat} {x y:V},xs[i]?=some x→ys[i]?=some y→F x y
 | _,_,.nil,_,_,_,e,_=>by simp at e
 | _,_,.cons r t,0,_,_,e,e'=>by simp at e e';rw [← e,← e'];exact r
 | _,_,.cons r t,i+1,_,_,e,e'=>z8 t (by simpa using e) (by simpa using e')
theorem jP {K:PySem.W.Frag} {n:Nat} {H:Hp} {A:Around} {s:Shared} {xs ys:List V} {us vs:List Value} (p:Paired (lR K H n) xs ys) (r:Vals xs us) (r':Vals ys vs)
  (ih:∀ x y u v,RelV x u→RelV y v→lR K H n x y→SeqAt.EqAt A s u v true):∀ (j:Nat) (h1:j < us.toArray.size) (h2:j < vs.toArray.size),SeqAt.EqAt A s us.toArray[j] vs.toArray[j] true:=by
 intro j h1 h2
 have l1:=r.length
 have l2:=r'.length
 simp only [List.size_toArray] at h1 h2
 have e1:xs[j]?=some xs[j]:=List.getElem?_eq_getElem (by omega)
 have e2:ys[j]?=some ys[j]:=List.getElem?_eq_getElem (by omega)
 obtain ⟨u,hu,ru⟩:=r.get e1
 obtain ⟨v,hv,rv⟩:=r'.get e2
 have JC:us.toArray[j]=u:=by
  rw [List.getElem?_eq_getElem h1] at hu;simpa using hu
 have hv':vs.toArray[j]=v:=by
  rw [List.getElem?_eq_getElem h2] at hv;simpa using hv
 rw [JC,hv']
 exact ih _ _ u v ru rv (z8 p e1 e2)
theorem q8 (n:Nat):((List.range n).all fun _=>true)=true:=by rw [List.all_eq_true];intro _ _;rfl
theorem like_eq {pins:List (Addr×Obj)} {σ:St} {H:Hp} {s:Shared} (I:Inv X pins σ H s):∀ (n:Nat) (A:Around),A.units+n < cLine→∀ x y u v,RelV x u→RelV y v→lR X.K H n x y→SeqAt.EqAt A s u v true:=by
 intro n
 have flat:∀ (A:Around) (x y:V) (u v:Value),RelV x u→RelV y v→iF x=true∧x=y→SeqAt.EqAt A s u v true:=by
  rintro A x y u v ru rv ⟨f,rfl⟩
  have:=JZ (A:=A) (s:=s) ru rv f f
  rw [JX f] at this
  exact this
 induction n with
 | zero=>intro A hu x y u v ru rv h;exact flat A x y u v ru rv h
 | succ n ih =>
  intro A hu x y u v ru rv h
  rcases h with h | ⟨a,b,xs,ys,rfl,rfl,h,p⟩
  ·exact flat A x y u v ru rv h
  ·cases ru
   cases rv
   have ih':=ih A.in1 (by show A.units+1+n < cLine;omega)
   by_cases hab:a=b
   ·subst hab;exact SeqAt.EqAt.same _
   ·refine .of_refs hab ?_
    have lp:xs.length=ys.length:=Paired.length p
    rcases h with ⟨ha,hb⟩ | ⟨ha,hb⟩
    ·obtain ⟨us,r1,p1,_⟩:=I.list ha
     obtain ⟨vs,r2,p2,_⟩:=I.list hb
     have l1:=r1.length
     have l2:=r2.length
     have:=SeqAt.RcAt.lists (A:=A) (e:=fun _=>true) p1.isList p2.isList (by simp only [List.size_toArray];omega) (by omega) (jP p r1 r2 ih')
     rw [q8] at this
     exact this
    ·obtain ⟨us,r1,p1,_⟩:=I.tuple ha
     obtain ⟨vs,r2,p2,_⟩:=I.tuple hb
     have l1:=r1.length
     have l2:=r2.length
     have:=SeqAt.RcAt.tuples (A:=A) (e:=fun _=>true) (show s.heap.IsTuple a us.toArray from p1) (show s.heap.IsTuple b vs.toArray from p2) (by omega) (jP p r1 r2 ih')
     have e:(us.toArray.size == vs.toArray.size)=true:=by simp only [List.size_toArray,beq_iff_eq];omega
     rw [q8,e] at this
     exact this
def Hh (K:PySem.W.Frag) (n:Nat) (k:Bool):R2:=fun x y H Q=>∃ a b xs ys,x=.ref a∧y=.ref b∧((bx K H a xs∧bx K H b ys)∨(aV K H a xs∧aV K H b ys))∧Paired (lR K H n) xs ys∧Q (.bl k) H
theorem HW (n:Nat) (hu:X.A.units+1+n < cLine):oB X (compareOp .Eq) (Hh X.K n true):=by
 intro pins s σ H x y v u Q I rx ry h
 obtain ⟨a,b,xs,ys,rfl,rfl,h,p,q⟩:=h
 cases rx
 cases ry
 have ih':=like_eq I n X.A.in1 (by show X.A.units+1+n < cLine;omega)
 have lp:xs.length=ys.length:=Paired.length p
 have fin:EP X pins σ Q (.bool true) s:=⟨.bl true,H,I,rfl,q⟩
 rcases h with ⟨ha,hb⟩ | ⟨ha,hb⟩
 ·obtain ⟨us,r1,p1,_⟩:=I.list ha
  obtain ⟨vs,r2,p2,_⟩:=I.list hb
  have l1:=r1.length
  have l2:=r2.length
  exact SeqAt.eq_listAt (e:=fun _=>true) p1.isList p2.isList (by simp only [List.size_toArray];omega) (by omega) (jP p r1 r2 ih') (by rw [q8];exact fin)
 ·obtain ⟨us,r1,p1,_⟩:=I.tuple ha
  obtain ⟨vs,r2,p2,_⟩:=I.tuple hb
  have l1:=r1.length
  have l2:=r2.length
  have e:(us.toArray.size == vs.toArray.size)=true:=by simp only [List.size_toArray,beq_iff_eq];omega
  exact SeqAt.eq_tupleAt (e:=fun _=>true) (show s.heap.IsTuple a us.toArray from p1) (show s.heap.IsTuple b vs.toArray from p2) (by omega) (jP p r1 r2 ih') (by rw [q8,e];exact fin)
def rJoin:V→List V→Hp→VK→Prop:=fun x vs H Q=>∃ sep p ss,x=.str sep∧vs=[.ref p]∧H p=some (.lst (List.map V.str ss))∧(ss.map (·.length)).sum+ss.length*sep.length≤16777216∧Q (.str (Txt.join sep ss)) H
theorem LZ:MtR X "str.join" rJoin:=by
 intro pins s σ H x vs v us Q I rx rv h
 obtain ⟨sep,p,ss,rfl,rfl,hp,hz,q⟩:=h
 obtain ⟨t,rfl⟩:=rx
 obtain ⟨u,rfl,ru⟩:=rv.one
 cases ru
 obtain ⟨its,r,pl,_⟩:=I.list (bx.of hp)
 exact join_list pl.isList (by simpa using rQ r) hz fun t' k=>⟨.str _,H,I.tok _,⟨_,rfl⟩,q⟩
def SD (K:PySem.W.Frag) (c:V):List V→Hp→VK→Prop:=fun vs H Q=>∃ x t u b,vs=[x,c]∧qo K H x t∧RelV c u∧PySem.W.kitOne K t u=some b∧Q (.bl b) H
theorem RelV.a4O {c:V} {u u':Value} (hc:match c with | .ref _=>True | .ty _=>True | _=>False) (r:RelV c u) (r':RelV c u'):u=u':=by
 cases c with
 | ref a=>cases r;cases r';rfl
 | ty n=>cases r;cases r';rfl
 | _=>exact hc.elim
theorem vO {c:V} (hc:match c with | .ref _=>True | .ty _=>True | _=>False):iI X (.builtin "isinstance") (SD X.K c):=by
 intro pins s σ H xs us Q I r h
 obtain ⟨x,t,u,b,rfl,ty,rc,hb,q⟩:=h
 obtain ⟨w1,w2,rfl,rx,r2⟩:=vals2 r
 rw [RelV.a4O hc r2 rc]
 exact EK I rx ty hb fun tk=>⟨.bl b,H,I.tok _,rfl,q⟩
def NQ (K:PySem.W.Frag):R2:=fun x y H Q=>∃ a b xs ys,x=.ref a∧y=.ref b∧aV K H a xs∧aV K H b ys∧xs.length+ys.length≤sizeLine ∧
 (xs=[]→Q (.ref b) H)∧(xs≠[]→ys=[]→Q (.ref a) H)∧(xs≠[]→ys≠[]→∀ p,H p=none→Q (.ref p) (upd H p (.tup (xs++ys))))
theorem pC:oB X (binaryOp .Add) (NQ X.K):=by
 intro pins s σ H x y v u Q I rx ry h
 obtain ⟨a,b,xs,ys,rfl,rfl,ha,hb,hz,q0,q1,q2⟩:=h
 by_cases hx:xs=[]
 ·cases rx
  cases ry
  obtain ⟨its,r1,p1,_⟩:=I.tuple ha
  obtain ⟨its2,r2,p2,_⟩:=I.tuple hb
  obtain ⟨⟨cls,dd,data,sl⟩,ho,hc,n,hd⟩:=id p1
  obtain ⟨⟨a7V,dd2,data2,sl2⟩,ho2,hc2,n2,hd2⟩:=id p2
  simp only at hc hd hc2 hd2
  subst hc hd hc2 hd2
  have hi:its=[]:=r1.sS.mpr hx
  refine concat_meets ⟨_,ho,rfl⟩ ⟨_,ho2,rfl⟩ noFill_tuple_add seq_tuple_add PySem.F.slot_tuple_add PySem.F.entry_tuple_add (PySem.F.args_tuple_add_2 _ _)
   (tuple_addW0 a b its.toArray its2.toArray n n2 dd dd2 sl sl2 (by simp [hi])) ⟨ho,ho2,?_⟩
  exact ⟨.ref b,H,I,rfl,q0 hx⟩
 ·exact Lw pins s σ H _ _ v u Q I rx ry ⟨a,b,xs,ys,rfl,rfl,ha,hb,hx,hz,q1 hx,fun hy=>q2 hx hy⟩
def ZA (K:PySem.W.Frag):R2:=fun x y H Q=>∃ p xs k v,x=.ref p∧y=.int (k:Nat)∧bx K H p xs∧xs[k]?=some v∧Q v H
theorem JM:VJ X (ZA X.K):=by
 intro pins s σ H o i ov iv Q I ro ri h
 obtain ⟨p,xs,k,v,rfl,rfl,hq,he,q⟩:=h
 cases ro
 obtain ⟨t,rfl⟩:=ri
 obtain ⟨its,r,pl,hz⟩:=I.list hq
 obtain ⟨w,ew,rw'⟩:=r.get he
 have hk:k < xs.length:=(List.getElem?_eq_some_iff.mp he).1
 have hn:=qR
 exact wpAny_getItem_list pl.isList (by omega) (by omega) (by simpa using ew) ⟨v,H,I,rw',q⟩
end
end L2
namespace Hw
open PySem L2
theorem new {H:Hp} {p:Addr} {o:HO} (h:H p=none):az H (upd H p o):=fun b u e=>by rw [aA (aq e h)];exact e
def bI (d:Addr) (H H':Hp):Prop:=∀ b o,H b=some o→b≠d→H' b=some o
theorem bI.of {d:Addr} {H H':Hp} (h:az H H'):bI d H H':=fun b o e _=>h b o e
theorem bI.trans {d:Addr} {H H1 H2:Hp} (a:bI d H H1) (b:bI d H1 H2):bI d H H2:=fun c o e n=>b c o (a c o e n) n
theorem bI.upd {d:Addr} {H:Hp} {o:HO}:bI d H (L2.upd H d o):=fun b u e n=>by rw [aA n];exact e
theorem bI.new {d:Addr} {H H1:Hp} {p:Addr} {o:HO} (a:bI d H H1) (h:H1 p=none):bI d H (L2.upd H1 p o):=fun b u e n=>Hw.new h b u (a b u e n)
theorem az.new {H H1:Hp} {p:Addr} {o:HO} (a:az H H1) (h:H1 p=none):az H (L2.upd H1 p o):=a.trans (Hw.new h)
def Pr (H:Hp) (v:V) (p:Str×Int):Prop:=∃ a,v=.ref a∧H a=some (.tup [.str p.1,.int p.2])
abbrev zB (H:Hp):List V→Ps→Prop:=Paired (Pr H)
theorem Pr.keep {H H':Hp} {v:V} {p:Str×Int} (h:∀ a xs,H a=some (.tup xs)→H' a=some (.tup xs)) (x:Pr H v p):Pr H' v p:=let ⟨a,e,q⟩:=x;⟨a,e,h _ _ q⟩
theorem zB.keep {H H':Hp} {vs:List V} {ps:Ps} (h:∀ a xs,H a=some (.tup xs)→H' a=some (.tup xs)) (x:zB H vs ps):zB H' vs ps:=L2.Paired.dh x fun _ _ q=>q.keep h
def Lp (H:Hp) (a:Addr) (ps:Ps):Prop:=∃ vs,H a=some (.lst vs)∧zB H vs ps
def Tp (H:Hp) (a:Addr) (ps:Ps):Prop:=∃ vs,H a=some (.tup vs)∧zB H vs ps
theorem Lp.same {H H':Hp} {a:Addr} {ps:Ps} (h:Lp H a ps) (s:az H H'):Lp H' a ps:=let ⟨vs,e,q⟩:=h;⟨vs,s _ _ e,q.keep fun _ _ z=>s _ _ z⟩
theorem Tp.same {H H':Hp} {a:Addr} {ps:Ps} (h:Tp H a ps) (s:az H H'):Tp H' a ps:=let ⟨vs,e,q⟩:=h;⟨vs,s _ _ e,q.keep fun _ _ z=>s _ _ z⟩
theorem bI.tups {d:Addr} {H H':Hp} (b:bI d H H') {xs:List V} (hd:H d=some (.lst xs)):∀ a ys,H a=some (.tup ys)→H' a=some (.tup ys):=fun a ys e=>b a _ e fun z=>by rw [z,hd] at e;cases e
theorem Hs {H:Hp}:∀ {vs:List V} {ps:Ps},zB H vs ps→∀ {i:Nat} {v:V},vs[i]?=some v→∃ p,ps[i]?=some p∧Pr H v p
 | _,_,.nil,_,_,e=>by simp at e
 | _,_,.cons r t,0,_,e=>by simp at e;subst e;exact ⟨_,rfl,r⟩
 | _,_,.cons r t,i+1,_,e=>Hs t (i:=i) (by simpa using e)
theorem dI {H:Hp} {vs:List V} {ps:Ps} (h:zB H vs ps):vs.length=ps.length:=Paired.length h
theorem iR {H:Hp}:∀ {vs ws:List V} {ps qs:Ps},zB H vs ps→zB H ws qs→zB H (vs++ws) (ps++qs)
 | _,_,_,_,.nil,s=>s
 | _,_,_,_,.cons r t,s=>.cons r (iR t s)
theorem mz {H:Hp} {v:V} {p:Str×Int} (h:Pr H v p):zB H [v] [p]:=.cons h .nil
theorem zZ {K:PySem.W.Frag} {H:Hp}:∀ {vs ws:List V} {ps:Ps},zB H vs ps→zB H ws ps→Paired (lR K H 1) vs ws
 | _,_,_,.nil,.nil=>.nil
 | _,_,_,.cons ⟨a,ea,ha⟩ t,.cons ⟨b,eb,hb⟩ t'=>.cons (.inr ⟨a,b,_,_,ea,eb,.inr ⟨aV.of ha,aV.of hb⟩,.cons ⟨rfl,rfl⟩ (.cons ⟨rfl,rfl⟩ .nil)⟩) (zZ t t')
def enc (d:Ps):List (Key×V):=d.map fun p=>(Sum.inr p.1,V.int p.2)
theorem AH (d:Ps):(enc d).map (·.1)=List.map (Sum.inr:Str→Key) (keys d):=by
 unfold enc keys
 rw [List.map_map,List.map_map];rfl
theorem jV (d:Ps):(enc d).length=d.length:=List.length_map ..
theorem y9 (t:Str):∀ d:Ps,jz (enc d) (Sum.inr t)=if t∈keys d then some (V.int (get d t)) else none
 | []=>by simp [enc,jz,keys]
 | p::r=>by
  have ih:=y9 t r
  show jz ((Sum.inr p.1,V.int p.2)::enc r) (Sum.inr t)=_
  by_cases e:p.1=t
  ·rw [kD (by simp [e]),cU,if_pos e,if_pos (by simp [keys,e])]
  ·have e':¬ t=p.1:=fun z=>e z.symm
   have hk:t∈keys (p::r)↔t∈keys r:=by
    unfold keys
    rw [List.map_cons,List.mem_cons]
    exact ⟨fun h=>h.resolve_left e',.inr⟩
   rw [jh (by simpa using e),ih,cU,if_neg e]
   simp only [hk]
theorem J2 (d:Ps) (t:Str):(jz (enc d) (Sum.inr t)).getD (V.int 0)=V.int (get d t):=by
 rw [y9]
 by_cases h:t∈keys d
 ·rw [if_pos h];rfl
 ·rw [if_neg h,vq h];rfl
theorem MI (d:Ps) (t:Str):((enc d).any fun kv=>decide (kv.1=(Sum.inr t:Key)))=d.any fun p=>decide (p.1=t):=by
 unfold enc
 rw [List.any_map]
 congr 1
 funext p
 simp
theorem p7 (d:Ps) (t:Str) (n:Int):putK (enc d) (Sum.inr t) (V.int n)=enc (put d t n):=by
 unfold putK put
 rw [MI]
 split
 ·unfold enc
  rw [List.map_map,List.map_map]
  refine List.map_congr_left fun p _=>?_
  by_cases e:p.1=t
  ·simp [e]
  ·simp [e]
 ·unfold enc
  rw [List.map_append];rfl
def rB (t:Addr) (n:Int):List (Str×V):=gg "number" (.int n) (gg "terms" (.ref t) [])
theorem nt:¬ (("number":Str)="terms"):=by decide +kernel
theorem tn:¬ (("terms":Str)="number"):=by decide +kernel
theorem bY (t:Addr) (n:Int):(rB t n).lookup ("terms":Str)=some (.ref t):=by
 unfold rB
 rw [aX,if_neg tn,aX,if_pos rfl]
theorem bJ (t:Addr) (n:Int):(rB t n).lookup ("number":Str)=some (.int n):=by
 unfold rB
 rw [aX,if_pos rfl]
theorem dM (t:Addr) (n:Int) {m:Str} (h1:¬ m="terms") (h2:¬ m="number"):(rB t n).lookup m=none:=by
 unfold rB
 rw [aX,if_neg h2,aX,if_neg h1]
 all_goals rfl
def bO (C:Addr) (H:Hp) (p:Addr) (ts:Ps) (n:Int):Prop:=∃ dx t,H p=some (.ins C dx (rB t n))∧Tp H t ts∧ts.length≤1000
theorem bO.same {C:Addr} {H H':Hp} {p:Addr} {ts:Ps} {n:Int} (h:bO C H p ts n) (s:az H H'):bO C H' p ts n:=let ⟨dx,t,e,q,z⟩:=h;⟨dx,t,s _ _ e,q.same s,z⟩
end Hw
namespace Hw
open PySem L2
def Dn (P:Program) (w:World) (K:PySem.W.Frag) (mg:Str→Option Value) (base:Heap) (k:Nat) (x:Str) (ps:List Str) (sp:Sp):Prop :=
 ∃ (f:Addr) (fd:FuncData),bu P w K mg base dX k f fd ps sp∧mg x=some (.ref f)∧PySem.W.keepIn K (.ref f)=true∧Binds K fd ps []
def Mt (P:Program) (w:World) (K:PySem.W.Frag) (mg:Str→Option Value) (base:Heap) (k:Nat) (C:Addr) (m:Str) (ps:List Str) (sp:Sp):Prop :=
 ∃ (f:Addr) (fd:FuncData),bu P w K mg base dX k f fd ps sp∧Meth K C m f∧Binds K fd ps []
def Mr (P:Program) (w:World) (K:PySem.W.Frag) (mg:Str→Option Value) (base:Heap) (k:Nat) (C:Addr) (ps:List Str) (sp:Sp):Prop :=
 ∃ (f:Addr) (fd:FuncData),bu P w K mg base dX k f fd ps sp∧Mk K C f∧Binds K fd ps []
structure Txt (K:PySem.W.Frag) (mg:Str→Option Value) (C:Addr):Prop where
 cl:A5 K C
 nT:eY K C "terms"
 nN:eY K C "number"
 n8:mg "Sum"=some (.ref C)
 len:mg "len"=none
 sum:mg "sum"=none
 sorted:mg "sorted"=none
 list:mg "list"=none
 tuple:mg "tuple"=none
 isinstance:mg "isinstance"=none
 range:mg "range"=none
 abs:mg "abs"=none
 str:mg "str"=none
 int:mg "int"=none
 dict:mg "dict"=none
 ca:PySem.W.findIn K (.ref C) "__class__"=some (some (.builtin "object.__class__"))
 cg:PySem.W.specialIn K (.builtin "object.__class__") "__get__"=some (some (.builtin "getset_descriptor.__get__"))
 ct:PySem.W.takesIn K (.builtin "object.__class__")=some true
 cm:PySem.W.mroIn K C (.type "object")=some true
 kS:PySem.W.kitOne K (.ref C) (.ref C)=some true
 kT:PySem.W.kitOne K (.type "tuple") (.type "tuple")=some true
theorem Txt.ins {K:PySem.W.Frag} {mg:Str→Option Value} {C:Addr} (T:Txt K mg C) {H:Hp} {a dx:Addr} {fs:List (Str×V)} (e:H a=some (.ins C dx fs)):qo K H (.ref a) (.ref C):=.ins e T.cl T.ca T.cg T.ct T.cm
def Sq (H:Hp) (a:Addr) (ps:Ps):Prop:=Lp H a ps∨Tp H a ps
theorem Sq.same {H H':Hp} {a:Addr} {ps:Ps} (h:Sq H a ps) (s:az H H'):Sq H' a ps:=h.elim (fun z=>.inl (z.same s)) fun z=>.inr (z.same s)
def kG (C:Addr):Sp:=fun vs H Q _=>∃ (p dx l:Addr) (n:Int) (ps:Ps),vs=[.ref p,.ref l,.int n]∧H p=some (.ins C dx [])∧Sq H l ps∧ps.length≤1000 ∧
 ∀ H',bI p H H'→bO C H' p ps n→Q .eX H'
def oH (C:Addr):Sp:=fun vs H Q _=>∃ (a:Addr) (n:Int) (ps:Ps),vs=[.ref a,.int n]∧Sq H a ps∧ps.length < 64 ∧
 ∀ (r:Addr) (ts:Ps) (H':Hp),az H H'→sJ ps ts→ts.length≤ps.length→bO C H' r ts n→Q (.ref r) H'
structure Nums (H:Hp) (d:Addr) (ns:Ps):Prop where
 at_:H d=some (.dK (enc ns))
 fit:∀ t,-(2 ^ 64) < get ns t∧get ns t < 2 ^ 64
theorem Nums.same {H H':Hp} {d:Addr} {ns:Ps} (h:Nums H d ns) (s:az H H'):Nums H' d ns:=⟨s _ _ h.at_,h.fit⟩
def xZ (C:Addr):Sp:=fun vs H Q _=>∃ (p d:Addr) (ts ns:Ps) (n:Int),vs=[.ref p,.ref d]∧bO C H p ts n∧Nums H d ns∧(∀ t∈keys ts,t∈keys ns) ∧
 ∀ H',az H H'→Q (.int (n+bH ts (get ns))) H'
def Bv (C:Addr):Sp:=fun vs H Q _=>∃ (p q:Addr) (a b:Ps) (n m:Int),vs=[.ref p,.ref q]∧bO C H p a n∧bO C H q b m∧a.length+b.length < 64 ∧
 ∀ (r:Addr) (ts:Ps) (H':Hp),az H H'→sJ (a++b) ts→ts.length≤a.length+b.length→bO C H' r ts (n+m)→Q (.ref r) H'
def sO (C:Addr):Sp:=fun vs H Q _=>∃ (p:Addr) (a:Ps) (n k:Int),vs=[.ref p,.int k]∧bO C H p a n∧a.length < 64∧(-(2 ^ 64) < k∧k < 2 ^ 64) ∧
 ∀ (r:Addr) (ts:Ps) (H':Hp),az H H'→sJ (a.map fun p=>(p.1,p.2*k)) ts→ts.length≤a.length→bO C H' r ts (n*k)→Q (.ref r) H'
def tY (C:Addr):Sp:=fun vs H Q _=>∃ (p q:Addr) (a b:Ps) (n m:Int),vs=[.ref p,.ref q]∧bO C H p a n∧bO C H q b m∧a.length+b.length < 64 ∧
 ∀ (r:Addr) (ts:Ps) (H':Hp),az H H'→sJ (a++b.map fun p=>(p.1,-p.2)) ts→ts.length≤a.length+b.length→bO C H' r ts (n - m)→Q (.ref r) H'
end Hw
namespace Hw
open PySem L2
structure Kp (H H':Hp):Prop where
 l:∀ b xs,H b=some (.lst xs)→H' b=some (.lst xs)
 t:∀ b xs,H b=some (.tup xs)→H' b=some (.tup xs)
theorem Kp.refl {H:Hp}:Kp H H:=⟨fun _ _ h=>h,fun _ _ h=>h⟩
theorem Kp.of {H H':Hp} (s:az H H'):Kp H H':=⟨fun _ _ h=>s _ _ h,fun _ _ h=>s _ _ h⟩
theorem Kp.but {d:Addr} {H H':Hp} (s:bI d H H') (hl:∀ xs,H d≠some (.lst xs)) (ht:∀ xs,H d≠some (.tup xs)):Kp H H' :=
 ⟨fun b xs h=>s b _ h fun z=>hl xs (z ▸ h),fun b xs h=>s b _ h fun z=>ht xs (z ▸ h)⟩
theorem take_snoc {α:Type} {l:List α} {i:Nat} {x:α} (h:l[i]?=some x):l.take (i+1)=l.take i++[x]:=by
 rw [List.take_add_one,h];rfl
theorem get_some {H:Hp} {vs:List V} {ps:Ps} (r:zB H vs ps) {i:Nat} {v:V} (h:vs[i]?=some v):∃ p,ps[i]?=some p∧Pr H v p:=Hs r h
theorem ze {K:PySem.W.Frag} {a:Addr} {ps:Ps} {g:TG} {tt:TT} {te:TE} {σ0:St} {H:Hp} {R:List V→Hp→Prop} (h:Tp H a ps) (Pv:Nat→List V→Hp→Prop) (h0:Pv 0 [] H) (hS:∀ i ys H',Pv i ys H'→Kp H H')
  (hs:∀ i v p ys H',ps[i]?=some p→Pr H' v p→Pv i ys H'→g v σ0 H' fun σ2 H2=>Ext σ0 σ2∧tt σ2 H2 fun b H3=>if b=true then te σ2 H3 fun v H4=>ys.length < sizeLine∧Pv (i+1) (ys++[v]) H4 else Pv (i+1) ys H3)
  (hd:∀ ys H',Pv ps.length ys H'→R ys H'):(∃ xs,aV K H a xs)∧∃ W:Nat→Nat→List V→Hp→Prop,(∃ m,W 0 m [] H)∧qf (FH K a) g tt te σ0 W R:=by
 obtain ⟨vs,e,r⟩:=h
 refine ⟨⟨vs,aV.of e⟩,cF (xs:=vs) Pv h0 (fun i ys H' _ p=>aV.of ((hS i ys H' p).t _ _ e)) (fun i v ys H' hi p=>?_) ?_⟩
 ·obtain ⟨q,hq,pr⟩:=get_some r hi
  exact hs i v q ys H' hq (pr.keep (hS i ys H' p).t) p
 ·rw [dI r];exact hd
theorem MW {K:PySem.W.Frag} {a:Addr} {ps:Ps} {g:TG} {tt:TT} {te:TE} {σ0:St} {H:Hp} {R:List V→Hp→Prop} (h:Sq H a ps) (Pv:Nat→List V→Hp→Prop) (h0:Pv 0 [] H) (hS:∀ i ys H',Pv i ys H'→Kp H H')
  (hs:∀ i v p ys H',ps[i]?=some p→Pr H' v p→Pv i ys H'→g v σ0 H' fun σ2 H2=>Ext σ0 σ2∧tt σ2 H2 fun b H3=>if b=true then te σ2 H3 fun v H4=>ys.length < sizeLine∧Pv (i+1) (ys++[v]) H4 else Pv (i+1) ys H3)
  (hd:∀ ys H',Pv ps.length ys H'→R ys H'):((∃ xs,bx K H a xs)∧∃ W:Nat→Nat→List V→Hp→Prop,(∃ m,W 0 m [] H)∧qf (KU K a) g tt te σ0 W R)∨((∃ xs,aV K H a xs)∧∃ W:Nat→Nat→List V→Hp→Prop,(∃ m,W 0 m [] H)∧qf (FH K a) g tt te σ0 W R):=by
 rcases h with h | h
 ·obtain ⟨vs,e,r⟩:=h
  refine .inl ⟨⟨vs,bx.of e⟩,gy (xs:=vs) Pv h0 (fun i ys H' _ p=>bx.of ((hS i ys H' p).l _ _ e)) (fun i v ys H' hi p=>?_) ?_⟩
  ·obtain ⟨q,hq,pr⟩:=get_some r hi
   exact hs i v q ys H' hq (pr.keep (hS i ys H' p).t) p
  ·rw [dI r];exact hd
 ·exact .inr (ze h Pv h0 hS hs hd)
abbrev Rh (J:It) (g:TG) (tb:TS) (D:Ends) (σ:St) (H:Hp):Prop:=∃ W:Nat→Nat→St→Hp→Prop,(∃ m,W 0 m σ H)∧∀ i m σ H,W i m σ H →
 (J.stop i H∧D.nx σ H)∨(J.go i H∧∃ N:St→Hp→Prop,(∀ σ' H',N σ' H'→∃ m',m' < m∧W (i+1) m' σ' H')∧∀ x H',J.ND i H x H'→g x σ H' fun σ2 H2=>tb { D with nx:=N,ct:=N,bk:=D.nx } σ2 H2)
theorem Qm {K:PySem.W.Frag} {a:Addr} {ps:Ps} {g:TG} {tb:TS} {D:Ends} {σ:St} {H:Hp} (h:Sq H a ps) (Pv:Nat→St→Hp→Prop) (h0:Pv 0 σ H) (hS:∀ i σ H',Pv i σ H'→Kp H H')
  (hs:∀ i v p σ H',ps[i]?=some p→Pr H' v p→Pv i σ H'→g v σ H' fun σ2 H2=>tb { D with nx:=Pv (i+1),ct:=Pv (i+1),bk:=D.nx } σ2 H2) (hd:∀ σ H',Pv ps.length σ H'→D.nx σ H') :
  ((∃ xs,bx K H a xs)∧Rh (KU K a) g tb D σ H)∨((∃ xs,aV K H a xs)∧Rh (FH K a) g tb D σ H):=by
 rcases h with ⟨vs,e,r⟩ | ⟨vs,e,r⟩
 ·refine .inl ⟨⟨vs,bx.of e⟩,fS (xs:=vs) Pv h0 (fun i σ H' _ p=>bx.of ((hS i σ H' p).l _ _ e)) (fun i v σ H' hi p=>?_) ?_⟩
  ·obtain ⟨q,hq,pr⟩:=get_some r hi
   exact hs i v q σ H' hq (pr.keep (hS i σ H' p).t) p
  ·rw [dI r];exact hd
 ·refine .inr ⟨⟨vs,aV.of e⟩,pY (xs:=vs) Pv h0 (fun i σ H' _ p=>aV.of ((hS i σ H' p).t _ _ e)) (fun i v σ H' hi p=>?_) ?_⟩
  ·obtain ⟨q,hq,pr⟩:=get_some r hi
   exact hs i v q σ H' hq (pr.keep (hS i σ H' p).t) p
  ·rw [dI r];exact hd
theorem line (n:Nat) (h:n≤100000):n < sizeLine:=by rw [sizeLine_eq];omega
theorem szl (n:Nat) (h:n≤100000:=by decide):n≤sizeLine:=Nat.le_of_lt (line n h)
theorem C6 {H:Hp} {d:Addr} {x y:HO}:upd (upd H d x) d y=upd H d y:=by
 funext b
 by_cases e:b=d
 ·subst e;rw [ah,ah]
 ·rw [aA e,aA e,aA e]
theorem Kp.dict {H:Hp} {d:Addr} {x y:List (Key×V)}:Kp (upd H d (.dK x)) (upd H d (.dK y)):=by
 constructor
 ·intro b xs h
  by_cases e:b=d
  ·subst e;rw [ah] at h;cases h
  ·rw [aA e] at h ⊢;exact h
 ·intro b xs h
  by_cases e:b=d
  ·subst e;rw [ah] at h;cases h
  ·rw [aA e] at h ⊢;exact h
theorem DF (f:Str→Int):∀ ts:Ps,(ts.map fun q=>q.2*f q.1).sum=bH ts f
 | []=>rfl
 | p::r=>by rw [List.map_cons,List.sum_cons,DF f r,bH]
theorem kX {H:Hp} {d:Addr} {e:Ps} {t:Str} (h:H d=some (.dK (enc e))) (m:t∈keys e):rm H d (.str t) (some (.int (get e t))):=by
 have q:=rm.k (k:=(Sum.inr t:Key)) h
 rw [y9,if_pos m] at q
 exact q
theorem wX (e:Ps) (ys:List Str) (y:Str):outs e (ys++[y])=outs e ys++if get e y=0 then [] else [(y,get e y)]:=by
 unfold outs
 rw [List.map_append,List.filter_append]
 congr 1
 by_cases h:get e y=0
 ·rw [if_pos h];simp [h]
 ·rw [if_neg h];simp [h]
theorem uG (e:Ps) (ys:List Str):(outs e ys).length≤ys.length:=by
 unfold outs
 exact Nat.le_trans (List.length_filter_le _ _) (by rw [List.length_map];exact Nat.le_refl _)
end Hw
namespace L2
open PySem PySem.Spec PyProof.Rows
section
variable {X:Cx} {K:PySem.W.Frag}
theorem Au (h:X.K=K):RX X (SA K):=h ▸ bZ
theorem Ml (h:X.K=K):RX X (Sz K):=h ▸ aR
theorem lM (h:X.K=K):iI X (.type "tuple") (fun xs H Q=>∃ p ys,xs=[.ref p]∧((bx K H p ys∧∀ l,H l=none→Q (.ref l) (upd H l (.tup ys)))∨(aV K H p ys∧Q (.ref p) H))):=h ▸ bT
theorem wJ (h:X.K=K):iI X (.builtin "len") (fun xs H Q=>∃ p ys,xs=[.ref p]∧(bx K H p ys∨aV K H p ys)∧Q (.int ys.length) H):=h ▸ bX
theorem E8 {c:V} (h:X.K=K) (hc:match c with | .ref _=>True | .ty _=>True | _=>False):iI X (.builtin "isinstance") (SD K c):=h ▸ vO hc
theorem HX (h:X.K=K):oB X (binaryOp .Add) (NQ K):=h ▸ pC
theorem sR {e:Expr} {f:Str} {pos:Pos} {ta:TE} (h:X.K=K) (he:PE X e ta) (hb:attributeBase e f X.env (eval e X.env)=eval e X.env):PE X (.Attribute e f pos) (Si K ta f):=h ▸ aY he hb
theorem Dk {es:List Expr} {k:Nat} {t:Ol} {n:Nat} {pos:Pos} (hK:X.K=K) (hc:X.calm=true) (h:VI X es t) (hn:(assignEach es X.env).length=n:=by rfl) (hst:(assignEach es X.env).findIdx? (·.1)=none:=by rfl) :
  PG X (.Tuple es k pos) (TN K n t):=hK ▸ qK hc h hn hst
theorem jw {σ:St} {H:Hp} {F G:Hp→Prop} (h:F H):Dc σ H (fun b H3=>if b=true then F H3 else G H3):=by
 show if true=true then F H else G H
 exact vm h
def strsOf:List Expr→Option (List Str)
 | []=>some []
 | .Constant (.str x) _ _::r=>(strsOf r).map (x::·)
 | _=>none
def NL (xs:List Str):TA:=fun _ H Q=>Q (xs.map V.str) H
theorem yy:∀ {es:List Expr} {xs:List Str},strsOf es=some xs→PA X es (NL xs)
 | [],xs,h=>by
  cases h
  exact ai
 | e::r,xs,h=>by
  unfold strsOf at h
  split at h
  ·rename_i he;cases he
  ·rename_i x j pos r' he
   cases he
   cases q:strsOf r with
   | none=>rw [q] at h;cases h
   | some ys =>
    rw [q] at h
    cases h
    have ih:=yy q
    exact aa aU ih rfl
  ·cases h
def Ak:Expr→Option (List Str)
 | .List es _=>strsOf es
 | _=>none
theorem yu {xs:List Str}:∀ {e:Expr},Ak e=some xs→PE X e (Sf (NL xs))
 | .List es pos,h=>bB (yy h)
theorem Dd {xs:List Str} {t:Option Expr} {n:Nat} {env:Env}:∀ {e:Expr},Ak e=some xs→swapsWith e t n env=pure false
 | .List es pos,h=>rfl
def VC (s:Stmt):Expr:=match s with | .Assign _ e _=>e | _=>.Constant .none 0 ⟨0,0,0,0⟩
def Zw (s:Stmt):Expr:=match s with | .Return (some e) _=>e | _=>.Constant .none 0 ⟨0,0,0,0⟩
def OY (s:Expr):Expr:=match s with | .BinOp _ _ e _=>e | _=>.Constant .none 0 ⟨0,0,0,0⟩
end
end L2
namespace Hw
open PySem L2
theorem uL {A:Around} {k n:Nat} (hr:dj k A) (h:n≤60:=by decide):A.units+1+n < cLine:=by have:=hr.units;omega
theorem uN {A:Around} {k:Nat} (hr:dj k A):A.units < cLine:=by have:=hr.units;omega
def Dr (H:Hp) (d:Addr):Prop:=∃ a b:Int,H d=some (.lst [.int a,.int b])
theorem Dr.same {H H':Hp} {d:Addr} (h:Dr H d) (s:az H H'):Dr H' d:=let ⟨a,b,e⟩:=h;⟨a,b,s _ _ e⟩
def sQ:Sp:=fun vs H Q _=>∃ c k:Int,vs=[.int c,.int k]∧∀ r:Int,0≤r→r < 2147483399→Q (.int r) H
def Bx (K:PySem.W.Frag):Sp:=fun vs H Q _=>∃ (a:Addr) (ns:List Int) (k:Nat),vs=[.ref a,.int k]∧bx K H a (ns.map V.int)∧∀ r:Int,Q (.int r) H
def jB:Sp:=fun vs H Q _=>∃ (d:Addr) (n:Int),vs=[.ref d,.int n]∧Dr H d∧0 < n∧∀ (r:Nat) (H':Hp),(r:Int) < n→bI d H H'→Dr H' d→Q (.int r) H'
def Jr:List Str:=["helper","answers","needs","gives","end","let","div","mod","put","row","at","if","else"]
def Jq:List Str:=["while","holds","falls","call","claim","and","or","not"]
def eW:List Str:=Jr++Jq
def yi:Sp:=fun vs H Q _=>vs=[]∧∀ (l:Addr) (H':Hp),az H H'→H l=none→H' l=some (.lst (eW.map V.str))→Q (.ref l) H'
def ye:Sp:=fun vs H Q _=>∃ (d:Addr) (m:Nat),vs=[.ref d,.int m]∧Dr H d∧m≤12 ∧
 ∀ (l:Addr) (xs:List Str) (H':Hp),bI d H H'→Dr H' d→H l=none→H' l=some (.lst (xs.map V.str))→xs.length=m→(∀ x∈xs,x.length≤8)→Q (.ref l) H'
def gj (H:Hp) (r:Addr) (ts:Ps) (n:Int):Prop:=∃ t,H r=some (.tup [.ref t,.int n])∧Tp H t ts
theorem gj.same {H H':Hp} {r:Addr} {ts:Ps} {n:Int} (h:gj H r ts n) (s:az H H'):gj H' r ts n:=let ⟨t,e,q⟩:=h;⟨t,s _ _ e,q.same s⟩
def Df (K:PySem.W.Frag):Sp:=fun vs H Q _=>∃ (a:Addr) (ns:List Int),vs=[.ref a]∧bx K H a (ns.map V.int)∧ns.length≤63∧∀ H',Q (.bl true) H'
end Hw
namespace Hw
open PySem L2
theorem Mj (K:PySem.W.Frag) (C:Addr):PySem.W.kitOne K (.ref C) (.ref C)=some true:=by
 unfold PySem.W.kitOne
 rw [if_pos (by simp)]
theorem Mi (K:PySem.W.Frag):PySem.W.kitOne K (.type "tuple") (.type "tuple")=some true:=by
 unfold PySem.W.kitOne
 rw [if_pos (by simp)]
end Hw
namespace L2
open PySem PySem.Spec PyProof.Rows
section
variable {X:Cx} {K:PySem.W.Frag}
def Hj (K:PySem.W.Frag):R2:=fun x y H Q=>∃ a b xs,x=.ref a∧y=.ref b∧aV K H a xs∧aV K H b []∧Q (.bl (decide (xs=[]))) H
theorem HV (hu:X.A.units < cLine):oB X (compareOp .Eq) (Hj X.K):=by
 intro pins s σ H x y v u Q I rx ry h
 obtain ⟨a,b,xs,rfl,rfl,ha,hb,q⟩:=h
 cases rx
 cases ry
 obtain ⟨us,r1,p1,_⟩:=I.tuple ha
 obtain ⟨vs,r2,p2,_⟩:=I.tuple hb
 cases r2
 refine SeqAt.eq_tupleAt (e:=fun _=>true) (show s.heap.IsTuple a us.toArray from p1) (show s.heap.IsTuple b ([]:List Value).toArray from p2) hu (fun j h1 h2=>absurd h2 (by simp)) ?_
 have e:((List.range (min us.toArray.size ([]:List Value).toArray.size)).all (fun _=>true) && us.toArray.size == ([]:List Value).toArray.size)=decide (xs=[]):=by
  have l:=r1.length
  rw [q8,Bool.true_and]
  by_cases hx:xs=[]
  ·subst hx
   cases r1
   simp
  ·rw [decide_eq_false hx]
   have:us≠[]:=fun z=>hx (by rw [z] at l;exact List.length_eq_zero_iff.mp l)
   cases us with
   | nil=>exact absurd rfl this
   | cons _ _=>simp
 rw [e]
 exact ⟨.bl _,H,I,rfl,q⟩
abbrev TJ:=St→Hp→Str→(Str→Hp→Prop)→Prop
def PJ (X:Cx) (es:List Expr) (t:TJ):Prop :=
 ∀ (pins:List (Addr×Obj)) (s:Shared) (σ:St) (H:Hp) (acc:Str) (Q:Str→Hp→Prop),Inv X pins σ H s→t σ H acc Q →
  wpAny (model X.prog X.w) X.A (joinParts acc (evalEach es X.env)) (EP X pins σ fun v H'=>∃ x,v=.str x∧Q x H') X.xe s
def a4N:TJ:=fun _ H acc Q=>acc.length≤sizeLine∧Q acc H
def a4M (c:Str) (t:TJ):TJ:=fun σ H acc Q=>(acc++c).length≤sizeLine∧t σ H (acc++c) Q
def a4L (te:TE) (t:TJ):TJ:=fun σ H acc Q=>te σ H fun x H1=>(∃ i,x=.int i∧i.natAbs.log2 < 1920∧(acc++(toString i:Str)).length≤sizeLine∧t σ H1 (acc++(toString i:Str)) Q)∨(∃ y,x=.str y∧y.length≤sizeLine∧(acc++y).length≤sizeLine∧t σ H1 (acc++y) Q)
theorem Pa:PJ X [] a4N:=by
 intro pins s σ H acc Q I h
 exact joinParts_nil ⟨.str acc,H,I.tok _,⟨_,rfl⟩,acc,rfl,h.2⟩ h.1
theorem HA {c:Str} {j:Nat} {pos:Pos} {es:List Expr} {t:TJ} (h:PJ X es t):PJ X (.Constant (.str c) j pos::es) (a4M c t):=by
 intro pins s σ H acc Q I hw
 show wpAny _ _ (joinParts acc (eval (.Constant (.str c) j pos) X.env::evalEach es X.env)) _ _ s
 refine joinParts_cons (Calls.Constant_str ⟨hw.1,?_⟩)
 exact h pins _ σ H (acc++c) Q (I.tok _) hw.2
theorem O9 {e:Expr} {pos:Pos} {es:List Expr} {te:TE} {t:TJ} (he:PE X e te) (h:PJ X es t):PJ X (.FormattedValue e (-1) none pos::es) (a4L te t):=by
 intro pins s σ H acc Q I hw
 show wpAny _ _ (joinParts acc (eval (.FormattedValue e (-1) none pos) X.env::evalEach es X.env)) _ _ s
 refine joinParts_cons (FormattedValue_plain (cy (he pins s σ H _ I hw) fun v s1 ⟨x,H1,I1,r1,q1⟩=>?_))
 rcases q1 with ⟨i,rfl,hl,hz,q⟩ | ⟨y,rfl,hy,hz,q⟩
 ·obtain ⟨t',rfl⟩:=r1
  exact formatField_int_small hl ⟨hz,h pins _ σ H1 _ Q (I1.tok _) q⟩
 ·obtain ⟨t',rfl⟩:=r1
  exact formatField_str (fun t'' tk=>⟨hz,h pins _ σ H1 _ Q (I1.tok _) q⟩) hy
def tFs (t:TJ):TE:=fun σ H Q=>t σ H Str.empty fun x H'=>Q (.str x) H'
theorem Lq {v1 v2:Expr} {rest:List Expr} {pos:Pos} {t:TJ} (h:PJ X (v1::v2::rest) t):PE X (.JoinedStr (v1::v2::rest) pos) (tFs t):=by
 intro pins s σ H Q I hw
 refine JoinedStr_many (cy (h pins s σ H Str.empty _ I hw) fun u s1 ⟨v,H',I',r,x,ev,q⟩=>?_)
 subst ev
 exact ⟨.str x,H',I',r,q⟩
end
end L2
namespace HT
open PySem PySem.Spec PyProof.Rows
section
variable {prog:Program} {w:World} {A:Around} {E:Value→Shared→Prop} {s:Shared}
end
end HT
namespace L2
open PySem PySem.Spec PyProof.Rows
section
variable {X:Cx} {K:PySem.W.Frag}
end
end L2
namespace L2
open PySem PySem.Spec PyProof.Rows
section
variable {X:Cx} {K:PySem.W.Frag}
variable {o e:Expr} {to:TE} {apos cpos:Pos}
theorem Cq (l b:Addr) (xs ys:Array Value) (n m:Nat) (dd:Option Addr) (sl:Array (Option Value)) (h0:¬ (!xs.isEmpty && Builtin.List.listTooLong (xs.size+ys.size))=true) (h1:xs.size≤sizeLine) (h2:xs.size+ys.size≤sizeLine+1) :
  Meets (Builtin.«list.extend» ⟨[.ref l,.ref b],[]⟩) (fun _ R s=>s.heap.get? l=some ⟨.type "list",none,.seq xs n,#[]⟩∧s.heap.get? b=some ⟨.type "tuple",dd,.seq ys m,sl⟩ ∧
   R (.ok (.ret Value.none)) { s with heap:=s.heap.update l (Obj.mapSeq fun x=>x++ys),toks:=s.toks }) :=
 .of_wp fun prog w A R s h=>by
  obtain ⟨hp,g,d,tk,os⟩:=s
  obtain ⟨hl,hb,h⟩:=h
  have q1:=PySem.AutoSeq1.idx_int
  have q2:=PySem.AutoSeq1.sub_tuple_tuple
  have q3:=PySem.AutoSeq1.sub_list_list
  have q4:=PySem.AutoSeq1.sub_tuple_list
  have q5:=PySem.AutoSeq1.sub_list_tuple
  have z:(xs++ys).size≤sizeLine+1:=by
   rw [Array.size_append]
   exact h2
  wp_walk using (wpAny_updateSeq hl rfl (hz:=h1) (_hz':=z)),PySem.AutoSeq1.wpAny_loadPart' hl,PySem.AutoSeq1.wpAny_loadPart' hb
  exact ⟨_,rfl,h⟩
def Hi (K:PySem.W.Frag):V→List V→Hp→VK→Prop:=fun x vs H Q=>∃ l b xs zs,x=.ref l∧vs=[.ref b]∧H l=some (.lst xs)∧aV K H b zs∧xs.length+zs.length≤sizeLine∧Q .eX (upd H l (.lst (xs++zs)))
theorem BP:VM X "list.extend" (Hi X.K):=by
 intro pins s σ H x vs v us Q I rx rv h
 obtain ⟨l,b,xs,zs,rfl,rfl,hH,hB,hz,q⟩:=h
 cases rx
 obtain ⟨u,rfl,ru⟩:=rv.one
 cases ru
 obtain ⟨z,its,n,r,hl,e⟩:=I.yO hH
 obtain ⟨its2,r2,p2,z2⟩:=I.tuple hB
 have hl2:=r2.length
 have hsz:its.toArray.size+its2.toArray.size≤sizeLine:=by rw [List.size_toArray,List.size_toArray];omega
 have AA:¬ (!its.toArray.isEmpty && Builtin.List.listTooLong (its.toArray.size+its2.toArray.size))=true:=by
  rw [uJ hsz,Bool.and_false]
  exact Bool.false_ne_true
 have go:∀ n2 dd sl,s.heap.get? b=some { cls:=.type "tuple",dict:=dd,data:=.seq its2.toArray n2,slots:=sl }→wpAny (model X.prog X.w) X.A (call (.builtin "list.extend") [.ref l,.ref b]) (EP X pins σ Q) X.xe s:=fun n2 dd sl e2=>by
  refine call_meets F.slot_list_extend ⟨_,e,rfl⟩ F.entry_list_extend (F.args_list_extend_2 _ _)
   (Cq l b its.toArray its2.toArray n n2 dd sl AA (by rw [List.size_toArray];omega) (by omega)) ⟨e,e2,?_⟩
  refine ⟨.eX,_,I.Jb (its':=its++its2) hH e (by simp) (r.append r2) ?_,rfl,q⟩
  rw [List.length_append]
  omega
 obtain ⟨⟨cls,dd,data,sl⟩,ho,hc,n2,hd⟩:=id p2
 simp only at hc hd
 subst hc hd
 exact go n2 dd sl ho
def O3 (K:PySem.W.Frag):R2:=fun x y H Q=>∃ a b xs,x=.ref a∧y=.ref b∧bx K H a xs∧bx K H b []∧Q (.bl (!decide (xs=[]))) H
theorem pB (hu:X.A.units < cLine):oB X (compareOp .NotEq) (O3 X.K):=by
 intro pins s σ H x y v u Q I rx ry h
 obtain ⟨a,b,xs,rfl,rfl,ha,hb,q⟩:=h
 cases rx
 cases ry
 obtain ⟨us,r1,p1,_⟩:=I.list ha
 obtain ⟨vs,r2,p2,_⟩:=I.list hb
 cases r2
 have l1:=r1.length
 by_cases hx:xs=[]
 ·rw [decide_eq_true hx] at q
  subst hx
  cases r1
  exact SeqAt.RcNeAt.lists (A:=X.A) (e:=fun _=>true) p1.isList p2.isList rfl hu (fun j h1 h2=>absurd h2 (by simp)) _ _ _ _ ⟨.bl false,H,I,rfl,q⟩
 ·rw [decide_eq_false hx] at q
  have:us≠[]:=fun z=>hx (by rw [z] at l1;exact List.length_eq_zero_iff.mp l1)
  refine SeqAt.RcNeAt.lists_lengths (A:=X.A) p1.isList p2.isList ?_ hu _ _ _ _ ⟨.bl true,H,I,rfl,q⟩
  cases us with
  | nil=>exact absurd rfl this
  | cons _ _=>simp
end
end L2
namespace L2
open PySem PySem.Spec PyProof.Rows
section
variable {X:Cx} {e:Expr} {te:TE}
end
end L2
namespace Hw
open PySem L2
def wm:Str:="abcdefghijklmnopqrstuvwxyz"
theorem M9:wm.cps.toList=(List.range 26).map (97+·):=by decide +kernel
theorem dU:wm.length≤sizeLine:=Nat.le_of_lt (line _ (by decide +kernel))
theorem Kr {r:Nat} (h:r < 26):xM wm.cps.toList (r:Int)=some (97+r):=dJ (by rw [M9,List.getElem?_map,List.getElem?_range h];rfl)
theorem eV (i:Int):xM wm.cps.toList (i % 26)=some (97+(i % 26).toNat):=by
 have h0:=Int.emod_nonneg i (show (26:Int)≠0 by decide)
 have h1:=Int.emod_lt_of_pos i (show (0:Int) < 26 by decide)
 have e:i % 26=((i % 26).toNat:Int):=(Int.toNat_of_nonneg h0).symm
 have:=Kr (r:=(i % 26).toNat) (by omega)
 rw [← e] at this
 exact this
def ki:List Str:=["lets","ifs","order","rows","att","notes","calls","ends","outlet","bend","motor","modes"]
theorem EJ:ki.length=12:=rfl
theorem lG:∀ x∈ki,x.length≤8:=by decide +kernel
theorem EI (i:Int):∃ x,x∈ki∧xM (ki.map V.str) (i % 12)=some (V.str x):=by
 have h0:=Int.emod_nonneg i (show (12:Int)≠0 by decide)
 have h1:=Int.emod_lt_of_pos i (show (0:Int) < 12 by decide)
 have e:i % 12=((i % 12).toNat:Int):=(Int.toNat_of_nonneg h0).symm
 have hl:(i % 12).toNat < ki.length:=by rw [EJ];omega
 refine ⟨ki[(i % 12).toNat],List.getElem_mem hl,?_⟩
 have:=dJ (xs:=ki.map V.str) (j:=(i % 12).toNat) (v:=V.str ki[(i % 12).toNat]) (by rw [List.getElem?_map,List.getElem?_eq_getElem hl];rfl)
 rw [← e] at this
 exact this
abbrev CG (c:Nat):Str:=⟨#[c]⟩
def zw (a b:Nat):Str:=(("z":Str)++CG a)++CG b
theorem zj (a b:Str):(a++b).cps.toList=a.cps.toList++b.cps.toList:=PySem.W.KT.app_list a b
theorem iZ (a b:Str):(a++b).length=a.length+b.length:=by
 have h:∀ x:Str,x.length=x.cps.toList.length:=fun x=>by simp [Str.length]
 rw [h,h,h,zj,List.length_append]
theorem Bb (a b:Nat):(zw a b).cps.toList=[122,a,b]:=by
 unfold zw
 rw [zj,zj]
 rfl
theorem qv (a b:Nat):(zw a b).length=3:=by
 unfold zw
 rw [iZ,iZ]
 rfl
theorem Jp:∀ x∈eW,x.cps.toList.head?≠some 122:=by decide +kernel
theorem nc (a b:Nat):zw a b ∉ eW:=fun h=>Jp _ h (by rw [Bb];rfl)
def zt (k:Int) (t:Nat):Str:=zw (97+((t:Int) % 26).toNat) (97+((k+t) % 26).toNat)
theorem Ot {k:Int} {s t:Nat} (hs:s < 26) (ht:t < 26) (h:zt k s=zt k t):s=t:=by
 have e:(zt k s).cps.toList=(zt k t).cps.toList:=by rw [h]
 unfold zt at e
 rw [Bb,Bb] at e
 have:=(List.cons.inj (List.cons.inj e).2).1
 omega
theorem HC:∀ (n:Nat) (f:Nat→Str) (xs:List Str),(∀ s,s < n→f s∈xs)→(∀ s t,s < n→t < n→f s=f t→s=t)→n≤xs.length
 | 0,_,_,_,_=>Nat.zero_le _
 | n+1,f,xs,h,inj=>by
  have m:=h n (Nat.lt_succ_self n)
  have ih:=HC n f (xs.erase (f n)) (fun s hs=>by
   have ne:f s≠f n:=fun e=>Nat.ne_of_lt hs (inj s n (Nat.lt_succ_of_lt hs) (Nat.lt_succ_self n) e)
   exact (List.mem_erase_of_ne ne).mpr (h s (Nat.lt_succ_of_lt hs))) fun s t hs ht=>inj s t (Nat.lt_succ_of_lt hs) (Nat.lt_succ_of_lt ht)
  rw [List.length_erase_of_mem m] at ih
  have:0 < xs.length:=List.length_pos_of_mem m
  omega
theorem Bc {k:Int} {xs:List Str} {n:Nat} (hn:n≤20) (h:∀ s,s < n→zt k (s+1)∈xs):n≤xs.length :=
 HC n (fun s=>zt k (s+1)) xs h fun s t hs ht e=>by have:=Ot (by omega) (by omega) e;omega
theorem dR (w:Str) (xs:List Str):m8 (.str w) (xs.map V.str)=decide (w∈xs):=by
 unfold m8
 rw [List.any_map]
 by_cases h:w∈xs
 ·rw [decide_eq_true h,List.any_eq_true]
  exact ⟨w,h,by simp [A9]⟩
 ·rw [decide_eq_false h,List.any_eq_false]
  intro y hy
  simp only [Function.comp,A9,beq_iff_eq]
  intro e
  exact h (e ▸ hy)
theorem dO (xs:List Str):(xs.map V.str).all iF=true:=by rw [List.all_map,List.all_eq_true];intro _ _;rfl
theorem JA (ss:List Str) (h:∀ a∈ss,a.length=1):(Txt.join (Str.ofString "") ss).length=ss.length:=PySem.W.KT.join_ones ss h
def Eg (c:TT):Prop:=∀ σ H Q Q',(∀ b H1,Q b H1→Q' b H1)→c σ H Q→c σ H Q'
def Eh (c:TE):Prop:=∀ σ H (Q Q':VK),(∀ b H1,Q b H1→Q' b H1)→c σ H Q→c σ H Q'
theorem fQ (i:Nat):Eh (OM i):=fun σ H Q Q' f ⟨v,e,q⟩=>⟨v,e,f _ _ q⟩
theorem qP {E:XK}:Eh (C9 yi [] E K3):=fun σ H Q Q' f ⟨e,q⟩=>⟨e,fun l H' a b c=>f _ _ (q l H' a b c)⟩
theorem mD {K:PySem.W.Frag} {ta tb:TE} (a:Eh ta) (b:Eh tb):Eg (NK (R6 (ZC K false) ta tb)):=fun σ H Q Q' f h =>
 a σ H _ _ (fun x H1 q=>b σ H1 _ _ (fun y H2 q=>let ⟨p,xs,h1,h2,h3,h4,k,h5,h6⟩:=q;⟨p,xs,h1,h2,h3,h4,k,h5,f _ _ h6⟩) q) h
theorem yG {t u:TT} (a:Eg t) (b:Eg u):Eg (tOr t u):=fun σ H Q Q' f h =>
 a σ H _ _ (fun c H1 q=>by
  cases c with
  | true=>exact vm (f _ _ (by simpa using q))
  | false=>exact wG (b σ H1 Q Q' f (by simpa using q))) h
def VQ (a b:Addr) (H H':Hp):Prop:=∀ c o,H c=some o→c≠a→c≠b→H' c=some o
theorem Mm {n k:Nat} (h:k < n):JB n (k:Int)=some k:=by
 unfold JB
 rw [if_pos (by omega),if_pos (by omega)]
 simp
theorem zJ:∀ ss:List Str,(∀ a∈ss,a.length=1)→(ss.map (·.length)).sum=ss.length
 | [],_=>rfl
 | a::r,h=>by
  rw [List.map_cons,List.sum_cons,zJ r fun b hb=>h b (List.mem_cons_of_mem _ hb),List.length_cons,h a (List.mem_cons_self ..)]
  omega
theorem bI.free {d l:Addr} {H H':Hp} (b:bI d H H') (h:H' l=none) (n:l≠d):H l=none:=by
 cases q:H l with
 | none=>rfl
 | some o=>rw [b l o q n] at h;cases h
theorem Dr.ne {H:Hp} {d l:Addr} (h:Dr H d) (n:H l=none):l≠d:=let ⟨_,_,e⟩:=h;(aq e n).symm
def Pz:St→Hp→Nat:=fun σ _=>match (σ[12]?:Option (Option V)) with
 | some (some (V.int t))=>20 - t.toNat
 | _=>0
end Hw
namespace Hw
open PySem L2
theorem e9:(10:Int) ^ Int.toNat 9=1000000000:=by decide
theorem K5 {xs:List Str} {r:Nat} (h:r < xs.length):(xs.map V.str)[r]?=some (V.str xs[r]):=by rw [List.getElem?_map,List.getElem?_eq_getElem h];rfl
end Hw
namespace Hw
open PySem L2
def Small (i:Int):Prop:=-(2 ^ 60) < i∧i < 2 ^ 60
theorem Small.w {i:Int} (h:Small i):-(2 ^ 64) < i∧i < 2 ^ 64:=⟨by have:=h.1;omega,by have:=h.2;omega⟩
def Short (ts:Ps):Prop:=ts.length≤20∧∀ p∈ts,Small p.2∧p.1.length≤100
end Hw
namespace Hw
open PySem L2
section
variable {C:Addr} {H H':Hp} {tl pq q0 q1 hq du u0 u1 sl sa sb:Addr} {xs:List Str} {ps0 t0 t1:Ps} {h0 h1:Int}
end
theorem aS {α β:Type} {F:α→β→Prop}:∀ {xs:List α} {ys:List β} {a:α} {b:β},Paired F xs ys→F a b→Paired F (xs++[a]) (ys++[b])
 | _,_,_,_,.nil,h=>.cons h .nil
 | _,_,_,_,.cons r t,h=>.cons r (aS t h)
theorem e8:(10:Int) ^ Int.toNat 8=100000000:=by decide
theorem sJ.keys {ps ts:Ps} (g:sJ ps ts) {t:Str} (h:t∈keys ts):t∈keys ps:=by
 obtain ⟨p,hp,rfl⟩:=List.mem_map.mp h
 have e:bH ts (ind p.1)=p.2:=by
  have up:=g.1.up
  have nz:=g.1.nz
  clear g h
  induction ts with
  | nil=>cases hp
  | cons q r ih =>
   rcases List.mem_cons.mp hp with z | z
   ·subst z
    exact Canon.head ⟨up,nz⟩
   ·have l:lt q.1 p.1=true:=(List.pairwise_cons.mp up).1 p z
    rw [bH,ih z (List.pairwise_cons.mp up).2 fun s hs=>nz s (List.mem_cons_of_mem _ hs)]
    simp [ind,DE l]
 refine Classical.byContradiction fun n=>?_
 have z:bH ps (ind p.1)=0:=pO fun q hq e'=>n (by rw [← e'];exact List.mem_map.mpr ⟨q,hq,rfl⟩)
 rw [g.2] at e
 rw [z] at e
 exact g.1.nz p hp e.symm
end Hw
namespace Hw
open PySem L2
theorem aW {α β:Type} {F:α→β→Prop}:∀ {vs:List α} {ps:List β},Paired F vs ps→∀ {i:Nat} {v:α},vs[i]?=some v→∃ p,ps[i]?=some p∧F v p
 | _,_,.nil,_,_,e=>by simp at e
 | _,_,.cons r t,0,_,e=>by simp at e;subst e;exact ⟨_,rfl,r⟩
 | _,_,.cons r t,i+1,_,e=>aW t (i:=i) (by simpa using e)
structure Tb (e:Ps):Prop where
 nd:(keys e).Nodup
 ok:∀ p∈e,p.2≠0∧Small p.2∧p.1.length≤100
theorem Tb.nil:Tb []:=⟨.nil,fun _ h=>nomatch h⟩
theorem Di {e:Ps} {t:Str} {n:Int} {p:Str×Int} (h:p∈put e t n):p∈e∨p=(t,n):=by
 unfold Hw.put at h
 split at h
 ·obtain ⟨q,hq,e⟩:=List.mem_map.mp h
  split at e
  ·rename_i z
   rw [← e,z];exact .inr rfl
  ·rw [← e];exact .inl hq
 ·rcases List.mem_append.mp h with z | z
  ·exact .inl z
  ·exact .inr (List.mem_singleton.mp z)
theorem Tb.put {e:Ps} {t:Str} {n:Int} (h:Tb e) (hn:n≠0) (hs:Small n) (ht:t.length≤100):Tb (put e t n) :=
 ⟨wZ h.nd,fun p hp=>(Di hp).elim (h.ok p) fun z=>z ▸ ⟨hn,hs,ht⟩⟩
theorem get_mem:∀ {e:Ps} {t:Str},t∈keys e→(t,get e t)∈e
 | p::r,t,h=>by
  rw [cU]
  by_cases z:p.1=t
  ·rw [if_pos z,← z];exact List.mem_cons_self ..
  ·rw [if_neg z]
   exact List.mem_cons_of_mem _ (get_mem ((List.mem_cons.mp h).resolve_left fun q=>z q.symm))
theorem Tb.canon {e:Ps} {ys:List Str} (h:Tb e) (hp:ys.Perm (keys e)) (hs:ys.Pairwise fun a b=>lt b a=false):Canon (ys.map fun t=>(t,get e t)):=by
 have nd:ys.Nodup:=hp.nodup_iff.mpr h.nd
 refine ⟨?_,fun p hq=>?_⟩
 ·rw [List.pairwise_map]
  refine (hs.and nd).imp fun {a b} q=>?_
  rcases uV a b with e | e | e
  ·exact e
  ·exact absurd e q.2
  ·rw [q.1] at e;cases e
 ·obtain ⟨t,ht,rfl⟩:=List.mem_map.mp hq
  exact (h.ok _ (get_mem (hp.mem_iff.mp ht))).1
theorem Tb.short {e:Ps} {ys:List Str} (h:Tb e) (hp:ys.Perm (keys e)) (hl:e.length≤20):Short (ys.map fun t=>(t,get e t)):=by
 refine ⟨?_,fun p hq=>?_⟩
 ·rw [List.length_map,hp.length_eq]
  unfold keys
  rw [List.length_map]
  exact hl
 ·obtain ⟨t,ht,rfl⟩:=List.mem_map.mp hq
  exact (h.ok _ (get_mem (hp.mem_iff.mp ht))).2
end Hw
namespace Hw
open PySem L2
abbrev Sb:=List (Str×Ps×Int)
def look:Sb→Str→Option (Ps×Int)
 | [],_=>none
 | p::r,t=>if p.1=t then some p.2 else look r t
def tS (S:Sb) (p:Str×Int):Ps:=match look S p.1 with
 | some q=>q.1.map fun x=>(x.1,p.2*x.2)
 | none=>[p]
def xW (S:Sb) (p:Str×Int):Int:=match look S p.1 with
 | some q=>p.2*q.2
 | none=>0
def ni (S:Sb) (ts:Ps):Ps:=(ts.map (tS S)).flatten
def i0 (S:Sb) (ts:Ps):Int:=(ts.map (xW S)).sum
def A8 (S:Sb) (f:Str→Int):Str→Int:=fun t=>match look S t with
 | some q=>q.2+bH q.1 f
 | none=>f t
theorem wO (S:Sb) (ts:Ps) (p:Str×Int):ni S (ts++[p])=ni S ts++tS S p:=by unfold ni;simp
theorem wQ (S:Sb) (ts:Ps) (p:Str×Int):i0 S (ts++[p])=i0 S ts+xW S p:=by unfold i0;simp
theorem uZ (k:Int):∀ (a:Ps) (f:Str→Int),bH (a.map fun p=>(p.1,k*p.2)) f=k*bH a f
 | [],f=>by simp [bH]
 | p::a,f=>by
  simp only [List.map_cons,bH,uZ k a f,Int.mul_add]
  rw [Int.mul_assoc]
theorem Je (S:Sb) (p:Str×Int) (f:Str→Int):bH (tS S p) f+xW S p=p.2*A8 S f p.1:=by
 unfold tS xW A8
 cases look S p.1 with
 | none=>simp [bH]
 | some q=>simp only [uZ,Int.mul_add];omega
theorem sZ (S:Sb) (f:Str→Int):∀ ts:Ps,bH (ni S ts) f+i0 S ts=bH ts (A8 S f)
 | []=>rfl
 | p::r=>by
  have ih:=sZ S f r
  have e:ni S (p::r)=tS S p++ni S r:=by unfold ni;simp
  have e2:i0 S (p::r)=xW S p+i0 S r:=by unfold i0;simp
  have:=Je S p f
  rw [e,e2,cE,bH]
  omega
theorem uW:∀ {S:Sb} {t:Str} {q:Ps×Int},look S t=some q→(t,q)∈S
 | p::r,t,q,h=>by
  unfold look at h
  split at h
  ·rename_i e
   cases h
   rw [← e]
   exact List.mem_cons_self ..
  ·exact List.mem_cons_of_mem _ (uW h)
def Rl (P:Addr→Ps×Int→Prop) (kvs:List (Key×V)) (S:Sb):Prop:=Paired (fun (kv:Key×V) (s:Str×Ps×Int)=>kv.1=Sum.inr s.1∧∃ u,kv.2=V.ref u∧P u s.2) kvs S
def m5 (S:Sb):List Str:=S.map (·.1)
theorem Rl.mono {P P':Addr→Ps×Int→Prop} {kvs:List (Key×V)} {S:Sb} (h:Rl P kvs S) (f:∀ u q,P u q→P' u q):Rl P' kvs S:=L2.Paired.dh h fun _ _ z=>let ⟨a,u,b,c⟩:=z;⟨a,u,b,f _ _ c⟩
theorem Rl.len {P:Addr→Ps×Int→Prop} {kvs:List (Key×V)} {S:Sb} (h:Rl P kvs S):kvs.length=S.length:=Paired.length h
theorem Rl.some {P:Addr→Ps×Int→Prop} {t:Str} {q:Ps×Int}:∀ {kvs:List (Key×V)} {S:Sb},Rl P kvs S→look S t=.some q→∃ u,jz kvs (Sum.inr t)=.some (.ref u)∧P u q
 | _,_,.nil,e=>by cases e
 | (k,v)::kvs,s::S,.cons r h,e=>by
  obtain ⟨r1,u,r2,r3⟩:=r
  have r1:k=Sum.inr s.1:=r1
  have r2:v=V.ref u:=r2
  subst r1 r2
  unfold look at e
  by_cases z:s.1=t
  ·rw [if_pos z] at e
   cases e
   exact ⟨u,kD (by simp [z]),r3⟩
  ·rw [if_neg z] at e
   obtain ⟨u',h1,h2⟩:=Rl.some (t:=t) (q:=q) h e
   exact ⟨u',by rw [jh (by simpa using z)];exact h1,h2⟩
theorem Rl.none {P:Addr→Ps×Int→Prop} {t:Str}:∀ {kvs:List (Key×V)} {S:Sb},Rl P kvs S→look S t=.none→jz kvs (Sum.inr t)=.none
 | _,_,.nil,e=>rfl
 | (k,v)::kvs,s::S,.cons r h,e=>by
  obtain ⟨r1,u,r2,r3⟩:=r
  have r1:k=Sum.inr s.1:=r1
  subst r1
  unfold look at e
  by_cases z:s.1=t
  ·rw [if_pos z] at e;cases e
  ·rw [if_neg z] at e
   rw [jh (by simpa using z)]
   exact Rl.none h e
theorem xh {t:Str}:∀ {S:Sb},t ∉ m5 S→look S t=none
 | [],_=>rfl
 | s::r,h=>by
  unfold look
  rw [if_neg (fun z=>h (by unfold m5;rw [List.map_cons,z];exact List.mem_cons_self ..))]
  exact xh fun z=>h (List.mem_cons_of_mem _ z)
theorem w6 {t:Str}:∀ {S:Sb},t∈m5 S→∃ q,look S t=some q
 | s::r,h=>by
  unfold look
  by_cases z:s.1=t
  ·exact ⟨_,if_pos z⟩
  ·rw [if_neg z]
   exact w6 ((List.mem_cons.mp h).resolve_left fun e=>z e.symm)
def iy (S:Sb) (t:Str) (q:Ps×Int):Sb:=if t∈m5 S then S.map (fun s=>if s.1=t then (s.1,q) else s) else S++[(t,q)]
theorem BC {P:Addr→Ps×Int→Prop} {t:Str}:∀ {kvs:List (Key×V)} {S:Sb},Rl P kvs S→((kvs.any fun kv=>decide (kv.1=(Sum.inr t:Key)))=true↔t∈m5 S)
 | _,_,.nil=>by simp [m5]
 | (k,v)::kvs,s::S,.cons r h=>by
  obtain ⟨r1,_⟩:=r
  have r1:k=Sum.inr s.1:=r1
  subst r1
  have ih:=BC (t:=t) h
  unfold m5 at ih ⊢
  rw [List.any_cons,Bool.or_eq_true,ih,List.map_cons,List.mem_cons]
  simp [eq_comm]
theorem Rl.put {P:Addr→Ps×Int→Prop} {kvs:List (Key×V)} {S:Sb} {t:Str} {u:Addr} {q:Ps×Int} (h:Rl P kvs S) (hu:P u q):Rl P (putK kvs (Sum.inr t) (.ref u)) (iy S t q):=by
 unfold putK iy
 by_cases z:t∈m5 S
 ·rw [if_pos ((BC h).mpr z),if_pos z]
  clear z
  induction h with
  | nil=>exact .nil
  | cons r _ ih =>
   refine .cons ?_ ih
   obtain ⟨r1,v,r2,r3⟩:=r
   rename_i kv s _ _ _
   obtain ⟨k,w⟩:=kv
   have r1:k=Sum.inr s.1:=r1
   have r2:w=V.ref v:=r2
   subst r1 r2
   by_cases e:s.1=t
   ·have e1:(if (Sum.inr s.1:Key)=Sum.inr t then ((Sum.inr s.1:Key),V.ref u) else (Sum.inr s.1,V.ref v))=(Sum.inr s.1,V.ref u):=if_pos (by rw [e])
    have e2:(if s.1=t then (s.1,q) else s)=(s.1,q):=if_pos e
    show (if (Sum.inr s.1:Key)=Sum.inr t then ((Sum.inr s.1:Key),V.ref u) else (Sum.inr s.1,V.ref v)).1=Sum.inr (if s.1=t then (s.1,q) else s).1∧_
    dsimp only
    rw [e1,e2]
    exact ⟨rfl,u,rfl,hu⟩
   ·have e1:(if (Sum.inr s.1:Key)=Sum.inr t then ((Sum.inr s.1:Key),V.ref u) else (Sum.inr s.1,V.ref v))=(Sum.inr s.1,V.ref v):=if_neg fun z=>e (Sum.inr.inj z)
    have e2:(if s.1=t then (s.1,q) else s)=s:=if_neg e
    show (if (Sum.inr s.1:Key)=Sum.inr t then ((Sum.inr s.1:Key),V.ref u) else (Sum.inr s.1,V.ref v)).1=Sum.inr (if s.1=t then (s.1,q) else s).1∧_
    dsimp only
    rw [e1,e2]
    exact ⟨rfl,v,rfl,r3⟩
 ·rw [if_neg (fun e=>z ((BC h).mp e)),if_neg z]
  exact aS h ⟨rfl,u,rfl,hu⟩
theorem zW {S:Sb} {t:Str} {q:Ps×Int} {s:Str×Ps×Int} (h:s∈iy S t q):s∈S∨s=(t,q):=by
 unfold iy at h
 split at h
 ·obtain ⟨a,ha,e⟩:=List.mem_map.mp h
  split at e
  ·rename_i z
   rw [← e,z];exact .inr rfl
  ·rw [← e];exact .inl ha
 ·rcases List.mem_append.mp h with z | z
  ·exact .inl z
  ·exact .inr (List.mem_singleton.mp z)
theorem Eo (S:Sb) (t:Str) (q:Ps×Int):m5 (iy S t q)=if t∈m5 S then m5 S else m5 S++[t]:=by
 unfold iy
 split
 ·unfold m5
  rw [List.map_map]
  refine List.map_congr_left fun p _=>?_
  show (if p.1=t then (p.1,q) else p).1=p.1
  split <;> rfl
 ·unfold m5;rw [List.map_append];rfl
theorem zX (S:Sb) (t:Str) (q:Ps×Int):(iy S t q).length≤S.length+1:=by
 unfold iy
 split
 ·rw [List.length_map];omega
 ·simp
theorem DG {K:PySem.W.Frag} {H:Hp}:∀ {n:Nat} {x y:V},lR K H n x y→lR K H (n+1) x y
 | 0,_,_,h=>.inl h
 | n+1,_,_,h=>by
  rcases h with h | ⟨a,b,xs,ys,e1,e2,h,p⟩
  ·exact .inl h
  ·exact .inr ⟨a,b,xs,ys,e1,e2,h,L2.Paired.dh p fun _ _ z=>DG z⟩
theorem EZ {K:PySem.W.Frag} {H:Hp} {a b:Addr} {ts:Ps} {n:Int} (h:gj H a ts n) (h':gj H b ts n):∃ xs ys,aV K H a xs∧aV K H b ys∧Paired (lR K H 2) xs ys:=by
 obtain ⟨t,e,vs,et,r⟩:=h
 obtain ⟨t',e',vs',et',r'⟩:=h'
 exact ⟨_,_,aV.of e,aV.of e',.cons (.inr ⟨t,t',vs,vs',rfl,rfl,.inr ⟨aV.of et,aV.of et'⟩,zZ r r'⟩) (.cons (.inl ⟨rfl,rfl⟩) .nil)⟩
theorem vC {K:PySem.W.Frag} {H:Hp} {a b:Addr} {ts:Ps} {n:Int} (h:gj H a ts n) (h':gj H b ts n):lR K H 3 (.ref a) (.ref b):=by
 obtain ⟨xs,ys,h1,h2,p⟩:=EZ (K:=K) h h'
 exact .inr ⟨a,b,xs,ys,rfl,rfl,.inr ⟨h1,h2⟩,p⟩
theorem DU {K:PySem.W.Frag} {a:Addr} {ps:Ps} {g:TG} {tb:TS} {D:Ends} {σ:St} {H:Hp} (h:Tp H a ps) (Pv:Nat→St→Hp→Prop) (h0:Pv 0 σ H) (hS:∀ i σ H',Pv i σ H'→∀ b xs,H b=some (.tup xs)→H' b=some (.tup xs))
  (hs:∀ i v p σ H',ps[i]?=some p→Pr H' v p→Pv i σ H'→g v σ H' fun σ2 H2=>tb { D with nx:=Pv (i+1),ct:=Pv (i+1),bk:=D.nx } σ2 H2) (hd:∀ σ H',Pv ps.length σ H'→D.nx σ H') :
  (∃ xs,aV K H a xs)∧Rh (FH K a) g tb D σ H:=by
 obtain ⟨vs,e,r⟩:=h
 refine ⟨⟨vs,aV.of e⟩,pY (xs:=vs) Pv h0 (fun i σ H' _ p=>aV.of (hS i σ H' p _ _ e)) (fun i v σ H' hi p=>?_) ?_⟩
 ·obtain ⟨q,hq,pr⟩:=get_some r hi
  exact hs i v q σ H' hq (pr.keep (hS i σ H' p)) p
 ·rw [dI r];exact hd
theorem OV {r:Nat} (hr:r < 7):∃ z:Int,([V.int 0,.int 1,.int 1,.int 1,.int 2,.int 2,.int 3]:List V)[r]?=some (V.int z)∧0≤z∧z≤3 :=
 match r,hr with
 | 0,_=>⟨_,rfl,by decide,by decide⟩ | 1,_=>⟨_,rfl,by decide,by decide⟩ | 2,_=>⟨_,rfl,by decide,by decide⟩ | 3,_=>⟨_,rfl,by decide,by decide⟩ | 4,_=>⟨_,rfl,by decide,by decide⟩ | 5,_=>⟨_,rfl,by decide,by decide⟩ | 6,_=>⟨_,rfl,by decide,by decide⟩
theorem QH {r:Nat} (hr:r < 8):∃ z,([V.int 1,.int 1,.int 1,.int (-1),.int (-1),.int 2,.int (-3),.int 17]:List V)[r]?=some (V.int z)∧z≠0∧Small z :=
 match r,hr with
 | 0,_=>⟨_,rfl,by decide,by decide,by decide⟩ | 1,_=>⟨_,rfl,by decide,by decide,by decide⟩ | 2,_=>⟨_,rfl,by decide,by decide,by decide⟩ | 3,_=>⟨_,rfl,by decide,by decide,by decide⟩
 | 4,_=>⟨_,rfl,by decide,by decide,by decide⟩ | 5,_=>⟨_,rfl,by decide,by decide,by decide⟩ | 6,_=>⟨_,rfl,by decide,by decide,by decide⟩ | 7,_=>⟨_,rfl,by decide,by decide,by decide⟩
theorem Zo {a b:Int} (ha:Small a) (hb:Small b) (i:Int):∃ z,xM ([V.int 0,.int 0,.int 1,.int (-1),.int a,.int b]:List V) (i % 6)=some (V.int z)∧Small z:=by
 have h:i % 6=0∨i % 6=1∨i % 6=2∨i % 6=3∨i % 6=4∨i % 6=5:=by omega
 rcases h with h | h | h | h | h | h <;> rw [h]
 ·exact ⟨_,rfl,by decide,by decide⟩
 ·exact ⟨_,rfl,by decide,by decide⟩
 ·exact ⟨_,rfl,by decide,by decide⟩
 ·exact ⟨_,rfl,by decide,by decide⟩
 ·exact ⟨_,rfl,ha⟩
 ·exact ⟨_,rfl,hb⟩
def Ku (C:Addr) (H:Hp):Addr→Ps×Int→Prop:=fun u q=>bO C H u q.1 q.2
def RW (ts:Ps):Prop:=ts.length≤3∧∀ p∈ts,Small p.2
def yb (C:Addr):Sp:=fun vs H Q _=>∃ (p:Addr) (ts:Ps) (n:Int),vs=[.ref p]∧bO C H p ts n∧∀ (r:Addr) (H':Hp),az H H'→gj H' r ts n→Q (.ref r) H'
def tZ:Sp:=fun vs H Q _=>∃ (p d:Addr) (ts ns:Ps) (n:Int),vs=[.ref p,.ref d]∧gj H p ts n∧H d=some (.dK (enc ns))∧RW ts∧(∀ p∈ts,p.1∈keys ns)∧∀ H',az H H'→Q (.int (n+bH ts (get ns))) H'
end Hw
namespace Hw
open PySem L2
structure Na (o:HO):Prop where
 t:∀ xs,o≠.tup xs
 i:∀ C dx fs,o≠.ins C dx fs
theorem fK {xs:List V}:Na (.lst xs):=⟨fun _ z=>(by cases z),fun _ _ _ z=>(by cases z)⟩
theorem OU {xs:List (Key×V)}:Na (.dK xs):=⟨fun _ z=>(by cases z),fun _ _ _ z=>(by cases z)⟩
section
variable {H H':Hp} {z:Addr} {o:HO}
theorem bI.tupS (b:bI z H H') (hz:H z=some o) (so:Na o):∀ a xs,H a=some (.tup xs)→H' a=some (.tup xs):=fun a xs e=>b a _ e fun q=>by rw [q,hz] at e;exact so.t xs (Option.some.inj e)
end
section
variable {H0 H H':Hp} {d tl ro:Addr} {xs:List Str} {t0:Ps} {n0:Int}
end
theorem xg (t t':Str) (q:Ps×Int):∀ A:Sb,look (A++[(t',q)]) t=match look A t with | some x=>some x | none=>if t'=t then some q else none
 | []=>rfl
 | a::r=>by
  have ih:=xg t t' q r
  show (if a.1=t then some a.2 else look (r++[(t',q)]) t)=match (if a.1=t then some a.2 else look r t) with | some x=>some x | none=>if t'=t then some q else none
  by_cases e:a.1=t
  ·rw [if_pos e,if_pos e]
  ·rw [if_neg e,if_neg e,ih]
theorem DR (t:Str) (n:Int) (t':Str):∀ e:Ps,get (e++[(t,n)]) t'=if t'∈keys e then get e t' else if t=t' then n else 0
 | []=>by
  rw [if_neg (by simp [keys])]
  show get [(t,n)] t'=_
  rw [cU]
  rfl
 | p::r=>by
  have ih:=DR t n t' r
  have mk:t'∈keys (p::r)↔t'=p.1∨t'∈keys r:=by unfold keys;rw [List.map_cons,List.mem_cons]
  rw [List.cons_append,cU,cU,ih]
  by_cases z:p.1=t'
  ·have:t'∈keys (p::r):=mk.mpr (.inl z.symm)
   simp only [z,if_true,this]
  ·by_cases m:t'∈keys r
   ·have:t'∈keys (p::r):=mk.mpr (.inr m)
    simp only [z,if_false,m,if_true,this]
   ·have:¬ t'∈keys (p::r):=fun w=>(mk.mp w).elim (fun y=>z y.symm) m
    simp only [z,if_false,m,this]
theorem DQ (e:Ps) (t t':Str) (n:Int):get (put e t n) t'=if t=t' then n else get e t':=by
 unfold put
 by_cases h:(e.any fun p=>decide (p.1=t))=true
 ·rw [if_pos h]
  by_cases q:t=t'
  ·rw [if_pos q]
   subst q
   have m:t∈keys e:=(j4 e t).mp h
   clear h
   induction e with
   | nil=>simp [keys] at m
   | cons p r ih =>
    rw [List.map_cons,cU]
    by_cases z:p.1=t
    ·simp only [z,if_true]
    ·simp only [z,if_false]
     exact ih ((List.mem_cons.mp m).resolve_left fun w=>z w.symm)
  ·rw [if_neg q]
   clear h
   induction e with
   | nil=>rfl
   | cons p r ih =>
    rw [List.map_cons,cU,cU,ih]
    by_cases z:p.1=t
    ·have z':¬ p.1=t':=fun w=>q (z.symm.trans w)
     rw [if_pos z]
     show (if p.1=t' then n else get r t')=_
     rw [if_neg z',if_neg z']
    ·rw [if_neg z]
 ·rw [if_neg h,DR]
  have nm:t ∉ keys e:=fun m=>h ((j4 e t).mpr m)
  by_cases q:t=t'
  ·subst q
   rw [if_neg nm,if_pos rfl,if_pos rfl]
  ·by_cases m:t'∈keys e
   ·rw [if_pos m,if_neg q]
   ·rw [if_neg m,if_neg q,if_neg q,vq m]
end Hw
namespace Hw
open PySem L2
inductive Cd where
 | cmp (a:Ps) (n:Int) (s:Str) (b:Ps) (m:Int)
 | neg (c:Cd)
 | con (k:Bool) (cs:List Cd)
mutual
def Cd.dep:Cd→Nat
 | .cmp ..=>1
 | .neg c=>c.dep+1
 | .con _ cs=>jv cs+1
def jv:List Cd→Nat
 | []=>0
 | c::cs=>max c.dep (jv cs)
end
theorem fh {c:Cd}:∀ {cs:List Cd},c∈cs→c.dep≤jv cs
 | a::r,h=>by
  unfold jv
  rcases List.mem_cons.mp h with e | e
  ·rw [e];exact Nat.le_max_left _ _
  ·exact Nat.le_trans (fh e) (Nat.le_max_right _ _)
theorem ML (c:Cd):1≤c.dep:=by cases c <;> simp [Cd.dep]
def A7 (k:Bool):Str:=if k then "and" else "or"
mutual
def bf (H:Hp):Cd→V→Prop
 | .cmp a n s b m,v=>∃ r u w,v=.ref r∧H r=some (.tup [.str "compare",.ref u,.str s,.ref w])∧gj H u a n∧gj H w b m
 | .neg c,v=>∃ r u,v=.ref r∧H r=some (.tup [.str "not",u])∧bf H c u
 | .con k cs,v=>∃ r us,v=.ref r∧H r=some (.tup (.str (A7 k)::us))∧cj H cs us
def cj (H:Hp):List Cd→List V→Prop
 | [],us=>us=[]
 | c::cs,us=>∃ u r,us=u::r∧bf H c u∧cj H cs r
end
structure Cz where
 s:Addr
 c:Addr
 t:Addr
 e:Addr
 o:Addr
def qc (u:Addr) (s:Str) (w:Addr):List (Str×V):=gg "other" (.ref w) (gg "sign" (.str s) (gg "one" (.ref u) []))
def zI (u:V):List (Str×V):=gg "condition" u []
def jg (t:Addr):List (Str×V):=gg "conditions" (.ref t) []
mutual
def aT (Z:Cz) (H:Hp):Cd→V→Prop
 | .cmp a n s b m,v=>∃ p dx u w,v=.ref p∧H p=some (.ins Z.c dx (qc u s w))∧bO Z.s H u a n∧bO Z.s H w b m
 | .neg c,v=>∃ p dx u,v=.ref p∧H p=some (.ins Z.t dx (zI u))∧aT Z H c u
 | .con k cs,v=>∃ p dx t us,v=.ref p∧H p=some (.ins (if k then Z.e else Z.o) dx (jg t))∧H t=some (.tup us)∧us.length≤1000∧ck Z H cs us
def ck (Z:Cz) (H:Hp):List Cd→List V→Prop
 | [],us=>us=[]
 | c::cs,us=>∃ u r,us=u::r∧aT Z H c u∧ck Z H cs r
end
structure aE (H H':Hp):Prop where
 t:∀ a xs,H a=some (.tup xs)→H' a=some (.tup xs)
 i:∀ a C dx fs,H a=some (.ins C dx fs)→H' a=some (.ins C dx fs)
theorem aE.of {H H':Hp} (s:az H H'):aE H H':=⟨fun _ _ e=>s _ _ e,fun _ _ _ _ e=>s _ _ e⟩
theorem aE.soft {H H':Hp} {z:Addr} {o:HO} (b:bI z H H') (hz:H z=some o) (so:Na o):aE H H' :=
 ⟨b.tupS hz so,fun a C dx fs e=>b _ _ e fun q=>by rw [q,hz] at e;exact so.i _ _ _ (Option.some.inj e)⟩
theorem gj.aH {H H':Hp} {r:Addr} {ts:Ps} {n:Int} (h:gj H r ts n) (k:aE H H'):gj H' r ts n:=let ⟨t,e,vs,et,r⟩:=h;⟨t,k.t _ _ e,vs,k.t _ _ et,r.keep k.t⟩
theorem bO.aH {H H':Hp} {C p:Addr} {ts:Ps} {n:Int} (h:bO C H p ts n) (k:aE H H'):bO C H' p ts n:=let ⟨dx,t,e,⟨vs,et,r⟩,l⟩:=h;⟨dx,t,k.i _ _ _ _ e,⟨vs,k.t _ _ et,r.keep k.t⟩,l⟩
mutual
theorem bf.aH {H H':Hp} (k:aE H H'):∀ {c:Cd} {v:V},bf H c v→bf H' c v
 | .cmp a n s b m,v,h=>by
  unfold bf at h ⊢
  obtain ⟨r,u,w,e,er,d1,d2⟩:=h
  exact ⟨r,u,w,e,k.t _ _ er,d1.aH k,d2.aH k⟩
 | .neg c,v,h=>by
  unfold bf at h ⊢
  obtain ⟨r,u,e,er,d⟩:=h
  exact ⟨r,u,e,k.t _ _ er,bf.aH k d⟩
 | .con b cs,v,h=>by
  unfold bf at h ⊢
  obtain ⟨r,us,e,er,d⟩:=h
  exact ⟨r,us,e,k.t _ _ er,cj.aH k d⟩
theorem cj.aH {H H':Hp} (k:aE H H'):∀ {cs:List Cd} {us:List V},cj H cs us→cj H' cs us
 | [],us,h=>by unfold cj at h ⊢;exact h
 | c::cs,us,h=>by
  unfold cj at h ⊢
  obtain ⟨u,r,e,d1,d2⟩:=h
  exact ⟨u,r,e,bf.aH k d1,cj.aH k d2⟩
end
mutual
theorem aT.aH {Z:Cz} {H H':Hp} (k:aE H H'):∀ {c:Cd} {v:V},aT Z H c v→aT Z H' c v
 | .cmp a n s b m,v,h=>by
  unfold aT at h ⊢
  obtain ⟨p,dx,u,w,e,ep,d1,d2⟩:=h
  exact ⟨p,dx,u,w,e,k.i _ _ _ _ ep,d1.aH k,d2.aH k⟩
 | .neg c,v,h=>by
  unfold aT at h ⊢
  obtain ⟨p,dx,u,e,ep,d⟩:=h
  exact ⟨p,dx,u,e,k.i _ _ _ _ ep,aT.aH k d⟩
 | .con b cs,v,h=>by
  unfold aT at h ⊢
  obtain ⟨p,dx,t,us,e,ep,et,l,d⟩:=h
  exact ⟨p,dx,t,us,e,k.i _ _ _ _ ep,k.t _ _ et,l,ck.aH k d⟩
theorem ck.aH {Z:Cz} {H H':Hp} (k:aE H H'):∀ {cs:List Cd} {us:List V},ck Z H cs us→ck Z H' cs us
 | [],us,h=>by unfold ck at h ⊢;exact h
 | c::cs,us,h=>by
  unfold ck at h ⊢
  obtain ⟨u,r,e,d1,d2⟩:=h
  exact ⟨u,r,e,aT.aH k d1,ck.aH k d2⟩
end
theorem bw {H:Hp}:∀ {cs:List Cd} {us:List V},cj H cs us↔Paired (fun u c=>bf H c u) us cs
 | [],us=>by
  unfold cj
  exact ⟨fun e=>e ▸ .nil,fun h=>by cases h;rfl⟩
 | c::cs,us=>by
  unfold cj
  constructor
  ·rintro ⟨u,r,rfl,d1,d2⟩
   exact .cons d1 (bw.mp d2)
  ·intro h
   cases h with
   | cons d1 d2=>exact ⟨_,_,rfl,d1,bw.mpr d2⟩
theorem aJ {Z:Cz} {H:Hp}:∀ {cs:List Cd} {us:List V},ck Z H cs us↔Paired (fun u c=>aT Z H c u) us cs
 | [],us=>by
  unfold ck
  exact ⟨fun e=>e ▸ .nil,fun h=>by cases h;rfl⟩
 | c::cs,us=>by
  unfold ck
  constructor
  ·rintro ⟨u,r,rfl,d1,d2⟩
   exact .cons d1 (aJ.mp d2)
  ·intro h
   cases h with
   | cons d1 d2=>exact ⟨_,_,rfl,d1,aJ.mpr d2⟩
theorem pP {K:PySem.W.Frag} {H:Hp} {n m:Nat} {x y:V} (h:lR K H n x y) (l:n≤m):lR K H m x y:=by
 induction l with
 | refl=>exact h
 | step _ ih=>exact DG ih
mutual
theorem qx {K:PySem.W.Frag} {H:Hp}:∀ {c:Cd} {x y:V},bf H c x→bf H c y→lR K H (c.dep+3) x y
 | .cmp a n s b m,x,y,h,g=>by
  unfold bf at h g
  obtain ⟨r,u,w,rfl,er,d1,d2⟩:=h
  obtain ⟨r',u',w',rfl,m9,d1',d2'⟩:=g
  exact .inr ⟨r,r',_,_,rfl,rfl,.inr ⟨aV.of er,aV.of m9⟩,.cons (.inl ⟨rfl,rfl⟩) (.cons (vC d1 d1') (.cons (.inl ⟨rfl,rfl⟩) (.cons (vC d2 d2') .nil)))⟩
 | .neg c,x,y,h,g=>by
  unfold bf at h g
  obtain ⟨r,u,rfl,er,d⟩:=h
  obtain ⟨r',u',rfl,m9,d'⟩:=g
  have e:(Cd.neg c).dep+3=(c.dep+3)+1:=by simp [Cd.dep]
  rw [e]
  exact .inr ⟨r,r',_,_,rfl,rfl,.inr ⟨aV.of er,aV.of m9⟩,.cons (pP (n:=0) ⟨rfl,rfl⟩ (Nat.zero_le _)) (.cons (qx d d') .nil)⟩
 | .con k cs,x,y,h,g=>by
  unfold bf at h g
  obtain ⟨r,us,rfl,er,d⟩:=h
  obtain ⟨r',us',rfl,m9,d'⟩:=g
  have e:(Cd.con k cs).dep+3=(jv cs+3)+1:=by simp [Cd.dep]
  rw [e]
  exact .inr ⟨r,r',_,_,rfl,rfl,.inr ⟨aV.of er,aV.of m9⟩,.cons (pP (n:=0) ⟨rfl,rfl⟩ (Nat.zero_le _)) (tQ (Nat.le_refl _) d d')⟩
theorem tQ {K:PySem.W.Frag} {H:Hp} {n:Nat}:∀ {cs:List Cd} {xs ys:List V},jv cs≤n→cj H cs xs→cj H cs ys→Paired (lR K H (n+3)) xs ys
 | [],xs,ys,_,h,g=>by
  unfold cj at h g
  subst h g
  exact .nil
 | c::cs,xs,ys,l,h,g=>by
  unfold cj at h g
  obtain ⟨u,r,rfl,d1,d2⟩:=h
  obtain ⟨u',r',rfl,d1',d2'⟩:=g
  unfold jv at l
  exact .cons (pP (qx d1 d1') (by omega)) (tQ (by omega) d2 d2')
end
def dG (s:Str) (x y:Int):Bool :=
 if s="<" then decide (x < y) else if s="<=" then decide (x≤y) else if s="=" then decide (x=y) else if s="!=" then !decide (x=y) else if s=">=" then decide (y≤x) else decide (y < x)
def signs:List Str:=["<","<=","=","!=",">=",">"]
mutual
def Cd.holds (f:Str→Int):Cd→Bool
 | .cmp a n s b m=>dG s (n+bH a f) (m+bH b f)
 | .neg c=>!c.holds f
 | .con k cs=>if k then cI f cs else cH f cs
def cI (f:Str→Int):List Cd→Bool
 | []=>true
 | c::cs=>c.holds f && cI f cs
def cH (f:Str→Int):List Cd→Bool
 | []=>false
 | c::cs=>c.holds f || cH f cs
end
def gX (s:Str):Str:=if s="<" then ">=" else if s=">=" then "<" else if s="<=" then ">" else if s=">" then "<=" else if s="=" then "!=" else "="
mutual
def Cd.gi:Cd→Cd
 | .cmp a n s b m=>.cmp a n (gX s) b m
 | .neg c=>c
 | .con k cs=>.con (!k) (fj cs)
def fj:List Cd→List Cd
 | []=>[]
 | c::cs=>c.gi::fj cs
end
mutual
def Cd.ok:Cd→Prop
 | .cmp a n s b m=>s∈signs
 | .neg c=>c.ok
 | .con _ cs=>wj cs
def wj:List Cd→Prop
 | []=>True
 | c::cs=>c.ok∧wj cs
end
theorem HS {s:Str} (h:s∈signs) (x y:Int):dG (gX s) x y=!dG s x y:=by
 simp only [signs,List.mem_cons,List.not_mem_nil,or_false] at h
 have l1:(gX "<")=">=":=by decide +kernel
 have l2:(gX "<=")=">":=by decide +kernel
 have l3:(gX "=")="!=":=by decide +kernel
 have l4:(gX "!=")="=":=by decide +kernel
 have l5:(gX ">=")="<":=by decide +kernel
 have l6:(gX ">")="<=":=by decide +kernel
 have v1:dG "<" x y=decide (x < y):=rfl
 have v2:dG "<=" x y=decide (x≤y):=by unfold dG;rw [if_neg (by decide +kernel),if_pos rfl]
 have v3:dG "=" x y=decide (x=y):=by unfold dG;rw [if_neg (by decide +kernel),if_neg (by decide +kernel),if_pos rfl]
 have v4:dG "!=" x y=!decide (x=y):=by unfold dG;rw [if_neg (by decide +kernel),if_neg (by decide +kernel),if_neg (by decide +kernel),if_pos rfl]
 have v5:dG ">=" x y=decide (y≤x):=by unfold dG;rw [if_neg (by decide +kernel),if_neg (by decide +kernel),if_neg (by decide +kernel),if_neg (by decide +kernel),if_pos rfl]
 have v6:dG ">" x y=decide (y < x):=by unfold dG;rw [if_neg (by decide +kernel),if_neg (by decide +kernel),if_neg (by decide +kernel),if_neg (by decide +kernel),if_neg (by decide +kernel)]
 rcases h with h | h | h | h | h | h <;> subst h
 ·rw [l1,v5,v1];by_cases q:x < y <;> simp [q] <;> omega
 ·rw [l2,v6,v2];by_cases q:x≤y <;> simp [q] <;> omega
 ·rw [l3,v4,v3]
 ·rw [l4,v3,v4];simp
 ·rw [l5,v1,v5];by_cases q:y≤x <;> simp [q] <;> omega
 ·rw [l6,v2,v6];by_cases q:y < x <;> simp [q] <;> omega
mutual
theorem qL (f:Str→Int):∀ {c:Cd},c.ok→c.gi.holds f=!c.holds f
 | .cmp a n s b m,h=>by
  unfold Cd.gi Cd.holds
  exact HS (by unfold Cd.ok at h;exact h) _ _
 | .neg c,h=>by
  unfold Cd.gi
  conv=>rhs;unfold Cd.holds
  simp
 | .con k cs,h=>by
  unfold Cd.ok at h
  unfold Cd.gi
  conv=>lhs;unfold Cd.holds
  conv=>rhs;unfold Cd.holds
  cases k with
  | true =>
   show (if (!true)=true then cI f (fj cs) else cH f (fj cs))=!(if true=true then cI f cs else cH f cs)
   rw [if_neg (by decide),if_pos rfl]
   exact (nV f h).1
  | false =>
   show (if (!false)=true then cI f (fj cs) else cH f (fj cs))=!(if false=true then cI f cs else cH f cs)
   rw [if_pos (by decide),if_neg (by decide)]
   exact (nV f h).2
theorem nV (f:Str→Int):∀ {cs:List Cd},wj cs→(cH f (fj cs)=!cI f cs)∧(cI f (fj cs)=!cH f cs)
 | [],h=>⟨rfl,rfl⟩
 | c::cs,h=>by
  unfold wj at h
  have e:=qL f h.1
  have ih:=nV f h.2
  unfold fj cH cI
  constructor
  ·rw [e,ih.1,Bool.not_and]
  ·rw [e,ih.2,Bool.not_or]
end
mutual
def dB (xs:List Str):Cd→Prop
 | .cmp a n s b m=>(∀ p∈a,p.1∈xs)∧∀ p∈b,p.1∈xs
 | .neg c=>dB xs c
 | .con _ cs=>cV xs cs
def cV (xs:List Str):List Cd→Prop
 | []=>True
 | c::cs=>dB xs c∧cV xs cs
end
end Hw
namespace Hw
open PySem L2
def Fw:Cd→Nat
 | .cmp ..=>0
 | .neg _=>1
 | .con true _=>2
 | .con false _=>3
def dH (Z:Cz):Nat→Addr
 | 0=>Z.c
 | 1=>Z.t
 | 2=>Z.e
 | _=>Z.o
structure gh (K:PySem.W.Frag) (mg:Str→Option Value) (Z:Cz):Prop where
 cl:∀ j,j < 4→A5 K (dH Z j)
 n1:eY K Z.c "one"
 n2:eY K Z.c "sign"
 n3:eY K Z.c "other"
 n4:eY K Z.t "condition"
 n5:eY K Z.e "conditions"
 n6:eY K Z.o "conditions"
 mgC:mg "Compare"=some (.ref Z.c)
 mgT:mg "Turned"=some (.ref Z.t)
 mgE:mg "Every"=some (.ref Z.e)
 mgO:mg "Some"=some (.ref Z.o)
 all:mg "all"=none
 any:mg "any"=none
theorem An (u:Addr) (s:Str) (w:Addr):(qc u s w).lookup ("one":Str)=some (.ref u):=by
 unfold qc;rw [aX,if_neg (by decide +kernel),aX,if_neg (by decide +kernel),aX,if_pos rfl]
theorem d9 (u:Addr) (s:Str) (w:Addr):(qc u s w).lookup ("sign":Str)=some (.str s):=by
 unfold qc;rw [aX,if_neg (by decide +kernel),aX,if_pos rfl]
theorem Am (u:Addr) (s:Str) (w:Addr):(qc u s w).lookup ("other":Str)=some (.ref w):=by
 unfold qc;rw [aX,if_pos rfl]
theorem Ma (u:V):(zI u).lookup ("condition":Str)=some u:=by unfold zI;rw [aX,if_pos rfl]
theorem Al (t:Addr):(jg t).lookup ("conditions":Str)=some (.ref t):=by unfold jg;rw [aX,if_pos rfl]
structure Oo (m:Str):Prop where
 a:¬ m="one"
 b:¬ m="sign"
 c:¬ m="other"
 d:¬ m="condition"
 e:¬ m="conditions"
theorem vL {Z:Cz} {H:Hp} {c:Cd} {p:Addr} (h:aT Z H c (.ref p)) {m:Str} (nf:Oo m):∃ dx fs,H p=some (.ins (dH Z (Fw c)) dx fs)∧fs.lookup m=none:=by
 cases c with
 | cmp a n s b m' =>
  unfold aT at h
  obtain ⟨q,dx,u,w,e,ep,_⟩:=h
  cases e
  refine ⟨dx,_,ep,?_⟩
  unfold qc
  rw [aX,if_neg nf.c,aX,if_neg nf.b,aX,if_neg nf.a]
  rfl
 | neg c =>
  unfold aT at h
  obtain ⟨q,dx,u,e,ep,_⟩:=h
  cases e
  refine ⟨dx,_,ep,?_⟩
  unfold zI
  rw [aX,if_neg nf.d]
  rfl
 | con k cs =>
  unfold aT at h
  obtain ⟨q,dx,t,us,e,ep,_⟩:=h
  cases e
  cases k <;> exact ⟨dx,_,ep,by unfold jg;rw [aX,if_neg nf.e];rfl⟩
theorem qC (c:Cd):Fw c < 4:=by
 cases c with
 | cmp=>show 0 < 4;decide
 | neg=>show 1 < 4;decide
 | con k cs=>cases k <;> (first | (show 2 < 4;decide) | (show 3 < 4;decide))
def M4 (P:Program) (w:World) (K:PySem.W.Frag) (mg:Str→Option Value) (base:Heap) (k:Nat) (Z:Cz) (m:Str) (ps:List Str) (sp:Nat→Sp):Prop:=∀ j,j < 4→Mt P w K mg base k (dH Z j) m ps (sp j)
end Hw
namespace L2
open PySem PySem.Spec PyProof.Rows Hw
section
variable {X:Cx} {k:Nat} {m:Str} {pos apos:Pos} {o e:Expr} {es:List Expr} {ta:TE} {t:TA} {Z:Cz} {ps:List Str} {sp:Nat→Sp}
def Yq (Z:Cz) (sp:Nat→Sp) (ta:TE):TE:=fun σ H Q=>ta σ H fun x H1=>∃ p c,x=.ref p∧aT Z H1 c (.ref p)∧sp (Fw c) [.ref p] H1 Q E0
def tCm (Z:Cz) (sp:Nat→Sp) (ta:TE) (t:TA):TE:=fun σ H Q=>ta σ H fun x H1=>∃ p c,x=.ref p∧aT Z H1 c (.ref p)∧t σ H1 fun vs H2=>sp (Fw c) (.ref p::(vs++[])) H2 Q E0
theorem kR {pl:Sem Bool} (he:PE X o ta) (cl:∀ j,j < 4→A5 X.K (dH Z j)) (nf:Oo m) (M:M4 X.prog X.w X.K X.mg X.base k Z m ps sp) (hr:dj k X.A) (hx:Passes dX X E0)
  (ht:eval (.Call (.Attribute o m apos) [] [] pos) X.env=(do
   let ov ← eval o X.env
   standAt apos.atName
   let (f,first) ← holding [ov] (getMethod ov m pl)
   callWith pos f first (backTo pos (starEach [] X.env)) (backToKw pos (keywordEach [] X.env))):=by rfl) :
  PE X (.Call (.Attribute o m apos) [] [] pos) (Yq Z sp ta):=by
 intro pins s σ H Q I h
 refine PySem.W.methodCall_KW (pl:=pl) (cy (he pins s σ H _ I h) fun u s1 ⟨x,H1,I1,rx,a,c,ex,hc,q⟩=>?_) ht
 subst ex
 obtain rfl:u=Value.ref a:=rx
 obtain ⟨dx,fs,ea,l⟩:=vL hc nf
 obtain ⟨f,fd,F,hm,hb⟩:=M (Fw c) (qC c)
 refine iE I1 ea (cl _ (qC c)) hm l ?_
 exact PySem.W.callWith_K0 (first:=[.ref a]) I1.iX hm.kp (kP (us:=[.ref a]) (vs:=[.ref a]) F hr hb .nil hx I1 (.cons rfl .nil) q)
theorem z7 {pl:Sem Bool} (he:PE X o ta) (cl:∀ j,j < 4→A5 X.K (dH Z j)) (nf:Oo m) (M:M4 X.prog X.w X.K X.mg X.base k Z m ps sp) (hr:dj k X.A) (hx:Passes dX X E0) (ha:PA X (e::es) t)
  (hst:starEach (e::es) X.env=(false,eval e X.env)::starEach es X.env:=by rfl) (hpl:(backTo pos (starEach es X.env)).any (·.1)=false:=by rfl)
  (ht:eval (.Call (.Attribute o m apos) (e::es) [] pos) X.env=(do
   let ov ← eval o X.env
   standAt apos.atName
   let (f,first) ← holding [ov] (getMethod ov m pl)
   callWith pos f first (backTo pos (starEach (e::es) X.env)) (backToKw pos (keywordEach [] X.env))):=by rfl) :
  PE X (.Call (.Attribute o m apos) (e::es) [] pos) (tCm Z sp ta t):=by
 intro pins s σ H Q I h
 refine PySem.W.methodCall_KW (pl:=pl) (cy (he pins s σ H _ I h) fun u s1 ⟨x,H1,I1,rx,a,c,ex,hc,q⟩=>?_) ht
 subst ex
 obtain rfl:u=Value.ref a:=rx
 obtain ⟨dx,fs,ea,l⟩:=vL hc nf
 obtain ⟨f,fd,F,hm,hb⟩:=M (Fw c) (qC c)
 refine iE I1 ea (cl _ (qC c)) hm l ?_
 refine PySem.W.callWith_K (first:=[.ref a]) (h₀:=X.base) I.ok.mod.jb hm.kp (cy (ha pos pins s1 σ H1 _ I1 q) fun us s2 ⟨vs,H2,I2,r,q2⟩=>⟨I2.iX,?_⟩) hst hpl
 exact kP (us:=.ref a::us) (vs:=.ref a::vs) F hr hb .nil hx I2 (.cons rfl r) q2
end
end L2
namespace Hw
open PySem L2
theorem xu {P:Program} {w:World} {K:PySem.W.Frag} {mg:Str→Option Value} {base:Heap} {k:Nat} {f:Addr} {fd:FuncData} {ps:List Str} {sp:Sp} (h:∀ vs H Q E,¬ sp vs H Q E):bu P w K mg base dX k f fd ps sp :=
 ⟨fun vs H Q E z=>(h vs H Q E z).elim,fun A outer s H args us vs Q E _ _ _ _ z=>(h vs H Q E z).elim⟩
def iM (Z:Cz):Sp:=fun vs H Q _=>∃ (p dx u w:Addr) (s:Str),vs=[.ref p,.ref u,.str s,.ref w]∧H p=some (.ins Z.c dx [])∧∀ H',bI p H H'→H' p=some (.ins Z.c dx (qc u s w))→Q .eX H'
def l0 (Z:Cz):Sp:=fun vs H Q _=>∃ (p dx:Addr) (u:V),vs=[.ref p,u]∧H p=some (.ins Z.t dx [])∧∀ H',bI p H H'→H' p=some (.ins Z.t dx (zI u))→Q .eX H'
def dD (D:Addr):Sp:=fun vs H Q _=>∃ (p dx l:Addr) (us:List V),vs=[.ref p,.ref l]∧H p=some (.ins D dx [])∧H l=some (.lst us)∧∀ (t:Addr) (H':Hp),bI p H H'→H' p=some (.ins D dx (jg t))→H' t=some (.tup us)→Q .eX H'
def fH (Z:Cz) (n:Nat):Nat→Sp:=fun j vs H Q _=>∃ (p:Addr) (c:Cd),vs=[.ref p]∧Fw c=j∧aT Z H c (.ref p)∧c.dep≤n∧∀ (v:V) (H':Hp),az H H'→bf H' c v→Q v H'
def gO (Z:Cz) (n:Nat):Nat→Sp:=fun j vs H Q _=>∃ (p:Addr) (c:Cd),vs=[.ref p]∧Fw c=j∧aT Z H c (.ref p)∧c.dep≤n∧c.ok∧∀ (v:V) (H':Hp),az H H'→aT Z H' c.gi v→Q v H'
end Hw
namespace Hw
open PySem L2
theorem sU:Oo "told":=⟨by decide +kernel,by decide +kernel,by decide +kernel,by decide +kernel,by decide +kernel⟩
theorem jl:Oo "put_in":=⟨by decide +kernel,by decide +kernel,by decide +kernel,by decide +kernel,by decide +kernel⟩
theorem iT:Oo "opposite":=⟨by decide +kernel,by decide +kernel,by decide +kernel,by decide +kernel,by decide +kernel⟩
theorem pH:Oo "cases":=⟨by decide +kernel,by decide +kernel,by decide +kernel,by decide +kernel,by decide +kernel⟩
theorem cu {Z:Cz} {H:Hp} {c:Cd} {v:V} (h:aT Z H c v):∃ p,v=.ref p:=by
 cases c <;> (unfold aT at h;obtain ⟨p,h⟩:=h)
 ·obtain ⟨_,_,_,e,_⟩:=h;exact ⟨p,e⟩
 ·obtain ⟨_,_,e,_⟩:=h;exact ⟨p,e⟩
 ·obtain ⟨_,_,_,e,_⟩:=h;exact ⟨p,e⟩
theorem ay {α β:Type} {R:α→β→Prop}:∀ {xs:List α} {ys:List β},Paired R xs ys→xs.length=ys.length
 | _,_,.nil=>rfl
 | _,_,.cons _ t=>congrArg (·+1) (ay t)
end Hw
namespace L2
open PySem PySem.Spec PyProof.Rows Hw
section
variable {X:Cx} {K:PySem.W.Frag}
theorem Kf (hc:X.calm=true):iI X (.builtin "any") (fun xs H Q=>∃ (p:Addr) (bs:List Bool),xs=[.ref p]∧bx X.K H p (bs.map V.bl)∧Q (.bl (bs.any id)) H):=by
 intro pins s σ H xs us Q I r h
 obtain ⟨p,bs,rfl,hq,q⟩:=h
 obtain ⟨u,rfl,ru⟩:=vals1 r
 cases ru
 obtain ⟨its,rv,pl,hz⟩:=I.list hq
 have lp:p < s.heap.objs.size:=let ⟨o,_,e,_⟩:=pl;Heap.lt_size e
 have hl:=rv.length
 rw [List.length_map] at hl
 refine call_any_walk (wpAny_pyIter_list pl.isList ?_)
 have W:=Walks.list (prog:=X.prog) (w:=X.w) (A:=X.A.in1) (I.ok.hd hc) s.heap.objs.size p (Nat.ne_of_lt lp) its.toArray
 refine ⟨s.heap.objs.size,_,_,_,_,_,(fun i=>(bs[i]?).getD false),rfl,W,⟨⟨_,Heap.get?_push_size _ rfl,rfl,rfl⟩,pl.isList.at fun o e=>Heap.get?_push_of_some _ e⟩,fun i v s' Q' E' hv hQ=>?_,fun h' tk hk=>?_⟩
 ·have hv:its.toArray[i]?=some v:=hv
  have hv:its[i]?=some v:=by simpa using hv
  have hil:i < its.length:=(List.getElem?_eq_some_iff.mp hv).1
  obtain ⟨u,hu,ru⟩:=rv.get (i:=i) (x:=.bl ((bs[i]?).getD false)) (by rw [List.getElem?_map,List.getElem?_eq_getElem (by omega)];rfl)
  rw [hv] at hu
  cases hu
  cases ru
  exact wpAny_truthy_bool hQ
 ·have kp:∀ b o,s.heap.get? b=some o→h'.get? b=some o:=fun b o e =>
   hk b o (fun hI=>absurd (Heap.lt_size e) (by rw [List.mem_singleton.mp hI];exact Nat.lt_irrefl _)) (Heap.get?_push_of_some _ e)
  have e:((List.range its.toArray.size).any fun i=>(bs[i]?).getD false)=bs.any id:=by rw [List.size_toArray,← hl];exact LSm.range_any bs
  rw [e]
  exact ⟨.bl (bs.any id),H,I.kept (t':=tk) kp,rfl,q⟩
end
end L2
namespace Hw
open PySem L2
theorem bL {p:Prop} [Decidable p] {F G:Prop} (h:p) (f:F):if decide p=true then F else G:=by rw [if_pos (decide_eq_true h)];exact f
theorem aZ {p:Prop} [Decidable p] {F G:Prop} (h:¬ p) (f:G):if decide p=true then F else G:=by rw [if_neg (by simpa using h)];exact f
theorem bh {s t:Str} (h:¬ s=t):¬ V.str s=V.str t:=fun e=>h (V.str.inj e)
theorem Og {i j:Int}:decide (V.int i=V.int j)=decide (i=j):=by
 by_cases h:i=j
 ·subst h;simp
 ·rw [decide_eq_false h,decide_eq_false fun e=>h (V.int.inj e)]
theorem jR (f:Str→Int):∀ cs:List Cd,cI f cs=(cs.map (Cd.holds f)).all id
 | []=>by unfold cI;rfl
 | c::cs=>by unfold cI;rw [jR f cs];rfl
theorem jQ (f:Str→Int):∀ cs:List Cd,cH f cs=(cs.map (Cd.holds f)).any id
 | []=>by unfold cH;rfl
 | c::cs=>by unfold cH;rw [jQ f cs];rfl
theorem pG {c:Cd}:∀ {cs:List Cd},wj cs→c∈cs→c.ok
 | a::r,h,m=>by
  unfold wj at h
  rcases List.mem_cons.mp m with e | e
  ·rw [e];exact h.1
  ·exact pG h.2 e
end Hw
namespace Hw
open PySem L2
theorem pe:∀ cs:List Cd,fj cs=cs.map Cd.gi
 | []=>by unfold fj;rfl
 | c::cs=>by unfold fj;rw [pe cs];rfl
theorem Rd.same {H H':Hp} {d:Addr} {o:HO} (h:Rd H d o) (s:az H H'):Rd H' d o:=h.elim (fun z=>.inl (s _ _ z)) fun ⟨o,z⟩=>.inr ⟨o,s _ _ z⟩
theorem bN {H:Hp} {x dx:Addr} {o o':HO} (hx:H x=none) (hdx:H dx=none):az H (upd (upd H dx o) x o'):=fun b u z=>by
 rw [aA (aq z hx),aA (aq z hdx)]
 exact z
mutual
def Pt (S:Sb):Cd→Cd→Prop
 | .cmp a n s b m,c'=>∃ a' b',c'=.cmp a' (n+i0 S a) s b' (m+i0 S b)∧sJ (ni S a) a'∧sJ (ni S b) b'
 | .neg c,c'=>∃ d,c'=.neg d∧Pt S c d
 | .con k cs,c'=>∃ ds,c'=.con k ds∧zl S cs ds
def zl (S:Sb):List Cd→List Cd→Prop
 | [],ds=>ds=[]
 | c::cs,ds=>∃ d r,ds=d::r∧Pt S c d∧zl S cs r
end
theorem cM {S:Sb}:∀ {cs ds:List Cd},zl S cs ds↔Paired (Pt S) cs ds
 | [],ds=>by
  unfold zl
  exact ⟨fun e=>by rw [e];exact .nil,fun h=>by cases h;rfl⟩
 | c::cs,ds=>by
  unfold zl
  constructor
  ·rintro ⟨u,r,rfl,d1,d2⟩
   exact .cons d1 (cM.mp d2)
  ·intro h
   cases h with
   | cons d1 d2=>exact ⟨_,_,rfl,d1,cM.mpr d2⟩
mutual
def Cd.l3:Cd→Prop
 | .cmp a n s b m=>RW a∧RW b
 | .neg c=>c.l3
 | .con _ cs=>Ji cs
def Ji:List Cd→Prop
 | []=>True
 | c::cs=>c.l3∧Ji cs
end
theorem yQ {c:Cd}:∀ {cs:List Cd},Ji cs→c∈cs→c.l3
 | a::r,h,m=>by
  unfold Ji at h
  rcases List.mem_cons.mp m with e | e
  ·rw [e];exact h.1
  ·exact yQ h.2 e
end Hw
namespace Hw
open PySem L2
def Gs (xs:List Str) (a:Ps) (n:Int):Prop:=Canon a∧RW a∧(∀ p∈a,p.1∈xs)∧Small n
mutual
def Gd (xs:List Str):Cd→Prop
 | .cmp a n s b m=>Gs xs a n∧s∈signs∧Gs xs b m
 | .neg c=>Gd xs c
 | .con _ cs=>cs.length≤3∧Fj xs cs
def Fj (xs:List Str):List Cd→Prop
 | []=>True
 | c::cs=>Gd xs c∧Fj xs cs
end
theorem AD {xs:List Str} {c:Cd}:∀ {cs:List Cd},Fj xs cs→Gd xs c→Fj xs (cs++[c])
 | [],_,h=>by unfold Fj;exact ⟨h,by unfold Fj;trivial⟩
 | a::r,g,h=>by
  unfold Fj at g
  show Fj xs (a::(r++[c]))
  unfold Fj
  exact ⟨g.1,AD g.2 h⟩
theorem xy (c:Cd):∀ cs:List Cd,jv (cs++[c])=max (jv cs) c.dep
 | []=>by show max c.dep (jv [])=max (jv []) c.dep;exact Nat.max_comm _ _
 | a::r=>by
  show max a.dep (jv (r++[c]))=_
  rw [xy c r]
  conv=>rhs;unfold jv
  omega
theorem signs_at {r:Nat} (h:r < 6):∃ s,(signs.map V.str)[r]?=some (V.str s)∧s∈signs:=by
 have e:r < signs.length:=h
 refine ⟨signs[r],?_,List.getElem_mem e⟩
 rw [List.getElem?_map,List.getElem?_eq_getElem e]
 rfl
theorem Dr.soft {H H':Hp} {d:Addr} (h:Dr H d) (b:bI d H H'):aE H H':=let ⟨x,y,e⟩:=h;aE.soft b e fK
mutual
def Cd.ff:Cd→Nat
 | .cmp a n s b m=>1
 | .neg c=>c.ff
 | .con _ cs=>mZ cs
def mZ:List Cd→Nat
 | []=>0
 | c::cs=>c.ff+mZ cs
end
mutual
def Cd.full:Cd→Prop
 | .cmp a n s b m=>True
 | .neg c=>c.full
 | .con _ cs=>1≤cs.length∧bW cs
def bW:List Cd→Prop
 | []=>True
 | c::cs=>c.full∧bW cs
end
theorem jq (c:Cd):∀ cs:List Cd,mZ (cs++[c])=mZ cs+c.ff
 | []=>by show c.ff+mZ []=mZ []+c.ff;omega
 | a::r=>by
  show a.ff+mZ (r++[c])=(a.ff+mZ r)+c.ff
  rw [jq c r]
  omega
theorem vv {c:Cd}:∀ {cs:List Cd},bW cs→c.full→bW (cs++[c])
 | [],_,h=>by unfold bW;exact ⟨h,by unfold bW;trivial⟩
 | a::r,g,h=>by
  unfold bW at g
  show bW (a::(r++[c]))
  unfold bW
  exact ⟨g.1,vv g.2 h⟩
def ED:Nat→Nat
 | 0=>1
 | 1=>3
 | k+2=>2*ED (k+1)
theorem sY:∀ k,1≤ED k
 | 0=>by decide
 | 1=>by decide
 | k+2=>by have:=sY (k+1);show 1≤2*ED (k+1);omega
theorem PK:∀ k,ED k≤ED (k+1)
 | 0=>by decide
 | k+1=>by have:=sY (k+1);show ED (k+1)≤2*ED (k+1);omega
end Hw
namespace Hw
open PySem L2
theorem Pg (i:Int):∃ b,xM ([V.str "and",.str "or"]:List V) (i % 2)=some (V.str (A7 b)):=by
 have h:i % 2=0∨i % 2=1:=by omega
 rcases h with h | h <;> rw [h]
 ·exact ⟨true,rfl⟩
 ·exact ⟨false,rfl⟩
end Hw
namespace Hw
open PySem L2
theorem NZ {b:Bool} {F G:Prop} (h:b=true) (f:F):if b=true then F else G:=by rw [if_pos h];exact f
theorem Mp {b:Bool} {F G:Prop} (h:b=false) (g:G):if b=true then F else G:=by rw [h];exact wG g
theorem QV (x:V) (us:List V):E6 (x::us) (some 1) none=us:=by
 unfold E6
 have e1:HT.iJ (x::us).length 0 (some 1)=1:=by
  have:=HT.Dg (x::us).length 0 1
  rw [show (some (1:Int))=some ((1:Nat):Int) from rfl,this]
  show min 1 (us.length+1)=1
  omega
 have e2:HT.iJ (x::us).length (x::us).length none=us.length+1:=rfl
 rw [e1,e2]
 show us.take (us.length+1 - 1)=us
 rw [show us.length+1 - 1=us.length by omega,List.take_length]
theorem Ka (x:V) (us:List V):¬ (HT.iJ (x::us).length 0 (some 1)=0∧HT.iJ (x::us).length (x::us).length none=(x::us).length):=by
 have e1:HT.iJ (x::us).length 0 (some 1)=1:=by
  have:=HT.Dg (x::us).length 0 1
  rw [show (some (1:Int))=some ((1:Nat):Int) from rfl,this]
  show min 1 (us.length+1)=1
  omega
 rw [e1]
 intro h
 exact absurd h.1 (by decide)
theorem KS (x:V) (us:List V):xM (x::us) (0:Int)=some x:=dJ (j:=0) rfl
theorem DM:∀ bs:List Bool,m8 (.bl true) (bs.map V.bl)=bs.any id
 | []=>rfl
 | b::r=>by
  show (A9 (.bl b) (.bl true) || m8 (.bl true) (r.map V.bl))=(b || r.any id)
  rw [DM r]
  cases b <;> rfl
theorem Ax:∀ bs:List Bool,(!m8 (.bl false) (bs.map V.bl))=bs.all id
 | []=>rfl
 | b::r=>by
  show (!(A9 (.bl b) (.bl false) || m8 (.bl false) (r.map V.bl)))=(b && r.all id)
  rw [← Ax r,Bool.not_or]
  cases b <;> rfl
theorem yW:∀ bs:List Bool,(bs.map V.bl).all iF=true
 | []=>rfl
 | b::r=>by show (true && (r.map V.bl).all iF)=true;rw [yW r];rfl
end Hw
namespace L2
open PySem PySem.Spec PyProof.Rows Hw
def KDict (P:Program) (w:World) (K:PySem.W.Frag) (D:Addr) (kvs:List (Key×V)):Prop:=∀ h:Heap,K.In h→∃ vs,KV kvs vs∧h.DictOf (cP P w) D vs
def Sg (kvs:List (Key×V)) (ty:TE):TE:=fun σ H Q=>ty σ H fun y H1=>∃ k v,y=kV k∧jz kvs k=some v∧Q v H1
section
variable {X:Cx} {x:Str} {D:Addr} {kvs:List (Key×V)} {i:Expr} {ty:TE} {p pos:Pos}
theorem Lo (hg:Gl X x) (hm:X.mg x=some (.ref D)) (kd:KDict X.prog X.w X.K D kvs) (hi:PE X i ty) (hs:Q9 i) (hd:(x == ("__debug__":Str))=false:=by decide):PE X (.Subscript (.Name x p) i pos) (Sg kvs ty):=by
 intro pins s σ H Q I h
 refine De PySem.F.slot_dict_getitem.lookup hs (gB I hg hm (cy (hi pins s σ H _ I h) fun iv s2 ⟨y,H2,I2,ry,k,v,ey,hv,q2⟩=>?_) hd)
 subst ey
 obtain ⟨vs,rel,dd⟩:=kd _ I2.iX
 obtain ⟨w',hw,rw'⟩:=j6.some_of (v:=v) (o:=valueAt vs k) (by rw [← hv];exact rel.val k)
 exact ⟨dd.typeIs,wpAny_getItem_of (xm ry) dd.mapOf hw ⟨v,H2,I2.tok _,rw',q2⟩⟩
end
abbrev Ent:=Str×Tok×Str×Tok
def ent (P:Params) (e:Ent):DictEntry:=⟨PyData.keyHash P e.1,.str e.1 e.2.1,.str e.2.2.1 e.2.2.2⟩
theorem xw {P:Program} {w:World}:∀ es:List Ent,Pairs (cP P w) (es.map (ent w.params)) (es.map fun e=>((Sum.inr e.1:Key),Value.str e.2.2.1 e.2.2.2))
 | []=>.nil
 | e::r=>.cons (kZ P w e.1 e.2.1) rfl (xw r)
theorem J1:∀ es:List Ent,KV (es.map fun e=>((Sum.inr e.1:Key),V.str e.2.2.1)) (es.map fun e=>((Sum.inr e.1:Key),Value.str e.2.2.1 e.2.2.2))
 | []=>.nil
 | e::r=>.cons ⟨rfl,_,rfl⟩ (J1 r)
theorem Jt {P:Program} {w:World} {K:PySem.W.Frag} {D:Addr} {ep:Nat} (es:List Ent) (lD:K.lookup D=some ⟨.type "dict",none,.dict (es.map (ent w.params)).toArray ep,#[]⟩) (nd:(es.map fun e=>(Sum.inr e.1:Key)).Nodup) :
  KDict P w K D (es.map fun e=>(Sum.inr e.1,V.str e.2.2.1)):=by
 intro h hk
 refine ⟨_,J1 es,_,_,ep,hk D _ lD,⟨rfl,rfl,rfl⟩,rfl,?_,?_,?_⟩
 ·intro e he
  have he:e∈es.map (ent w.params):=by simpa using he
  obtain ⟨z,_,rfl⟩:=List.mem_map.mp he
  exact ⟨Sum.inr z.1,kZ P w z.1 z.2.1,rfl⟩
 ·exact xw es
 ·rw [List.map_map]
  exact nd
end L2
namespace Hw
open PySem L2
def SM:List (Key×V):=[(Sum.inr "<",.str ">="),(Sum.inr ">=",.str "<"),(Sum.inr "<=",.str ">"),(Sum.inr ">",.str "<="),(Sum.inr "=",.str "!="),(Sum.inr "!=",.str "=")]
def Nd (P:Program) (w:World) (K:PySem.W.Frag) (mg:Str→Option Value):Prop:=∃ D,mg "OPPOSITE_SIGNS"=some (.ref D)∧KDict P w K D SM
theorem Ls {s:Str} (h:s∈signs):jz SM (Sum.inr s)=some (V.str (gX s)):=by
 simp only [signs,List.mem_cons,List.not_mem_nil,or_false] at h
 rcases h with h | h | h | h | h | h <;> subst h <;> decide +kernel
theorem Lu {P:Program} {w:World} {K:PySem.W.Frag} {mg:Str→Option Value} {D:Addr} {ep:Nat} {t1 t2 t3 t4 t5 t6 u1 u2 u3 u4 u5 u6:Tok} (m:mg "OPPOSITE_SIGNS"=some (.ref D))
  (lD:K.lookup D=some ⟨.type "dict",none,.dict #[⟨PyData.keyHash w.params "<",.str "<" t1,.str ">=" u1⟩,⟨PyData.keyHash w.params ">=",.str ">=" t2,.str "<" u2⟩,⟨PyData.keyHash w.params "<=",.str "<=" t3,.str ">" u3⟩,
   ⟨PyData.keyHash w.params ">",.str ">" t4,.str "<=" u4⟩,⟨PyData.keyHash w.params "=",.str "=" t5,.str "!=" u5⟩,⟨PyData.keyHash w.params "!=",.str "!=" t6,.str "=" u6⟩] ep,#[]⟩):Nd P w K mg :=
 ⟨D,m,Jt (ep:=ep) [("<",t1,">=",u1),(">=",t2,"<",u2),("<=",t3,">",u3),(">",t4,"<=",u4),("=",t5,"!=",u5),("!=",t6,"=",u6)] lD (by show ([Sum.inr "<",Sum.inr ">=",Sum.inr "<=",Sum.inr ">",Sum.inr "=",Sum.inr "!="]:List Key).Nodup;decide +kernel)⟩
end Hw
namespace Hw
open PySem L2
mutual
theorem uC {S:Sb}:∀ {c d d':Cd},Pt S c d→Pt S c d'→d=d'
 | .cmp a n s b m,d,d',h,g=>by
  unfold Pt at h g
  obtain ⟨a1,b1,rfl,x1,y1⟩:=h
  obtain ⟨a2,b2,rfl,x2,y2⟩:=g
  rw [x1.same x2 (fun _=>rfl),y1.same y2 (fun _=>rfl)]
 | .neg c,d,d',h,g=>by
  unfold Pt at h g
  obtain ⟨e1,rfl,x1⟩:=h
  obtain ⟨e2,rfl,x2⟩:=g
  rw [uC x1 x2]
 | .con k cs,d,d',h,g=>by
  unfold Pt at h g
  obtain ⟨e1,rfl,x1⟩:=h
  obtain ⟨e2,rfl,x2⟩:=g
  rw [zY x1 x2]
theorem zY {S:Sb}:∀ {cs ds ds':List Cd},zl S cs ds→zl S cs ds'→ds=ds'
 | [],ds,ds',h,g=>by unfold zl at h g;rw [h,g]
 | c::cs,ds,ds',h,g=>by
  unfold zl at h g
  obtain ⟨e1,r1,rfl,x1,y1⟩:=h
  obtain ⟨e2,r2,rfl,x2,y2⟩:=g
  rw [uC x1 x2,zY y1 y2]
end
mutual
theorem oW {S:Sb} {f:Str→Int}:∀ {c d:Cd},Pt S c d→d.holds f=c.holds (A8 S f)
 | .cmp a n s b m,d,h=>by
  unfold Pt at h
  obtain ⟨a1,b1,rfl,x1,y1⟩:=h
  unfold Cd.holds
  have e1:=sZ S f a
  have e2:=sZ S f b
  have f1:n+i0 S a+bH a1 f=n+bH a (A8 S f):=by rw [x1.2,← e1];omega
  have f2:m+i0 S b+bH b1 f=m+bH b (A8 S f):=by rw [y1.2,← e2];omega
  rw [f1,f2]
 | .neg c,d,h=>by
  unfold Pt at h
  obtain ⟨e1,rfl,x1⟩:=h
  unfold Cd.holds
  rw [oW x1]
 | .con k cs,d,h=>by
  unfold Pt at h
  obtain ⟨e1,rfl,x1⟩:=h
  unfold Cd.holds
  rw [(qH x1).1,(qH x1).2]
theorem qH {S:Sb} {f:Str→Int}:∀ {cs ds:List Cd},zl S cs ds→cI f ds=cI (A8 S f) cs∧cH f ds=cH (A8 S f) cs
 | [],ds,h=>by unfold zl at h;subst h;exact ⟨by unfold cI;rfl,by unfold cH;rfl⟩
 | c::cs,ds,h=>by
  unfold zl at h
  obtain ⟨e1,r1,rfl,x1,y1⟩:=h
  have ih:=qH (f:=f) y1
  constructor
  ·unfold cI;rw [oW x1,ih.1]
  ·unfold cH;rw [oW x1,ih.2]
end
end Hw
namespace L2
open PySem PySem.Spec PyProof.Rows Hw
section
variable {X:Cx}
end
end L2
namespace Hw
open PySem L2
abbrev Cs:=List (List (Ps×Int))
def jf (Z:Cz) (H:Hp) (v:V) (c:List (Ps×Int)):Prop:=∃ r us,v=.ref r∧H r=some (.tup us)∧Paired (fun u (q:Ps×Int)=>∃ p,u=V.ref p∧bO Z.s H p q.1 q.2) us c
def cQ (Z:Cz) (H:Hp) (r:Addr) (cs:Cs):Prop:=∃ us,H r=some (.lst us)∧Paired (jf Z H) us cs
theorem jf.aH {Z:Cz} {H H':Hp} {v:V} {c:List (Ps×Int)} (h:jf Z H v c) (k:aE H H'):jf Z H' v c :=
 let ⟨r,us,e,er,p⟩:=h;⟨r,us,e,k.t _ _ er,L2.Paired.dh p fun _ _ ⟨q,e,s⟩=>⟨q,e,s.aH k⟩⟩
def dN (f:Str→Int) (cs:Cs):Bool:=cs.any fun c=>c.all fun q=>decide (0≤q.2+bH q.1 f)
mutual
def Cd.cz:Cd→Bool→Nat
 | .cmp a n s b m,o=>if (if o then gX s else s)="!=" then 2 else 1
 | .neg c,o=>c.cz (!o)
 | .con k cs,o=>if (if o then !k else k) then kj cs o else kg cs o
def kj:List Cd→Bool→Nat
 | [],_=>1
 | c::cs,o=>c.cz o*kj cs o
def kg:List Cd→Bool→Nat
 | [],_=>0
 | c::cs,o=>c.cz o+kg cs o
end
mutual
def Cd.kC:Cd→Prop
 | .cmp a n s b m=>a.length≤20∧b.length≤20
 | .neg c=>c.kC
 | .con _ cs=>pQ cs
def pQ:List Cd→Prop
 | []=>True
 | c::cs=>c.kC∧pQ cs
end
def mh (C:Addr):Sp:=fun vs H Q _=>∃ (p:Addr) (a:Ps) (n:Int),vs=[.ref p]∧bO C H p a n∧a.length≤50 ∧
 ∀ (r:Addr) (ts:Ps) (H':Hp),az H H'→sJ a ts→bO C H' r ts (n - 1)→Q (.ref r) H'
end Hw
namespace Hw
open PySem L2
def bC (A B:Cs):Cs:=(A.map fun a=>B.map (a++·)).flatten
theorem yH (f:Str→Int) (A B:Cs):dN f (A++B)=(dN f A || dN f B):=by unfold dN;rw [List.any_append]
theorem DA (f:Str→Int) (a:List (Ps×Int)):∀ B:Cs,dN f (B.map (a++·))=((a.all fun q=>decide (0≤q.2+bH q.1 f)) && dN f B)
 | []=>by show false=(_ && false);rw [Bool.and_false]
 | b::r=>by
  have ih:=DA f a r
  unfold dN at ih ⊢
  rw [List.map_cons,List.any_cons,ih,List.any_cons,List.all_append,← Bool.and_or_distrib_left]
theorem uU (f:Str→Int) (B:Cs):∀ A:Cs,dN f (bC A B)=(dN f A && dN f B)
 | []=>rfl
 | a::r=>by
  have e:bC (a::r) B=B.map (a++·)++bC r B:=rfl
  rw [e,yH,DA,uU f B r]
  conv=>rhs;unfold dN;rw [List.any_cons]
  rw [Bool.and_or_distrib_right]
  rfl
theorem iG (B:Cs):∀ A:Cs,(bC A B).length=A.length*B.length
 | []=>by show 0=0*B.length;omega
 | a::r=>by
  have e:bC (a::r) B=B.map (a++·)++bC r B:=rfl
  rw [e,List.length_append,List.length_map,iG B r,List.length_cons,Nat.succ_mul]
  omega
mutual
theorem sV:∀ (c:Cd) (o:Bool),c.ok→c.gi.cz o=c.cz (!o)
 | .cmp a n s b m,o,h=>by
  unfold Cd.gi Cd.cz
  have e:(if o=true then gX (gX s) else gX s)=(if (!o)=true then gX s else s):=by
   unfold Cd.ok at h
   have q:gX (gX s)=s:=by
    simp only [signs,List.mem_cons,List.not_mem_nil,or_false] at h
    rcases h with h | h | h | h | h | h <;> subst h <;> decide +kernel
   cases o with
   | true=>rw [if_pos rfl,if_neg (by decide),q]
   | false=>rfl
  rw [e]
 | .neg c,o,h=>by
  unfold Cd.gi
  conv=>rhs;unfold Cd.cz
  rw [Bool.not_not]
 | .con k cs,o,h=>by
  unfold Cd.ok at h
  unfold Cd.gi
  conv=>lhs;unfold Cd.cz
  conv=>rhs;unfold Cd.cz
  rw [(yC cs o h).1,(yC cs o h).2]
  cases o <;> cases k <;> rfl
theorem yC:∀ (cs:List Cd) (o:Bool),wj cs→kj (fj cs) o=kj cs (!o)∧kg (fj cs) o=kg cs (!o)
 | [],o,h=>⟨by unfold fj kj;rfl,by unfold fj kg;rfl⟩
 | c::cs,o,h=>by
  unfold wj at h
  have e:=sV c o h.1
  have ih:=yC cs o h.2
  unfold fj kj kg
  exact ⟨by rw [e,ih.1],by rw [e,ih.2]⟩
end
mutual
theorem yL:∀ {c:Cd},c.full→1≤c.ff
 | .cmp a n s b m,h=>by unfold Cd.ff;exact Nat.le_refl 1
 | .neg c,h=>by unfold Cd.full at h;unfold Cd.ff;exact yL h
 | .con k cs,h=>by unfold Cd.full at h;unfold Cd.ff;exact DC h.2 h.1
theorem DC:∀ {cs:List Cd},bW cs→1≤cs.length→1≤mZ cs
 | [],_,l=>by exact absurd l (by decide)
 | c::cs,h,l=>by
  unfold bW at h
  unfold mZ
  have:=yL h.1
  omega
end
theorem Ll {a b:Nat} (ha:1≤a) (hb:1≤b):2 ^ a+2 ^ b≤2 ^ (a+b):=by
 obtain ⟨x,rfl⟩:∃ x,a=x+1:=⟨a - 1,by omega⟩
 obtain ⟨y,rfl⟩:∃ y,b=y+1:=⟨b - 1,by omega⟩
 have hx:1≤2 ^ x:=Nat.one_le_two_pow
 have hy:1≤2 ^ y:=Nat.one_le_two_pow
 have e:2 ^ (x+1+(y+1))=2*2 ^ x*(2*2 ^ y):=by rw [Nat.pow_add,Nat.pow_succ,Nat.pow_succ,Nat.mul_comm (2 ^ x) 2,Nat.mul_comm (2 ^ y) 2]
 rw [e,Nat.pow_succ,Nat.pow_succ]
 have h1:2 ^ x*1≤2 ^ x*2 ^ y:=Nat.mul_le_mul_left _ hy
 have h2:1*2 ^ y≤2 ^ x*2 ^ y:=Nat.mul_le_mul_right _ hx
 have e2:2*2 ^ x*(2*2 ^ y)=4*(2 ^ x*2 ^ y):=by rw [Nat.mul_assoc,Nat.mul_left_comm (2 ^ x) 2,← Nat.mul_assoc 2 2]
 rw [e2]
 omega
mutual
theorem BO:∀ {c:Cd} (o:Bool),c.full→c.cz o≤2 ^ c.ff
 | .cmp a n s b m,o,h=>by
  unfold Cd.cz Cd.ff
  show (if (if o=true then gX s else s)="!=" then 2 else 1)≤2
  generalize (if o=true then gX s else s)=t
  by_cases q:t="!="
  ·rw [if_pos q];exact Nat.le_refl 2
  ·rw [if_neg q];decide
 | .neg c,o,h=>by unfold Cd.full at h;unfold Cd.cz Cd.ff;exact BO _ h
 | .con k cs,o,h=>by
  unfold Cd.full at h
  unfold Cd.cz Cd.ff
  have z:=IJ o h.2
  generalize (if o=true then !k else k)=t
  cases t with
  | true=>rw [if_pos rfl];exact z.1
  | false=>rw [if_neg (by decide)];exact z.2
theorem IJ:∀ {cs:List Cd} (o:Bool),bW cs→kj cs o≤2 ^ mZ cs∧kg cs o≤2 ^ mZ cs
 | [],o,h=>⟨by unfold kj mZ;decide,by unfold kg mZ;decide⟩
 | c::cs,o,h=>by
  unfold bW at h
  have e:=BO o h.1
  have ih:=IJ o h.2
  have pc:=yL h.1
  unfold kj kg mZ
  constructor
  ·rw [Nat.pow_add];exact Nat.mul_le_mul e ih.1
  ·cases cs with
   | nil =>
    have z:kg [] o=0:=by unfold kg;rfl
    have z2:mZ []=0:=by unfold mZ;rfl
    rw [z,z2,Nat.add_zero,Nat.add_zero]
    exact e
   | cons d r =>
    have pr:=DC h.2 (by show 1≤r.length+1;omega)
    exact Nat.le_trans (Nat.add_le_add e ih.2) (Ll pc pr)
end
mutual
theorem oZ:∀ {c:Cd},c.ok→c.kC→c.full→c.gi.ok∧c.gi.kC∧c.gi.full∧c.gi.ff=c.ff∧c.gi.dep≤c.dep∧∀ xs,dB xs c→dB xs c.gi
 | .cmp a n s b m,h1,h2,h3=>by
  unfold Cd.gi
  refine ⟨?_,?_,?_,?_,?_,fun xs hx=>?_⟩
  ·unfold Cd.ok at h1 ⊢
   simp only [signs,List.mem_cons,List.not_mem_nil,or_false] at h1
   rcases h1 with h | h | h | h | h | h <;> subst h <;> decide +kernel
  ·unfold Cd.kC at h2 ⊢;exact h2
  ·unfold Cd.full;trivial
  ·unfold Cd.ff;rfl
  ·unfold Cd.dep;exact Nat.le_refl _
  ·unfold dB at hx ⊢;exact hx
 | .neg c,h1,h2,h3=>by
  unfold Cd.gi
  unfold Cd.ok at h1
  unfold Cd.kC at h2
  unfold Cd.full at h3
  refine ⟨h1,h2,h3,?_,?_,fun xs hx=>?_⟩
  ·conv=>rhs;unfold Cd.ff
  ·conv=>rhs;unfold Cd.dep
   omega
  ·unfold dB at hx;exact hx
 | .con k cs,h1,h2,h3=>by
  unfold Cd.gi
  unfold Cd.ok at h1
  unfold Cd.kC at h2
  unfold Cd.full at h3
  obtain ⟨a1,a2,a3,a4,a5,a6⟩:=Ab h1 h2 h3.2
  refine ⟨?_,?_,?_,?_,?_,fun xs hx=>?_⟩
  ·unfold Cd.ok;exact a1
  ·unfold Cd.kC;exact a2
  ·unfold Cd.full;exact ⟨by rw [pe,List.length_map];exact h3.1,a3⟩
  ·unfold Cd.ff;exact a4
  ·unfold Cd.dep;omega
  ·unfold dB at hx ⊢;exact a6 xs hx
theorem Ab:∀ {cs:List Cd},wj cs→pQ cs→bW cs→wj (fj cs)∧pQ (fj cs)∧bW (fj cs)∧mZ (fj cs)=mZ cs∧jv (fj cs)≤jv cs∧∀ xs,cV xs cs→cV xs (fj cs)
 | [],h1,h2,h3=>by
  unfold fj
  exact ⟨h1,h2,h3,rfl,Nat.le_refl _,fun _ h=>h⟩
 | c::cs,h1,h2,h3=>by
  unfold wj at h1
  unfold pQ at h2
  unfold bW at h3
  obtain ⟨a1,a2,a3,a4,a5,a6⟩:=oZ h1.1 h2.1 h3.1
  obtain ⟨b1,b2,b3,b4,b5,b6⟩:=Ab h1.2 h2.2 h3.2
  unfold fj
  refine ⟨?_,?_,?_,?_,?_,fun xs hx=>?_⟩
  ·unfold wj;exact ⟨a1,b1⟩
  ·unfold pQ;exact ⟨a2,b2⟩
  ·unfold bW;exact ⟨a3,b3⟩
  ·unfold mZ;omega
  ·unfold jv;omega
  ·unfold cV at hx ⊢;exact ⟨a6 xs hx.1,b6 xs hx.2⟩
end
theorem vd {c:Cd}:∀ {cs:List Cd},pQ cs→c∈cs→c.kC
 | a::r,h,m=>by
  unfold pQ at h
  rcases List.mem_cons.mp m with e | e
  ·rw [e];exact h.1
  ·exact vd h.2 e
theorem ju {c:Cd}:∀ {cs:List Cd},bW cs→c∈cs→c.full
 | a::r,h,m=>by
  unfold bW at h
  rcases List.mem_cons.mp m with e | e
  ·rw [e];exact h.1
  ·exact ju h.2 e
theorem jU:∀ (i:Nat) {cs:List Cd},bW cs→bW (cs.take i)
 | 0,cs,h=>by rw [List.take_zero];unfold bW;trivial
 | i+1,[],h=>by rw [List.take_nil];exact h
 | i+1,c::cs,h=>by
  unfold bW at h
  rw [List.take_succ_cons]
  unfold bW
  exact ⟨h.1,jU i h.2⟩
theorem pN:∀ (i:Nat) (cs:List Cd),mZ (cs.take i)≤mZ cs
 | 0,cs=>by rw [List.take_zero];exact Nat.zero_le _
 | i+1,[]=>by rw [List.take_nil];exact Nat.le_refl _
 | i+1,c::cs=>by
  rw [List.take_succ_cons]
  unfold mZ
  have:=pN i cs
  omega
theorem pJ (c:Cd) (o:Bool):∀ cs:List Cd,kj (cs++[c]) o=kj cs o*c.cz o
 | []=>by show c.cz o*1=1*c.cz o;omega
 | a::r=>by
  show a.cz o*kj (r++[c]) o=(a.cz o*kj r o)*c.cz o
  rw [pJ c o r,Nat.mul_assoc]
theorem uO (c:Cd) (o:Bool):∀ cs:List Cd,kg (cs++[c]) o=kg cs o+c.cz o
 | []=>by show c.cz o+0=0+c.cz o;omega
 | a::r=>by
  show a.cz o+kg (r++[c]) o=(a.cz o+kg r o)+c.cz o
  rw [uO c o r,Nat.add_assoc]
structure rq (c:Cd) (cs:Cs):Prop where
 len:cs.length=c.cz false
 met:∀ f,dN f cs=c.holds f
 wg:∀ k∈cs,k.length≤2*c.ff
 ins:∀ xs,dB xs c→∀ k∈cs,∀ q∈k,∀ p∈q.1,p.1∈xs
theorem rq.gi {c:Cd} {cs:Cs} (h1:c.ok) (h2:c.kC) (h3:c.full) (h:rq c.gi cs):rq (.neg c) cs:=by
 obtain ⟨a1,a2,a3,a4,a5,a6⟩:=oZ h1 h2 h3
 refine ⟨?_,fun f=>?_,fun k hk=>?_,fun xs hx=>?_⟩
 ·rw [h.len,sV c false h1]
  conv=>rhs;unfold Cd.cz
 ·rw [h.met,qL f h1]
  conv=>rhs;unfold Cd.holds
 ·have:=h.wg k hk
  rw [a4] at this
  unfold Cd.ff
  exact this
 ·unfold dB at hx
  exact h.ins xs (a6 xs hx)
end Hw
namespace Hw
open PySem L2
theorem E9 (A B:Cs) (a:List (Ps×Int)):bC (A++[a]) B=bC A B++B.map (a++·):=by
 unfold bC
 rw [List.map_append,List.flatten_append]
 show _++(B.map (a++·)++[])=_
 rw [List.append_nil]
theorem iz {α β:Type} {F:α→β→Prop}:∀ {xs xs':List α} {ys ys':List β},Paired F xs ys→Paired F xs' ys'→Paired F (xs++xs') (ys++ys')
 | _,_,_,_,.nil,h=>h
 | _,_,_,_,.cons r t,h=>.cons r (iz t h)
end Hw
namespace Hw
open PySem L2
theorem oq {xs:List Str} {c:Cd}:∀ {cs:List Cd},cV xs (cs++[c])→cV xs cs∧dB xs c
 | [],h=>by
  have h:cV xs [c]:=h
  unfold cV at h
  exact ⟨by unfold cV;trivial,h.1⟩
 | a::r,h=>by
  have h:cV xs (a::(r++[c])):=h
  unfold cV at h
  have:=oq h.2
  exact ⟨by unfold cV;exact ⟨h.1,this.1⟩,this.2⟩
theorem Az (f:Str→Int) (cs:List Cd) (c:Cd):cI f (cs++[c])=(cI f cs && c.holds f):=by
 rw [jR,jR,List.map_append,List.all_append]
 show (_ && (c.holds f && true))=_
 rw [Bool.and_true]
theorem Ay (f:Str→Int) (cs:List Cd) (c:Cd):cH f (cs++[c])=(cH f cs || c.holds f):=by
 rw [jQ,jQ,List.map_append,List.any_append]
 show (_ || (c.holds f || false))=_
 rw [Bool.or_false]
structure Ny (cs:List Cd) (A:Cs):Prop where
 len:A.length=kj cs false
 met:∀ f,dN f A=cI f cs
 wg:∀ k∈A,k.length≤2*mZ cs
 ins:∀ xs,cV xs cs→∀ k∈A,∀ q∈k,∀ p∈q.1,p.1∈xs
structure Nx (cs:List Cd) (A:Cs):Prop where
 len:A.length=kg cs false
 met:∀ f,dN f A=cH f cs
 wg:∀ k∈A,k.length≤2*mZ cs
 ins:∀ xs,cV xs cs→∀ k∈A,∀ q∈k,∀ p∈q.1,p.1∈xs
theorem Ny.nil:Ny [] [[]]:=by
 refine ⟨by unfold kj;rfl,fun f=>by unfold cI;rfl,fun k hk=>?_,fun xs _ k hk q hq=>?_⟩
 ·rw [List.mem_singleton.mp hk];exact Nat.zero_le _
 ·rw [List.mem_singleton.mp hk] at hq;exact nomatch hq
theorem Nx.nil:Nx [] []:=⟨by unfold kg;rfl,fun f=>by unfold cH;rfl,(fun k hk=>nomatch hk),(fun xs _ k hk=>nomatch hk)⟩
theorem qg {A B:Cs} {k:List (Ps×Int)} (h:k∈bC A B):∃ a∈A,∃ b∈B,k=a++b:=by
 unfold bC at h
 obtain ⟨l,hl,hk⟩:=List.mem_flatten.mp h
 obtain ⟨a,ha,rfl⟩:=List.mem_map.mp hl
 obtain ⟨b,hb,e⟩:=List.mem_map.mp hk
 exact ⟨a,ha,b,hb,e.symm⟩
theorem Ny.snoc {cs:List Cd} {c:Cd} {A B:Cs} (p:Ny cs A) (q:rq c B):Ny (cs++[c]) (bC A B):=by
 refine ⟨?_,fun f=>?_,fun k hk=>?_,fun xs hx k hk z hz=>?_⟩
 ·rw [iG,p.len,q.len,pJ]
 ·rw [uU,p.met,q.met,Az]
 ·obtain ⟨a,ha,b,hb,rfl⟩:=qg hk
  have:=p.wg a ha
  have:=q.wg b hb
  rw [List.length_append,jq]
  omega
 ·obtain ⟨a,ha,b,hb,rfl⟩:=qg hk
  have hx:=oq hx
  rcases List.mem_append.mp hz with h | h
  ·exact p.ins xs hx.1 a ha z h
  ·exact q.ins xs hx.2 b hb z h
theorem Nx.snoc {cs:List Cd} {c:Cd} {A B:Cs} (p:Nx cs A) (q:rq c B):Nx (cs++[c]) (A++B):=by
 refine ⟨?_,fun f=>?_,fun k hk=>?_,fun xs hx k hk=>?_⟩
 ·rw [List.length_append,p.len,q.len,uO]
 ·rw [yH,p.met,q.met,Ay]
 ·rw [jq]
  rcases List.mem_append.mp hk with h | h
  ·have:=p.wg k h;omega
  ·have:=q.wg k h;omega
 ·have hx:=oq hx
  rcases List.mem_append.mp hk with h | h
  ·exact p.ins xs hx.1 k h
  ·exact q.ins xs hx.2 k h
theorem Ny.ok {cs:List Cd} {A:Cs} (p:Ny cs A):rq (.con true cs) A :=
 ⟨by
   rw [p.len];conv=>rhs;unfold Cd.cz
   rfl,fun f=>by
     rw [p.met];conv=>rhs;unfold Cd.holds
     rfl,fun k hk=>by unfold Cd.ff;exact p.wg k hk,fun xs hx=>p.ins xs (by unfold dB at hx;exact hx)⟩
theorem Nx.ok {cs:List Cd} {A:Cs} (p:Nx cs A):rq (.con false cs) A :=
 ⟨by
   rw [p.len];conv=>rhs;unfold Cd.cz
   rfl,fun f=>by
     rw [p.met];conv=>rhs;unfold Cd.holds
     rfl,fun k hk=>by unfold Cd.ff;exact p.wg k hk,fun xs hx=>p.ins xs (by unfold dB at hx;exact hx)⟩
end Hw
namespace Hw
open PySem L2
theorem L5 (f:Str→Int) (a:Ps) (n:Int):dN f [[(a,n)]]=decide (0≤n+bH a f):=by
 show ((decide (0≤n+bH a f) && true) || false)=_
 rw [Bool.and_true,Bool.or_false]
theorem a2C (f:Str→Int) (a b:Ps) (n m:Int):dN f [[(a,n),(b,m)]]=(decide (0≤n+bH a f) && decide (0≤m+bH b f)):=by
 show ((decide (0≤n+bH a f) && (decide (0≤m+bH b f) && true)) || false)=_
 rw [Bool.and_true,Bool.or_false]
theorem a2B (f:Str→Int) (a b:Ps) (n m:Int):dN f [[(a,n)],[(b,m)]]=(decide (0≤n+bH a f) || decide (0≤m+bH b f)):=by
 show ((decide (0≤n+bH a f) && true) || ((decide (0≤m+bH b f) && true) || false))=_
 rw [Bool.and_true,Bool.and_true,Bool.or_false]
theorem iY {xs:List Str} {a b ts:Ps} (g:sJ (a++b.map fun p=>(p.1,-p.2)) ts) (ha:∀ p∈a,p.1∈xs) (hb:∀ p∈b,p.1∈xs):∀ p∈ts,p.1∈xs:=by
 intro p hp
 have h:=g.keys (List.mem_map.mpr ⟨p,hp,rfl⟩:p.1∈keys ts)
 obtain ⟨q,hq,e⟩:=List.mem_map.mp h
 rcases List.mem_append.mp hq with h | h
 ·rw [← e];exact ha q h
 ·obtain ⟨z,hz,e2⟩:=List.mem_map.mp h
  rw [← e,← e2]
  exact hb z hz
theorem oi {xs:List Str} {a ts:Ps} (g:sJ a ts) (ha:∀ p∈a,p.1∈xs):∀ p∈ts,p.1∈xs:=by
 intro p hp
 have h:=g.keys (List.mem_map.mpr ⟨p,hp,rfl⟩:p.1∈keys ts)
 obtain ⟨q,hq,e⟩:=List.mem_map.mp h
 rw [← e];exact ha q hq
theorem gG {a b ts:Ps} (g:sJ (a++b.map fun p=>(p.1,-p.2)) ts) (f:Str→Int):bH ts f=bH a f - bH b f:=by
 rw [g.2,cE,yP];omega
end Hw
namespace L2
open PySem PySem.Spec PyProof.Rows Hw
section
variable {X:Cx}
def Le (K:PySem.W.Frag):R2:=fun x y H Q=>∃ a b xs,x=.ref a∧y=.ref b∧bx K H a xs∧bx K H b []∧Q (.bl (decide (xs=[]))) H
theorem wY (hu:X.A.units < cLine):oB X (compareOp .Eq) (Le X.K):=by
 intro pins s σ H x y v u Q I rx ry h
 obtain ⟨a,b,xs,rfl,rfl,ha,hb,q⟩:=h
 cases rx
 cases ry
 obtain ⟨us,r1,p1,_⟩:=I.list ha
 obtain ⟨vs,r2,p2,_⟩:=I.list hb
 cases r2
 have l1:=r1.length
 by_cases hx:xs=[]
 ·rw [decide_eq_true hx] at q
  subst hx
  cases r1
  exact SeqAt.RcAt.lists (A:=X.A) (e:=fun _=>true) p1.isList p2.isList rfl hu (fun j h1 h2=>absurd h2 (by simp)) _ _ _ _ ⟨.bl true,H,I,rfl,q⟩
 ·rw [decide_eq_false hx] at q
  have:us≠[]:=fun z=>hx (by rw [z] at l1;exact List.length_eq_zero_iff.mp l1)
  refine SeqAt.RcAt.lists_lengths (A:=X.A) p1.isList p2.isList ?_ hu _ _ _ _ ⟨.bl false,H,I,rfl,q⟩
  cases us with
  | nil=>exact absurd rfl this
  | cons _ _=>simp
end
end L2
namespace Hw
open PySem L2
def wF (f:Str→Int) (c:List (Ps×Int)):List (Ps×Int):=c.filter fun q=>decide (q.2+bH q.1 f < 0)
theorem L8 {f:Str→Int} {c:List (Ps×Int)} (h:wF f c=[]):(c.all fun q=>decide (0≤q.2+bH q.1 f))=true:=by
 rw [List.all_eq_true]
 intro q hq
 unfold wF at h
 have:=List.filter_eq_nil_iff.mp h q hq
 simp at this ⊢
 exact this
theorem Jc {f:Str→Int} {c:List (Ps×Int)} (h:¬ wF f c=[]):(c.all fun q=>decide (0≤q.2+bH q.1 f))=false:=by
 rw [Bool.eq_false_iff]
 intro z
 rw [List.all_eq_true] at z
 refine h (List.filter_eq_nil_iff.mpr fun q hq=>?_)
 have:=z q hq
 simp at this ⊢
 exact this
end Hw
namespace Hw
open PySem L2
theorem Ae {α:Type} [DecidableEq α]:∀ {l m:List α},l.Nodup→(∀ x∈l,x∈m)→l.length≤m.length
 | [],m,_,_=>Nat.zero_le _
 | a::r,m,h,hs=>by
  have ha:a∈m:=hs a (List.mem_cons_self ..)
  have hn:=List.nodup_cons.mp h
  have ih:=Ae (m:=m.erase a) hn.2 fun x hx=>by
   have hne:x≠a:=fun e=>hn.1 (e ▸ hx)
   exact (List.mem_erase_of_ne hne).mpr (hs x (List.mem_cons_of_mem _ hx))
  rw [List.length_erase_of_mem ha] at ih
  have:0 < m.length:=List.length_pos_of_mem ha
  show r.length+1≤m.length
  omega
theorem Kd {ts:Ps} (c:Canon ts):(keys ts).Nodup:=by
 unfold keys List.Nodup
 rw [List.pairwise_map]
 exact c.up.imp fun {p q} h e=>by rw [e,yN] at h;cases h
def Kv (xs:List Str) (S:Sb):Prop:=∀ s∈S,∀ p∈s.2.1,p.1∈xs
end Hw
namespace Hw
open PySem L2
theorem yK {P:Program} {w:World} {K:PySem.W.Frag} {mg:Str→Option Value} {base:Heap} {Z:Cz} {m:Str} {ps:List Str} {sp:Nat→Nat→Sp} {lv:Nat→Nat} (f:Nat→Addr) (fd:Nat→FuncData)
  (hm:∀ j,j < 4→Meth K (dH Z j) m (f j)) (hb:∀ j,j < 4→Binds K (fd j) ps []) (h0:∀ j vs H Q E,¬ sp 0 j vs H Q E)
  (hs:∀ n,M4 P w K mg base (lv n) Z m ps (sp n)→∀ j,j < 4→bu P w K mg base dX (lv (n+1)) (f j) (fd j) ps (sp (n+1) j)):∀ n,M4 P w K mg base (lv n) Z m ps (sp n)
 | 0=>fun j hj=>⟨f j,fd j,xu (h0 j),hm j hj,hb j hj⟩
 | n+1=>fun j hj=>⟨f j,fd j,hs n (yK f fd hm hb h0 hs n) j hj,hm j hj,hb j hj⟩
theorem za {P:Program} {w:World} {K:PySem.W.Frag} {mg:Str→Option Value} {base:Heap} {x:Str} {ps:List Str} {sp:Nat→Sp} {lv:Nat→Nat} {f:Addr} {fd:FuncData}
  (hm:mg x=some (.ref f)) (hk:PySem.W.keepIn K (.ref f)=true) (hb:Binds K fd ps []) (h0:∀ vs H Q E,¬ sp 0 vs H Q E)
  (hs:∀ n,Dn P w K mg base (lv n) x ps (sp n)→bu P w K mg base dX (lv (n+1)) f fd ps (sp (n+1))):∀ n,Dn P w K mg base (lv n) x ps (sp n)
 | 0=>⟨f,fd,xu h0,hm,hk,hb⟩
 | n+1=>⟨f,fd,hs n (za hm hk hb h0 hs n),hm,hk,hb⟩
theorem Cy {c:Cd} (h:c.dep≤0):False:=by have:=ML c;omega
theorem R0 (Z:Cz):∀ j vs H Q E,¬ fH Z 0 j vs H Q E:=fun _ _ _ _ _ ⟨_,_,_,_,_,d,_⟩=>Cy d
theorem a0u (Z:Cz):∀ j vs H Q E,¬ gO Z 0 j vs H Q E:=fun _ _ _ _ _ ⟨_,_,_,_,_,d,_⟩=>Cy d
end Hw
namespace Hw
open PySem L2
section
variable {Z:Cz} {H0 H H':Hp} {d tl sd hd p pf:Addr} {xs:List Str} {vt:V} {c c':Cd} {kvs kh:List (Key×V)} {S:Sb}
theorem GS {v:V} (h:bf H c v):∃ p,v=.ref p:=by
 cases c with
 | cmp a n s b m=>unfold bf at h;obtain ⟨p,_,_,e,_⟩:=h;exact ⟨p,e⟩
 | neg c=>unfold bf at h;obtain ⟨p,_,e,_⟩:=h;exact ⟨p,e⟩
 | con k cs=>unfold bf at h;obtain ⟨p,_,e,_⟩:=h;exact ⟨p,e⟩
theorem Bt {K:PySem.W.Frag} {x y:V} {Q:VK} {k:Bool} {n:Nat} (h:bf H c x) (g:bf H c y) (hd:c.dep+2≤n) (q:Q (.bl k) H):Hh K n k x y H Q:=by
 have l:lR K H (n+1) x y:=pP (qx h g) (by omega)
 rcases l with ⟨e,_⟩ | ⟨a,b,us,vs,e1,e2,hs,pr⟩
 ·obtain ⟨p,rfl⟩:=GS h
  cases e
 ·exact ⟨a,b,us,vs,e1,e2,hs,pr,q⟩
end
theorem aE.trans {H H1 H2:Hp} (a:aE H H1) (b:aE H1 H2):aE H H2:=⟨fun c xs e=>b.t _ _ (a.t _ _ e),fun c C dx fs e=>b.i _ _ _ _ (a.i _ _ _ _ e)⟩
mutual
theorem mH {xs ys:List Str} (h:∀ x∈xs,x∈ys):∀ {c:Cd},dB xs c→dB ys c
 | .cmp a n s b m,g=>by unfold dB at g ⊢;exact ⟨fun p hp=>h _ (g.1 p hp),fun p hp=>h _ (g.2 p hp)⟩
 | .neg c,g=>by unfold dB at g ⊢;exact mH h g
 | .con k cs,g=>by unfold dB at g ⊢;exact vM h g
theorem vM {xs ys:List Str} (h:∀ x∈xs,x∈ys):∀ {cs:List Cd},cV xs cs→cV ys cs
 | [],g=>by unfold cV;trivial
 | c::cs,g=>by unfold cV at g ⊢;exact ⟨mH h g.1,vM h g.2⟩
end
end Hw
namespace PySem
section
variable {prog:Program} {w:World} {A:Around} {E:Value→Shared→Prop} {h:Heap} {g:Array GenState} {d:Drawn} {t:Nat} {os:OsState}
variable {nm q:Str} {C N:Addr} {bs bm:List Value} {hdct:Bool} {sn:List Str} {sub:List Value} {ab:Bool} {col:Option Bool} {dd:Option Addr} {k0 k1 k2 k3 k5:Option Value}
abbrev fR (C t:Addr):Obj:={ cls:=.ref C,data:=.fields #[.ref t,.none,.none,.none,.bool false,.none] }
abbrev VE:=F.excBase_ValueError
theorem newX (hV:bm.contains (.type "ValueError")=true) (hA:bm.contains (.type "AttributeError")=false) (hN:bm.contains (.type "NameError")=false) {rest:List Value} {R:Result→Shared→Prop}
  (hC:h.get? C=some (excClassObj nm q C N bs bm hdct sn sub ab col dd k0 k1 k2 k3 k5 "ValueError.__new__")) (hrest:rest.length≤sizeLine)
  (hq:R (.ok (.ret (.ref (h.objs.size+1)))) ⟨(h.push { cls:=.type "tuple",data:=.seq rest.toArray }).push (fR C h.objs.size),g,d,t,os⟩) :
  codeAny (model prog w) A (.builtin "ValueError.__new__" ⟨.ref C::rest,[]⟩) R ⟨h,g,d,t,os⟩:=by
 have e1:=VE.ends
 have c1:(Value.ref C::bm).contains (.type "ValueError")=true:=by rw [List.contains_cons,hV,Bool.or_true]
 have c2:(Value.ref C::bm).contains (.type "AttributeError")=false:=by rw [List.contains_cons,hA];rfl
 have c3:(Value.ref C::bm).contains (.type "NameError")=false:=by rw [List.contains_cons,hN];rfl
 refine codeAny_builtinAt VE.entry ?_
 unfold Builtin.«BaseException.__new__»;refine wpAt_bind ?_
 show wpAt _ _ _ (stack >>= _) _ _ _;refine wpAt_bind (wpAt_stack fun p below=>wpAt_of_wpAny ?_)
 wp_walk;refine wpAt_of_wpAny ?_;rw [VE.owner]
 repeat (first | with_reducible refine wpAny_madeHere_exc VE.canon hC ?_ | with_reducible refine wpAny_loadPart_at hC ?_ | (with_reducible refine wpAny_isSubtype_exc hC ?_;first | rw [c1] | rw [c2] | rw [c3]) | wp_step)
 show R _ _;rw [Heap.size_push];exact hq
theorem Em (hV:bm.contains (.type "ValueError")=true) (hA:bm.contains (.type "AttributeError")=false) (hN:bm.contains (.type "NameError")=false) {mN:Str→Option Value} {rest:List Value} {fI:Addr} {oI:Obj} {Q:Fin→Shared→Prop}
  (hC:h.get? C=some (excClassObj nm q C N bs bm hdct sn sub ab col dd k0 k1 k2 k3 k5 "ValueError.__new__")) (hn:h.Ns N mN) (hi:mN "__init__"=some (.ref fI)) (hfI:h.get? fI=some oI) (hfc:oI.cls=.type "function") (hrest:rest.length≤sizeLine)
  (hq:wpAny (model prog w) A (call (.ref fI) (.ref (h.objs.size+1)::rest)) (fun r s'=>r=.none∧Q (.done (.ret (.ref (h.objs.size+1)))) s') E
   ⟨(h.push { cls:=.type "tuple",data:=.seq rest.toArray }).push (fR C h.objs.size),g,d,t,os⟩) :
  wpAny (model prog w) A (Builtin.«type.__call__» ⟨.ref C::rest,[]⟩) Q E ⟨h,g,d,t,os⟩:=by
 repeat (first | with_reducible refine wpAny_loadPart_at hC ?_ | with_reducible refine wpAny_madeBy_exc hC ?_ | wp_step)
 refine codeAny_call_builtin_code (Code.quiet_builtin _ VE.quiet) (wpAny_check_new_subU VE hV (OwnTail.base (bmB:=bm)) hC ?_)
 refine newX hV hA hN hC hrest ?_;show wpAny _ _ _ _ _ _
 have kp:∀ b o,h.get? b=some o→((h.push { cls:=.type "tuple",data:=.seq rest.toArray }).push (fR C h.objs.size)).get? b=some o:=fun b o e=>Heap.get?_push_of_some _ (Heap.get?_push_of_some _ e)
 have TH:=kp _ _ hC
 have hf1:=kp _ _ hfI
 have hn1:=hn.keeps kp
 have Mv:((h.push { cls:=.type "tuple",data:=.seq rest.toArray }).push (fR C h.objs.size)).get? (h.objs.size+1)=some { cls:=.ref C,data:=.fields #[.ref h.objs.size,.none,.none,.none,.bool false,.none] }:=by heap_get
 have cC:(Value.ref C::bm).contains (.ref C)=true:=by simp
 unfold isInstance
 repeat (first | with_reducible refine wpAny_loadPart_at Mv ?_ | (with_reducible refine wpAny_isSubtype_exc TH ?_;rw [cC]) | wp_step)
 show wpAny _ _ (typeLookup (.ref C) _) _ _ _;rw [typeLookup_eq]
 refine wpAny_bind (wpAny_mroOf_exc TH ?_);rw [lookupAlong_cons]
 refine wpAny_bind (wpAny_classOwn_exc TH hn1 ?_);rw [hi];refine wpAny_pure ?_
 refine wpAny_holding (wpAny_bind ?_);unfold bindSpecial
 refine wpAny_bind (wpAny_typeOf (T:="function") ⟨_,hf1,hfc⟩ ?_);rw [if_pos (by decide)]
 refine wpAny_pure (wpAny_bind (wpAny_mono hq (fun r s' hr=>?_) fun _ _ x=>x))
 obtain ⟨rfl,hQ⟩:=hr
 wp_walk
 exact hQ
theorem Vx (hV:bm.contains (.type "ValueError")=true) (hA:bm.contains (.type "AttributeError")=false) (hN:bm.contains (.type "NameError")=false) {mN:Str→Option Value} {rest:List Value} {fI:Addr} {oI:Obj} {Q:Value→Shared→Prop}
  (hC:h.get? C=some (excClassObj nm q C N bs bm hdct sn sub ab col dd k0 k1 k2 k3 k5 "ValueError.__new__")) (hn:h.Ns N mN) (hi:mN "__init__"=some (.ref fI)) (hfI:h.get? fI=some oI) (hfc:oI.cls=.type "function") (hrest:rest.length≤sizeLine)
  (hq:wpAny (model prog w) (A.under (.builtin "type.__call__" ⟨.ref C::rest,[]⟩)) (call (.ref fI) (.ref (h.objs.size+1)::rest)) (fun r s'=>r=.none∧Q (.ref (h.objs.size+1)) s') E
   ⟨(h.push { cls:=.type "tuple",data:=.seq rest.toArray }).push (fR C h.objs.size),g,d,t,os⟩) :
  wpAny (model prog w) A (call (.ref C) rest) Q E ⟨h,g,d,t,os⟩:=by
 have f1:=tc_lookup
 have f2:=tc_bind (.ref C)
 have hT:(⟨h,g,d,t,os⟩:Shared).TypeIs (.ref C) "type":=⟨_,hC,rfl⟩
 refine wpAny_call (codeAny_of_tree ?_);show wpAny _ _ (callAny (.ref C) _) _ _ _
 repeat (any_goals (first | assumption | with_reducible refine wpAny_loadPart_at hC ?_ | wp_step))
 exact ⟨rfl,codeAny_call_builtin_at (Code.quiet_builtin _ (by decide +kernel)) entry_typeCall (wpAny_check_type_call_sub hC (Em hV hA hN hC hn hi hfI hfc hrest hq))⟩
theorem CH (hV:bm.contains (.type "ValueError")=true) {M:Model} {e:Addr} {oe:Obj} {rest:List Value} {Q:Unit→Shared→Prop}
  (hC:h.get? C=some (excClassObj nm q C N bs bm hdct sn sub ab col dd k0 k1 k2 k3 k5 "ValueError.__new__")) (he:h.get? e=some oe) (hcls:oe.cls=.ref C) (hq:Q () ⟨h,g,d,t,os⟩) :
  wpAny M A (checkBuiltinCall "ValueError.__init__" ⟨.ref e::rest,[]⟩) Q E ⟨h,g,d,t,os⟩:=by
 have c1:(Value.ref C::bm).contains (.type "ValueError")=true:=by rw [List.contains_cons,hV,Bool.or_true]
 have hs:=VE.noStar
 simp only [checkBuiltinCall,VE.initKind,VE.initSplit,VE.initRow]
 repeat (first | (with_reducible refine wpAny_loadPart_at he ?_;rw [hcls]) | with_reducible refine wpAny_loadPart_at hC ?_ | (with_reducible refine wpAny_isSubtype_exc hC ?_;rw [c1]) | wp_step)
 refine wpAny_onRaise ?_
 rw [show ∀ (a b:String) (n:Nat),Bind.check ⟨.positional,"*","ValueError",.self,[⟨"args",.varPos,false⟩]⟩ a b n (List.map (fun x=>x.fst) ({ pos:=Value.ref e::rest }:Args).kw)=pure () from fun a b n=>check_star_args _ _ _ _ _ _]
 exact wpAny_pure hq
theorem Tn (hV:bm.contains (.type "ValueError")=true) {e t0:Addr} {rest:List Value} {Q:Value→Shared→Prop}
  (hC:h.get? C=some (excClassObj nm q C N bs bm hdct sn sub ab col dd k0 k1 k2 k3 k5 "ValueError.__new__")) (he:h.get? e=some (fR C t0)) (hrest:rest.length≤sizeLine)
  (hq:∀ h',(∀ b o,b≠e→h.get? b=some o→h'.get? b=some o)→(∃ t1,h'.get? e=some (fR C t1))→Q .none ⟨h',g,d,t,os⟩) :
  wpAny (model prog w) A (call (.builtin "ValueError.__init__") (.ref e::rest)) Q E ⟨h,g,d,t,os⟩:=by
 refine wpAny_call (codeAny_call_builtin VE.init.plain VE.initEntry (CH hV hC he rfl ?_))
 wp_walk
 refine hq _ (fun b o hb ho=>?_) ⟨h.objs.size,?_⟩
 ·rw [Heap.get?_update_other _ _ (Ne.symm hb)]
  exact Heap.get?_push_of_some _ ho
 ·rw [Heap.get?_update_self _ (Heap.get?_push_of_some _ he) rfl]
  rfl
end
end PySem
namespace PySem
theorem vE (f:Array Value→Array Value) (o:Obj):(Obj.mapFields f o).dict=o.dict:=by
 unfold Obj.mapFields
 split <;> rfl
def RS (C:Addr) (oe:Obj):Prop:=oe.cls=.ref C∧oe.dict=none∧∀ ws,oe.data=.fields ws→ws[2]?=some .none
structure j7 (fr:List Addr) (a:Addr) (old:Option Addr) (C:Addr) (h h':Heap):Prop where
 keep:∀ b o,h.get? b=some o→b ∉ fr→b≠a→old≠some b→h'.get? b=some o
 slot:∀ b o,h.get? b=some o→b∈fr→∃ sl,h'.get? b=some { o with slots:=sl }
 a0w:∀ b o,old=some b→h.get? b=some o→∃ o',h'.get? b=some o'
 Mx:∃ oe vs T oT ts,h'.get? a=some oe∧RS C oe∧oe.data=.fields vs∧vs[1]?=some (.ref T)∧h'.get? T=some oT∧oT.data=.fields ts∧ts[3]?=some .none∧T≠a∧h.objs.size≤T
section
variable {M:Model} {A:Around} {E:Value→Shared→Prop} {s:Shared} {base:Heap} {env:Env} {outer:List Env} {L a C:Addr} {oe:Obj} {vs:Array Value}
theorem gu (hl:s.heap.FunFrames base (env::outer)) {b:Addr} {o:Obj} {ws:Array Value} (hb:b∈(env::outer).filterMap (·.frame)) (ho:s.heap.get? b=some o) (hd:o.data=.fields ws):False:=by
 obtain ⟨_,o',ho',hn⟩:=hl.mem hb
 rw [ho] at ho';injection ho' with e;subst e
 exact hn ws hd
theorem Cv {head:Value} {hadNext:Bool} {Q:Unit→Shared→Prop} (hfr:A.frames=some (env::outer)) (hl:s.heap.FunFrames base (env::outer)) (hf:env.frame=some L)
  (ha:s.heap.get? a=some oe) (hc:RS C oe) (hd:oe.data=.fields vs) (hsz:1 < vs.size)
  (k:∀ h',j7 ((env::outer).filterMap (·.frame)) a none C s.heap h'→Q () { s with heap:=h' }) :
  wpAny M A (do let fr ← frameOf env;let pl ← entryPlaceOf L hadNext;let b ← EntryCells.newEntry head fr .none (rawInt L) .none pl;setField (.ref a) 1 b) (fun _ s'=>wpAny M A (setFlight (.ref a) none) Q E s') E s:=by
 have hna:a ∉ (env::outer).filterMap (·.frame):=fun hm=>gu hl hm ha hd
 refine wpAny_bind (wpAny_frameOf_fun hfr hl hf fun g1 so=>?_)
 obtain ⟨sz,same,slots⟩:=so
 refine wpAny_bind (wpAny_entryPlaceOf fun pl hpl=>?_);unfold EntryCells.newEntry newFields
 refine wpAny_bind (wpAny_newObj_type ?_ (hpl.sizeOk5 _ _ _ _ _))
 have ha1:g1.get? a=some oe:=(same a hna).trans ha
 generalize hob:({ cls:=.type "traceback",dict:=none,data:=.fields ([head,.ref L,.none,rawInt L,.none]++(if pl.isEmpty then List.replicate 6 Value.none else pl)).toArray }:Obj)=ob
 have ha2:(g1.push ob).get? a=some oe:=Heap.get?_push_of_some _ ha1
 refine wpAny_setField ha2 hd hsz ?_
 have nT:g1.objs.size≠a:=Nat.ne_of_gt (Heap.lt_size ha1)
 have Mw:=Obj.data_mapFields hd (·.setIfInBounds 1 (Value.ref g1.objs.size))
 have ha3:=Heap.get?_update_self (Obj.mapFields (·.setIfInBounds 1 (Value.ref g1.objs.size))) ha2 (Obj.isFreed_of_fields Mw)
 have P4:ob.data=.fields ([head,.ref L,.none,rawInt L,.none]++(if pl.isEmpty then List.replicate 6 Value.none else pl)).toArray:=by rw [← hob]
 have hT0:(g1.push ob).get? g1.objs.size=some ob:=Heap.get?_push_size g1 (by rw [← hob];rfl)
 have hT3:((g1.push ob).update a (Obj.mapFields (·.setIfInBounds 1 (Value.ref g1.objs.size)))).get? g1.objs.size=some ob:=(Heap.get?_update_other _ _ (Ne.symm nT)).trans hT0
 unfold setFlight
 refine wpAny_bind (wpAny_field ha3 Mw (x:=.ref g1.objs.size) (by simp [hsz]) ?_)
 rw [if_pos (show (Value.ref g1.objs.size != Value.none)=true by simp)]
 refine wpAny_setField hT3 P4 (by simp only [List.size_toArray,List.length_append,List.length_cons,List.length_nil] <;> omega) (k _ ?_)
 have kp:∀ b o,b≠a→g1.get? b=some o→(((g1.push ob).update a (Obj.mapFields (·.setIfInBounds 1 (Value.ref g1.objs.size)))).update g1.objs.size (Obj.mapFields (·.setIfInBounds 3 ((none:Option Addr).elim Value.none fun f=>rawInt f)))).get? b=some o:=fun b o hb q=>by
  rw [Heap.get?_update_other _ _ (Nat.ne_of_gt (Heap.lt_size q)),Heap.get?_update_other _ _ (Ne.symm hb)]
  exact Heap.get?_push_of_some _ q
 refine ⟨fun b o q nf nb _=>kp b o nb ((same b nf).trans q),fun b o q inf=>?_,fun b o z=>(nomatch z),?_⟩
 ·obtain ⟨sl,e⟩:=slots b o q
  exact ⟨sl,kp b _ (fun z=>hna (z ▸ inf)) e⟩
 ·refine ⟨_,_,g1.objs.size,_,_,?_,⟨(Obj.cls_mapFields _ _).trans hc.1,(vE _ _).trans hc.2.1,fun ws e=>(by
   rw [Mw] at e
   cases e
   have z:=hc.2.2 _ hd
   rw [Array.getElem?_setIfInBounds_ne (by decide)]
   exact z)⟩,Mw,by simp [hsz],Heap.get?_update_self _ hT3 (Obj.isFreed_of_fields (Obj.data_mapFields P4 _)),Obj.data_mapFields P4 _,?_,nT,Nat.le_of_eq sz.symm⟩
  ·rw [Heap.get?_update_other _ _ nT];exact ha3
  ·first | (simp;done) | (rcases hpl with rfl | ⟨_,_,_,_,_,_,_,rfl⟩ <;> simp)
theorem BV {Q:Unit→Shared→Prop} (hfr:A.frames=some (env::outer)) (hl:s.heap.FunFrames base (env::outer)) (hf:env.frame=some L)
  (ha:s.heap.get? a=some oe) (hc:RS C oe) (hd:oe.data=.fields vs) (h1:vs[1]?=some .none)
  (k:∀ h',j7 ((env::outer).filterMap (·.frame)) a none C s.heap h'→Q () { s with heap:=h' }):wpAny M A (leaving env (.ref a)) Q E s:=by
 unfold leaving noteFrame
 simp only [hf]
 refine wpAny_bind (wpAny_bind (wpAny_field ha hd h1 ?_));rw [if_neg (by decide)]
 exact Cv hfr hl hf ha hc hd (Array.getElem?_eq_some_iff.mp h1).1 k
theorem EF {Q:Unit→Shared→Prop} {T:Addr} {oT:Obj} {ts:Array Value} (hfr:A.frames=some (env::outer)) (hl:s.heap.FunFrames base (env::outer)) (hf:env.frame=some L)
  (ha:s.heap.get? a=some oe) (hc:RS C oe) (hd:oe.data=.fields vs) (h1:vs[1]?=some (.ref T)) (hT:s.heap.get? T=some oT) (B0:oT.data=.fields ts) (h3:ts[3]?=some .none) (hne:T≠a)
  (k:∀ h',j7 ((env::outer).filterMap (·.frame)) a (some T) C s.heap h'→Q () { s with heap:=h' }):wpAny M A (leaving env (.ref a)) Q E s:=by
 unfold leaving noteFrame
 simp only [hf]
 refine wpAny_bind (wpAny_bind (wpAny_field ha hd h1 ?_));rw [if_pos (show (Value.ref T != Value.none)=true by simp)]
 refine wpAny_bind (wpAny_field hT B0 h3 ?_);rw [if_neg (show ¬ ((Value.none == rawInt L)=true) by simp [rawInt])]
 refine wpAny_bind (wpAny_setField hT B0 (Array.getElem?_eq_some_iff.mp h3).1 ?_)
 have Tv:T ∉ (env::outer).filterMap (·.frame):=fun hm=>gu hl hm hT B0
 have Dm:∀ b,b≠T→(s.heap.update T (Obj.mapFields (·.setIfInBounds 3 Value.none))).get? b=s.heap.get? b:=fun b hb=>Heap.get?_update_other _ _ (Ne.symm hb)
 have hl':(s.heap.update T (Obj.mapFields (·.setIfInBounds 3 Value.none))).FunFrames base (env::outer):=hl.of_keeps fun b o hb hnf=>⟨o,(Dm b fun z=>by rw [z,hT] at hb;injection hb with hb;subst hb;exact hnf ts B0).trans hb,rfl⟩
 refine Cv (s:={ s with heap:=s.heap.update T (Obj.mapFields (·.setIfInBounds 3 Value.none)) }) hfr hl' hf ((Dm a (Ne.symm hne)).trans ha) hc hd (Array.getElem?_eq_some_iff.mp h1).1 fun h' m=>k h' ⟨fun b o q nf nb nT=>m.keep b o ((Dm b fun z=>nT (by rw [z])).trans q) nf nb (fun z=>nomatch z),fun b o q inf=>m.slot b o ((Dm b fun z=>Tv (z ▸ inf)).trans q) inf,?_,?_⟩
 ·intro b o e q
  cases e
  have e3:=Heap.get?_update_self (Obj.mapFields (·.setIfInBounds 3 Value.none)) hT (Obj.isFreed_of_fields (Obj.data_mapFields B0 _))
  exact ⟨_,m.keep T _ e3 Tv hne (fun z=>nomatch z)⟩
 ·obtain ⟨LS,vs',T',NU,ts',x1,x2,x3,x4,x5,x6,x7,x8,x9⟩:=m.Mx
  exact ⟨LS,vs',T',NU,ts',x1,x2,x3,x4,x5,x6,x7,x8,Nat.le_trans (Nat.le_of_eq (Heap.size_after_update ..).symm) x9⟩
end
end PySem
namespace L2
open PySem PySem.Spec PyProof.Rows
structure b0u (h:Heap) (H:Hp) (n:Nat) (C a:Addr):Prop where
 Mx:∃ oe vs T oT ts,h.get? a=some oe∧RS C oe∧oe.data=.fields vs∧vs[1]?=some (.ref T)∧h.get? T=some oT∧oT.data=.fields ts∧ts[3]?=some .none∧T≠a∧n≤T∧H T=none
 new:n≤a
 free:H a=none
def zy (P:Program) (w:World) (C:Addr):Ba:=fun outer H s E e s' =>
 ∃ a H',e=.ref a∧E (.ref C) none H'∧s'.os=s.os∧AllBare s'.gens∧Un (frs outer) [] H H' s.heap s'.heap∧lS P w H' s'.heap∧b0u s'.heap H' s.heap.objs.size C a
theorem lS.Js {P:Program} {w:World} {H:Hp} {h h':Heap} (ok:lS P w H h) (k:∀ b u,H b≠none→h.get? b=some u→h'.get? b=some u):lS P w H h':=fun b o e =>
 (ok b o e).stay (fun c u hc q=>k c u (hc.elim (fun z=>by rw [z,e];exact fun z=>nomatch z) (fun z=>by rw [z];exact fun z=>nomatch z)) q) (fun _ z=>z) fun _ _ z=>z
theorem yV {base h h':Heap} {H H':Hp}:∀ {l l':List Env},(∀ b∈frs l,b∈frs l')→(∀ b∈frs l',H b=none)→Un (frs l') [] H H' h h'→h.FunFrames base l→h'.FunFrames base l
 | [],_,_,_,_,_=>trivial
 | env::r,l',hs,hf,un,⟨hk,⟨L,o,e,hn,ho,hd⟩,hr⟩=>by
  have hL:L∈frs l':=hs L (by unfold frs;rw [List.filterMap_cons,e];exact List.mem_cons_self)
  obtain ⟨sl,q⟩:=un.slot L o ho (hf L hL) hL (by simp)
  exact ⟨hk,⟨L,_,e,hn,q,hd⟩,yV (fun b hb=>hs b (by unfold frs;rw [List.filterMap_cons,e];exact List.mem_cons_of_mem _ hb)) hf un hr⟩
section
variable {P:Program} {w:World} {K:PySem.W.Frag} {mg:Str→Option Value} {base:Heap} {N:List Str} {qual:Str} {scope:Scope} {f C:Addr} {cd:Value} {A:Around} {outer:List Env} {s:Shared} {H:Hp} {E:XK}
abbrev UC (P:Program) (w:World) (C:Addr) (K:PySem.W.Frag) (mg:Str→Option Value) (base:Heap) (N:List Str) (qual:Str) (scope:Scope) (f:Addr) (cd:Value) (A:Around) (outer:List Env) (s:Shared) (H:Hp) (E:XK):Cx:=zd (zy P w C) P w K mg base N qual scope f cd A outer s H E
theorem C7 {pins:List (Addr×Obj)} {σ:St} {H1 H2:Hp} {s1:Shared} {h2 h3:Heap} {a:Addr} {old:Option Addr} (I:Inv (UC P w C K mg base N qual scope f cd A outer s H E) pins σ H1 s1)
  (un:Un (frs (envOfC qual scope s.heap.objs.size f cd::outer)) [] H1 H2 s1.heap h2) (m:j7 (frs (envOfC qual scope s.heap.objs.size f cd::outer)) a old C h2 h3) (ha:s.heap.objs.size≤a) (ho:∀ T,old=some T→s.heap.objs.size≤T) :
  Un (frs outer) [] H H2 s.heap h3:=by
 have B:Un (frs outer) [] H H1 s.heap s1.heap:=I.base
 have nl:∀ b o,s.heap.get? b=some o→b≠s.heap.objs.size:=fun b o q z=>absurd (Heap.lt_size q) (by rw [z];exact Nat.lt_irrefl _)
 have nin:∀ b o,s.heap.get? b=some o→b ∉ frs outer→b ∉ frs (envOfC qual scope s.heap.objs.size f cd::outer):=fun b o q n z=>(List.mem_cons.mp (show b∈s.heap.objs.size::frs outer from z)).elim (nl b o q) n
 have na:∀ b o,s.heap.get? b=some o→b≠a:=fun b o q z=>absurd (Heap.lt_size q) (by rw [z];exact Nat.not_lt.mpr ha)
 have nT:∀ b o,s.heap.get? b=some o→old≠some b:=fun b o q z=>absurd (Heap.lt_size q) (Nat.not_lt.mpr (ho b z))
 have hin:∀ b,b∈frs outer→b∈frs (envOfC qual scope s.heap.objs.size f cd::outer):=fun b hb=>List.mem_cons_of_mem _ hb
 refine ⟨fun b o q n nf nx=>?_,fun b o q n inf nx=>?_,fun b o q n nx=>?_,fun b o q nx=>?_,fun b xs q=>un.tups b xs (B.tups b xs q),fun b o u q=>un.oj b o u (B.oj b o u q),fun b ps q=>?_⟩
 ·exact m.keep b o (un.keep b o (B.keep b o q n nf nx) (B.free b o q n nx) (nin b o q nf) nx) (nin b o q nf) (na b o q) (nT b o q)
 ·obtain ⟨sl,e1⟩:=B.slot b o q n inf nx
  obtain ⟨sl2,e2⟩:=un.slot b _ e1 (B.free b o q n nx) (hin b inf) nx
  obtain ⟨Y3,e3⟩:=m.slot b _ e2 (hin b inf)
  exact ⟨Y3,e3⟩
 ·obtain ⟨o1,e1⟩:=B.there b o q nx
  exact un.free b o1 e1 (B.free b o q n nx) nx
 ·obtain ⟨o1,e1⟩:=B.there b o q nx
  obtain ⟨o2,e2⟩:=un.there b o1 e1 nx
  by_cases hb:b∈frs (envOfC qual scope s.heap.objs.size f cd::outer)
  ·obtain ⟨sl,e3⟩:=m.slot b o2 e2 hb
   exact ⟨_,e3⟩
  ·exact ⟨o2,m.keep b o2 e2 hb (na b o q) (nT b o q)⟩
 ·obtain ⟨m1,e1⟩:=B.oG b ps q
  obtain ⟨m2,e2⟩:=un.oG b _ e1
  exact ⟨m1++m2,by rw [e2,Array.append_assoc]⟩
theorem mW:Passes (zy P w C) (UC P w C K mg base N qual scope f cd A outer s H E) E:=by
 rintro pins σ H1 s1 e s' I ⟨a,H2,rfl,hE,os,bare,un,ok,fl⟩
 obtain ⟨oe,vs,T,oT,ts,ha,hc,hd,h1,hT,B0,h3,ne,nT,fT⟩:=fl.Mx
 have un:Un (frs (envOfC qual scope s.heap.objs.size f cd::outer)) [] H1 H2 s1.heap s'.heap:=un
 have sz:s.heap.objs.size≤s1.heap.objs.size:=I.sz
 have sk:∀ b∈frs (envOfC qual scope s.heap.objs.size f cd::outer),H1 b=none:=I.lY
 have N7:s1.heap.FunFrames base (envOfC qual scope s.heap.objs.size f cd::outer):=I.stack
 have fl2:s'.heap.FunFrames base (envOfC qual scope s.heap.objs.size f cd::outer):=yV (fun _ z=>z) sk un N7
 have hfr:(A.deeper (envOfC qual scope s.heap.objs.size f cd)).frames=some (envOfC qual scope s.heap.objs.size f cd::outer):=I.ok.frames
 show wpAny (model P w) (A.deeper (envOfC qual scope s.heap.objs.size f cd)) (leaving (envOfC qual scope s.heap.objs.size f cd) (.ref a)) (fun _ s''=>zy P w C outer H s E (.ref a) s'') _ s'
 have new:=fl.new
 refine EF hfr fl2 rfl ha hc hd h1 hT B0 h3 ne fun h' m=>?_
 have lt:=Heap.lt_size ha
 have JN:∀ b,b∈frs (envOfC qual scope s.heap.objs.size f cd::outer)→H2 b=none:=fun b hb=>by
  obtain ⟨_,o,ho,_⟩:=N7.mem hb
  exact un.free b o ho (sk b hb) (by simp)
 refine ⟨a,H2,rfl,hE,os.trans I.os,bare,C7 I un m (by omega) (fun T' e=>by cases e;omega),ok.Js fun b u hb q=>m.keep b u q (fun z=>hb (JN b z)) (fun z=>hb (z ▸ fl.free)) (fun z=>hb (by cases z;exact fT)),?_,by omega,fl.free⟩
 obtain ⟨LS,vs',T',NU,ts',x1,x2,x3,x4,x5,x6,x7,x8,x9⟩:=m.Mx
 exact ⟨LS,vs',T',NU,ts',x1,x2,x3,x4,x5,x6,x7,x8,Nat.le_trans sz (Nat.le_trans new (Nat.le_trans (Nat.le_of_lt lt) x9)),ok.fresh x9⟩
def FE (C e:Addr):HO:=.ext fun h=>∃ t,h.get? e=some (fR C t)
theorem JV {P:Program} {w:World} {H:Hp} {h:Heap} {C e:Addr}:(∃ t,h.get? e=some (fR C t))→cD P w H h e (FE C e):=fun ⟨t,q⟩ =>
 ⟨⟨t,q⟩,⟨_,q⟩,fun _ _ ⟨t,q⟩ k=>⟨t,k _ q⟩⟩
def del (H:Hp) (a:Addr):Hp:=fun b=>if b=a then none else H b
theorem qY {H:Hp} {a b:Addr} (h:b≠a):del H a b=H b:=if_neg h
theorem O0 {pins:List (Addr×Obj)} {σ:St} {H1:Hp} {s1:Shared} {a:Addr} (I:Inv (UC P w C K mg base N qual scope f cd A outer s H E) pins σ H1 s1) (he:H1 a=some (FE C a)) (hn:s.heap.objs.size≤a) (hE:E (.ref C) none (del H1 a)) :
  (UC P w C K mg base N qual scope f cd A outer s H E).xe (.ref a) s1:=by
 obtain ⟨⟨t,ha⟩,_⟩:=show cD P w H1 s1.heap a (FE C a) from I.hok a _ he
 have N7:s1.heap.FunFrames base (envOfC qual scope s.heap.objs.size f cd::outer):=I.stack
 have sk:∀ b∈frs (envOfC qual scope s.heap.objs.size f cd::outer),H1 b=none:=I.lY
 have hfr:(A.deeper (envOfC qual scope s.heap.objs.size f cd)).frames=some (envOfC qual scope s.heap.objs.size f cd::outer):=I.ok.frames
 show wpAny (model P w) (A.deeper (envOfC qual scope s.heap.objs.size f cd)) (leaving (envOfC qual scope s.heap.objs.size f cd) (.ref a)) (fun _ s''=>zy P w C outer H s E (.ref a) s'') _ s1
 refine BV hfr N7 rfl ha ⟨rfl,rfl,fun ws e=>by cases e;rfl⟩ rfl rfl fun h' m=>?_
 have lt:=Heap.lt_size ha
 have dn:∀ b,H1 b=none→del H1 a b=none:=fun b z=>by
  unfold del
  split
  ·rfl
  ·exact z
 have un:Un (frs (envOfC qual scope s.heap.objs.size f cd::outer)) [] H1 (del H1 a) s1.heap s1.heap:=⟨fun _ _ q _ _ _=>q,fun _ o q _ _ _=>⟨o.slots,q⟩,fun b _ _ n _=>dn b n,fun _ o q _=>⟨o,q⟩,
  fun b xs q=>by rw [qY (fun z=>by rw [z,he] at q;cases q)];exact q,fun b o u q=>by rw [qY (fun z=>by rw [z,he] at q;cases q)];exact q,fun b ps q=>⟨#[],by rw [qY (fun z=>by rw [z,he] at q;cases q),Array.append_empty];exact q⟩⟩
 have kp:∀ b u,H1 b≠none→b≠a→s1.heap.get? b=some u→h'.get? b=some u:=fun b u hb na q=>m.keep b u q (fun z=>hb (sk b z)) na (fun z=>nomatch z)
 have ok':lS P w (del H1 a) h':=fun b o e=>by
  have nb:b≠a:=fun z=>by rw [z] at e;unfold del at e;rw [if_pos rfl] at e;cases e
  have e1:H1 b=some o:=by rw [qY nb] at e;exact e
  have own:∀ c,H1 c=some (.own b)→c≠a:=fun c hc z=>by rw [z,he] at hc;cases hc
  refine (I.hok b o e1).stay (fun c u hc q=>?_) (fun c hc=>by rw [qY (own c hc)];exact hc) fun c xs hc=>by rw [qY (fun z=>by rw [z,he] at hc;cases hc)];exact hc
  rcases hc with rfl | hc
  ·exact kp _ u (by rw [e1];exact fun z=>nomatch z) nb q
  ·exact kp c u (by rw [hc];exact fun z=>nomatch z) (own c hc) q
 refine ⟨a,del H1 a,rfl,hE,I.os,I.bare,C7 I un m hn (fun T' e=>nomatch e),ok',?_,hn,by unfold del;rw [if_pos rfl]⟩
 obtain ⟨LS,vs',T',NU,ts',x1,x2,x3,x4,x5,x6,x7,x8,x9⟩:=m.Mx
 exact ⟨LS,vs',T',NU,ts',x1,x2,x3,x4,x5,x6,x7,x8,Nat.le_trans hn (Nat.le_trans (Nat.le_of_lt lt) x9),dn _ (I.hok.fresh x9)⟩
theorem cX.NT {x qual:Str} {st:Stmt} {f:Addr} {fd:FuncData} {N ps:List Str} {k:Nat} {sp:Sp} (F:cX K x qual st f fd) (S:aG N ps (aj st)) (len:∀ vs H Q E,sp vs H Q E→vs.length=ps.length)
  (hbody:∀ (cdv:Value) (A:Around) (outer:List Env) (s:Shared) (H:Hp) (vs:List V) (Q:VK) (E:XK),dj k (A.deeper (envOfC qual (aj st) s.heap.objs.size f cdv))→sp vs H Q E →
   ∃ t,xO (UC P w C K mg base N qual (aj st) f cdv A outer s H E) (av st) t∧t { nx:=fun _ H'=>Q .eX H',rt:=Q } (start N vs) H):bu P w K mg base (zy P w C) (k+1) f fd ps sp:=by
 obtain ⟨oc,od,kV,doc,pm,an,cdv,ct,osl,rfl,lk,hcd⟩:=F.ex
 exact N6 lk hcd S len fun A outer s H vs Q E hr EM=>hbody cdv A outer s H vs Q E hr EM
end
end L2
namespace L2
open PySem PySem.Spec PyProof.Rows
theorem GN {H:Hp} {a:Addr} {o:HO} (h:H a=some o):upd H a o=H:=by
 funext b
 unfold upd
 split
 ·rename_i e;rw [e,h]
 ·rfl
theorem SR {K:PySem.W.Frag} {h:Heap} {N:Addr} {mN:Str→Option Value} {n:Str} {v:Value} (X:K.In h) (G:h.Ns N mN) (e:PySem.W.nsIn K N n=some (some v)):mN n=some v:=by
 obtain ⟨o,es,ep,ho,hd,_,hf⟩:=G
 unfold PySem.W.nsIn at e
 split at e
 ·rename_i q
  have z:=X _ _ q
  rw [ho] at z
  cases z;cases hd
  split at e
  ·rename_i he
   cases e;rw [← hf]
   unfold nsFind findBy;rw [← Array.find?_toList,he];rfl
  ·split at e <;> cases e
 ·cases e
structure Fi (K:PySem.W.Frag) (C fI:Addr) (bm:List Value):Prop where
 ob:∃ nm q N bs hdct sn sub ab col dd k0 k1 k2 k3 k5,K.lookup C=some (excClassObj nm q C N bs bm hdct sn sub ab col dd k0 k1 k2 k3 k5 "ValueError.__new__")∧PySem.W.nsOkIn K N=true∧PySem.W.nsIn K N "__init__"=some (some (.ref fI))
 fn:PySem.W.isFn K (.ref fI)=true
 kp:PySem.W.keepIn K (.ref C)=true
 v:bm.contains (.type "ValueError")=true
 a:bm.contains (.type "AttributeError")=false
 n:bm.contains (.type "NameError")=false
 b:bm.contains (.type "BaseException")=true
section
variable {X:Cx} {CX:Ba} {k:Nat} {f C D fI:Addr} {fd:FuncData} {ps:List Str} {sp:Sp} {E:XK} {x m:Str} {p pos apos:Pos} {e o:Expr} {es:List Expr} {t:TA} {bm:List Value}
def Sn (sp:Sp) (E:XK) (to:TE) (t:TA):TE:=fun σ H Q=>to σ H fun _ H1=>t σ H1 fun vs H2=>sp (vs++[]) H2 Q E
theorem Lr {pl:Sem Bool} (hg:Gl X x) (hm:X.mg x=some (.ref D)) (h1:PySem.W.specialIn X.K (.ref D) "__getattribute__"=some (some (.builtin "type.__getattribute__"))) (h2:PySem.W.readsIn X.K D (.type "type")=true)
  (h3:PySem.W.findCls X.K (.ref D) (.type "type") m=some (.val (.ref f))) (h4:PySem.W.handedIn (.ref f)=true) (hk:PySem.W.keepIn X.K (.ref f)=true) (F:bu X.prog X.w X.K X.mg X.base CX k f fd ps sp) (hr:dj k X.A) (hb:Binds X.K fd ps [])
  (hx:Passes CX X E) (ha:PA X (e::es) t) (hst:starEach (e::es) X.env=(false,eval e X.env)::starEach es X.env:=by rfl) (hpl:(backTo pos (starEach es X.env)).any (·.1)=false:=by rfl) (hdb:(x == ("__debug__":Str))=false:=by decide)
  (ht:eval (.Call (.Attribute (.Name x p) m apos) (e::es) [] pos) X.env=(do
   let ov ← eval (.Name x p) X.env
   standAt apos.atName
   let (f,first) ← holding [ov] (getMethod ov m pl)
   callWith pos f first (backTo pos (starEach (e::es) X.env)) (backToKw pos (keywordEach [] X.env))):=by rfl) :
  PE X (.Call (.Attribute (.Name x p) m apos) (e::es) [] pos) (Sn sp E (tC (.ref D)) t):=by
 intro pins s σ H Q I h
 refine PySem.W.methodCall_KW (pl:=pl) (gB I hg hm ?_ hdb) ht
 refine PySem.W.method_cls I.iX h1 (PySem.W.cls_value I.iX h2 h3 h4 ?_)
 have I1:=I.tok (s.toks+1)
 refine PySem.W.callWith_K (first:=[]) (h₀:=X.base) I.ok.mod.jb hk (cy (ha pos pins _ σ H _ I1 h) fun us s2 ⟨vs,H2,I2,r,q2⟩=>⟨I2.iX,?_⟩) hst hpl
 exact kP F hr hb .nil hx I2 r q2
def ON (C:Addr) (t:TA):TE:=fun σ H Q=>t σ H fun vs H1=>∃ a v,vs=[.ref a,v]∧H1 a=some (FE C a)∧Q .eX H1
theorem HM {pl:Sem Bool} (XC:Fi X.K C fI bm) (hg:Gl X "ValueError") (hm:X.mg "ValueError"=none) (h3:PySem.W.findCls X.K (.type "ValueError") (.type "type") "__init__"=some (.val (.builtin "ValueError.__init__")))
  (ha:PA X (e::es) t) (hst:starEach (e::es) X.env=(false,eval e X.env)::starEach es X.env:=by rfl) (hpl:(backTo pos (starEach es X.env)).any (·.1)=false:=by rfl)
  (ht:eval (.Call (.Attribute (.Name "ValueError" p) "__init__" apos) (e::es) [] pos) X.env=(do
   let ov ← eval (.Name "ValueError" p) X.env
   standAt apos.atName
   let (f,first) ← holding [ov] (getMethod ov "__init__" pl)
   callWith pos f first (backTo pos (starEach (e::es) X.env)) (backToKw pos (keywordEach [] X.env))):=by rfl) :
  PE X (.Call (.Attribute (.Name "ValueError" p) "__init__" apos) (e::es) [] pos) (ON C t):=by
 intro pins s σ H Q I h
 refine PySem.W.methodCall_KW (pl:=pl) (u7 I hg hm PyProof.Rows.Boot.«ValueError» ?_ (by decide) (by decide)) ht
 obtain ⟨m,F⟩:=I.fr
 refine PySem.W.method_type F I.ok.mod.jb (by kernel_rfl) (by decide +kernel) h3 (by rfl) ?_
 have I1:=I.tok (s.toks+1)
 have hA:=ha pos pins _ σ H _ I1 h
 rw [hst] at hA ⊢
 refine Calls.callWith_builtin (by show (false || (backTo pos (starEach es X.env)).any (·.1))=false;rw [hpl] <;> rfl) (Calls.evalArgs_plain (cy hA fun us s2 ⟨vs,H2,I2,r,a,v,ev,ea,q2⟩=>?_))
 subst ev
 obtain ⟨u,u',rfl,ru,_⟩:=vals2 r
 cases ru
 obtain ⟨nm,q,N,bs,hdct,sn,sub,ab,col,dd,k0,k1,k2,k3,k5,lk,_,_⟩:=XC.ob
 obtain ⟨⟨t0,he⟩,_⟩:=show cD X.prog X.w H2 s2.heap a (FE C a) from I2.hok a _ ea
 obtain ⟨hp,g,d,tk,os⟩:=s2
 refine Tn XC.v (I2.iX _ _ lk) he (by show 1≤sizeLine;exact Nat.le_of_lt (Hw.line 1 (by decide))) fun h' kp ⟨t1,he'⟩=>?_
 have I3:=I2.write (t':=tk) (x:=a) (e:=a) (o:=FE C a) (h':=h') (by rw [ea];exact True.intro) (.inl rfl) kp ⟨_,he'⟩ (JV ⟨t1,he'⟩)
 rw [GN ea] at I3
 exact ⟨.eX,H2,I3,rfl,q2⟩
def OO (C:Addr) (sp:Sp) (E:XK) (t:TA):TS:=fun _ σ H=>t σ H fun vs H1=>vs.length≤sizeLine∧∀ a,H1 a=none→sp (.ref a::(vs++[])) (upd H1 a (FE C a)) (fun v H2=>v=.eX∧H2 a=some (FE C a)∧E (.ref C) none (del H2 a)) E0
theorem Hq (XC:Fi X.K C fI bm) (F:bu X.prog X.w X.K X.mg X.base dX k fI fd ps sp) (hr:dj (k+1) X.A) (hg:Gl X x) (hm:X.mg x=some (.ref C)) (hb:Binds X.K fd ps [])
  (hxe:∀ {pins:List (Addr×Obj)} {σ:St} {H1:Hp} {s1:Shared} {a:Addr},Inv X pins σ H1 s1→H1 a=some (FE C a)→X.s₀.heap.objs.size≤a→E (.ref C) none (del H1 a)→X.xe (.ref a) s1)
  (ha:PA X (e::es) t) (hdb:(x == ("__debug__":Str))=false:=by decide) (he:starEach (e::es) X.env=(false,eval e X.env)::starEach es X.env:=by rfl) (hpl:(backTo pos (starEach es X.env)).any (·.1)=false:=by rfl) :
  PS X (.Raise (some (.Call (.Name x p) (e::es) [] pos)) none apos) (OO C sp E t):=by
 intro pins s σ H D I h
 obtain ⟨nm,q,N,bs,hdct,sn,sub,ab,col,dd,k0,k1,k2,k3,k5,lk,hok,hni⟩:=XC.ob
 rw [arm_exec_Raise]
 refine wpAny_bind (wpAny_standAt (wpAny_raiseStmt_made_sub (C:=C) (nm:=nm) (q:=q) (N:=N) (bs:=bs) (bm:=bm) (hdct:=hdct) (sn:=sn) (sub:=sub) (ab:=ab) (col:=col) (dd:=dd) (k0:=k0) (k1:=k1) (k2:=k2) (k3:=k3) (k5:=k5) (newId:="ValueError.__new__") XC.b hr.hd ?_))
 refine wpAny_bind (cy (Q:=fun v s3=>∃ a t,v=.ref a∧s3.heap.get? C=some (excClassObj nm q C N bs bm hdct sn sub ab col dd k0 k1 k2 k3 k5 "ValueError.__new__")∧s3.heap.get? a=some (fR C t)∧X.xe (.ref a) s3) ?_ fun v s3 h3=>wpAny_bind (wpAny_standAt (wpAny_pure h3)))
 refine wpAny_Call_Name_kw (gB I hg hm ?_ hdb)
 refine PySem.W.callWith_K (h₀:=X.base) I.ok.mod.jb XC.kp (cy (ha pos pins s σ H _ I h) fun us s1 ⟨vs,H1,I1,r,hz,q1⟩=>⟨I1.iX,?_⟩) he hpl
 have hq:=q1 (s1.heap.objs.size+1) (I1.hok.fresh (Nat.le_succ _))
 obtain ⟨hp,g,d,tk,os⟩:=s1
 have KX:X.K.In hp:=I1.iX
 have hty:=beq_iff_eq.mp XC.fn
 obtain ⟨oI,lf,hfc⟩:∃ oI,X.K.lookup fI=some oI∧oI.cls=.type "function":=by
  unfold PySem.W.typeIn at hty
  exact Option.map_eq_some_iff.mp hty
 have hNs:hp.Ns N (hp.nsMap N):=.of_isNs (PySem.W.isNs_of_in KX hok)
 show wpAny _ _ (call (.ref C) us) _ _ _
 have VT:us.length≤sizeLine:=by rw [← r.length];exact hz
 refine Vx XC.v XC.a XC.n (KX _ _ lk) hNs (SR KX hNs hni) (KX _ _ lf) hfc VT ?_
 have kp:∀ b u,hp.get? b=some u→((hp.push { cls:=.type "tuple",data:=.seq us.toArray }).push (fR C hp.objs.size)).get? b=some u:=fun b u z=>Heap.get?_push_of_some _ (Heap.get?_push_of_some _ z)
 have Mv:((hp.push { cls:=.type "tuple",data:=.seq us.toArray }).push (fR C hp.objs.size)).get? (hp.objs.size+1)=some (fR C hp.objs.size):=by heap_get
 have I2:Inv X pins σ (upd H1 (hp.objs.size+1) (FE C (hp.objs.size+1))) ⟨(hp.push { cls:=.type "tuple",data:=.seq us.toArray }).push (fR C hp.objs.size),g,d,tk,os⟩:=I1.laid (t':=tk) kp (Nat.le_succ _) (JV ⟨_,Mv⟩)
 have r2:Vals (V.ref (hp.objs.size+1)::(vs++[])) (Value.ref (hp.objs.size+1)::(us++[])):=.cons rfl (r.append .nil)
 have hl:(Value.ref (hp.objs.size+1)::us++[]).length=ps.length:=by
  have e:=r2.length
  rw [F.len _ _ _ _ hq] at e
  exact e.symm
 have hb':=hb _ (Value.ref (hp.objs.size+1)::us) I2.iX hl
 rw [List.cons_append] at hb'
 refine wpAny_call (codeAny_mono (F.run _ X.stack _ _ ⟨Value.ref (hp.objs.size+1)::us,[]⟩ (Value.ref (hp.objs.size+1)::(us++[])) _ _ E0 (hr.make C us []) (I2.J0.make C us []) hb' r2 hq) fun r' s' hq'=>?_)
 cases r' with
 | error e=>exact False.elim hq'
 | ok fl =>
  cases fl with
  | ret u =>
   obtain ⟨v,H',I3,rv,ev,ea,hE⟩:=I2.after hq'
   subst ev
   obtain ⟨⟨t1,he3⟩,_⟩:=show cD X.prog X.w H' s'.heap (hp.objs.size+1) (FE C (hp.objs.size+1)) from I3.hok _ _ ea
   exact ⟨rv,hp.objs.size+1,t1,rfl,I3.iX _ _ lk,he3,hxe I3 ea (Nat.le_trans I1.sz (Nat.le_succ _)) hE⟩
  | next=>exact False.elim hq'
  | brk=>exact False.elim hq'
  | cont=>exact False.elim hq'
end
end L2
namespace PySem.W
open PySem PySem.Spec PySem.Calls PyProof.Rows
section
variable {prog:Program} {w:World} {A:Around} {E:Value→Shared→Prop} {K:Frag} {x D:Addr} {ox:Obj}
end
end PySem.W
namespace L2
open PySem PySem.Spec PyProof.Rows
section
variable {X:Cx} {a C:Addr} {oe:Obj}
end
end L2
namespace PySem
section
variable {M:Model} {A:Around} {E:Value→Shared→Prop}
variable {nm q nm' q':Str} {C N W N':Addr} {bs bm bs' bm':List Value} {hdct N4:Bool} {sn sn':List Str} {sub sub':List Value} {ab ab':Bool} {col col':Option Bool} {dd QK:Option Addr} {k0 k1 k2 k3 k5 j0 j1 j2 j3 j5:Option Value} {newId newId':String}
theorem PD {h:Heap} {g:Array GenState} {d:Drawn} {t:Nat} {os:OsState} {e:Addr} {oe:Obj} {Q:Bool→Shared→Prop}
  (hC:h.get? C=some (excClassObj nm q C N bs bm hdct sn sub ab col dd k0 k1 k2 k3 k5 newId)) (hW:h.get? W=some (excClassObj nm' q' W N' bs' bm' N4 sn' sub' ab' col' QK j0 j1 j2 j3 j5 newId'))
  (he:h.get? e=some oe) (hcls:oe.cls=.ref C) (hb:bm'.contains (.type "BaseException")=true) (hin:(Value.ref C::bm).contains (.ref W)=true)
  (hq:Q true ⟨h,g,d,t,os⟩):wpAny M A (excMatches (.ref e) (.ref W)) Q E ⟨h,g,d,t,os⟩:=by
 have c1:(Value.ref W::bm').contains (.type "BaseException")=true:=by rw [List.contains_cons,hb,Bool.or_true]
 have f:=tc_notTuple
 unfold excMatches
 repeat (first | (with_reducible refine wpAny_loadPart_at he ?_;rw [hcls]) | with_reducible refine wpAny_loadPart_at hW ?_ | (with_reducible refine wpAny_isSubtype_exc hW ?_;rw [c1]) | (with_reducible refine wpAny_isSubtype_exc hC ?_;rw [hin]) | wp_step)
 exact hq
end
section
variable {M:Model} {A:Around} {E:Value→Shared→Prop} {s:Shared} {base:Heap} {env:Env} {outer:List Env} {L a C:Addr} {oe:Obj} {vs:Array Value}
theorem IE {Q:Unit→Shared→Prop} {T:Addr} {oT:Obj} {ts:Array Value} (hfr:A.frames=some (env::outer)) (hl:s.heap.FunFrames base (env::outer)) (hf:env.frame=some L)
  (ha:s.heap.get? a=some oe) (hc:RS C oe) (hd:oe.data=.fields vs) (h1:vs[1]?=some (.ref T)) (hT:s.heap.get? T=some oT) (B0:oT.data=.fields ts) (h3:ts[3]?=some .none) (hne:T≠a)
  (k:∀ h',j7 ((env::outer).filterMap (·.frame)) a (some T) C s.heap h'→Q () { s with heap:=h' }):wpAny M A (noteFrame (.ref a) env) (fun _ s2=>wpAny M A (setFlight (.ref a) none) Q E s2) E s:=by
 unfold noteFrame
 simp only [hf]
 refine wpAny_bind (wpAny_field ha hd h1 ?_);rw [if_pos (show (Value.ref T != Value.none)=true by simp)]
 refine wpAny_bind (wpAny_field hT B0 h3 ?_);rw [if_neg (show ¬ ((Value.none == rawInt L)=true) by simp [rawInt])]
 refine wpAny_bind (wpAny_setField hT B0 (Array.getElem?_eq_some_iff.mp h3).1 ?_)
 have Tv:T ∉ (env::outer).filterMap (·.frame):=fun hm=>gu hl hm hT B0
 have Dm:∀ b,b≠T→(s.heap.update T (Obj.mapFields (·.setIfInBounds 3 Value.none))).get? b=s.heap.get? b:=fun b hb=>Heap.get?_update_other _ _ (Ne.symm hb)
 have hl':(s.heap.update T (Obj.mapFields (·.setIfInBounds 3 Value.none))).FunFrames base (env::outer):=hl.of_keeps fun b o hb hnf=>⟨o,(Dm b fun z=>by rw [z,hT] at hb;injection hb with hb;subst hb;exact hnf ts B0).trans hb,rfl⟩
 refine Cv (s:={ s with heap:=s.heap.update T (Obj.mapFields (·.setIfInBounds 3 Value.none)) }) hfr hl' hf ((Dm a (Ne.symm hne)).trans ha) hc hd (Array.getElem?_eq_some_iff.mp h1).1 fun h' m=>k h' ⟨fun b o q nf nb nT=>m.keep b o ((Dm b fun z=>nT (by rw [z])).trans q) nf nb (fun z=>nomatch z),fun b o q inf=>m.slot b o ((Dm b fun z=>Tv (z ▸ inf)).trans q) inf,?_,?_⟩
 ·intro b o e q
  cases e
  have e3:=Heap.get?_update_self (Obj.mapFields (·.setIfInBounds 3 Value.none)) hT (Obj.isFreed_of_fields (Obj.data_mapFields B0 _))
  exact ⟨_,m.keep T _ e3 Tv hne (fun z=>nomatch z)⟩
 ·obtain ⟨LS,vs',T',NU,ts',x1,x2,x3,x4,x5,x6,x7,x8,x9⟩:=m.Mx
  exact ⟨LS,vs',T',NU,ts',x1,x2,x3,x4,x5,x6,x7,x8,Nat.le_trans (Nat.le_of_eq (Heap.size_after_update ..).symm) x9⟩
theorem My {Q:Unit→Shared→Prop} {fr:List Addr} {old:Option Addr} {h2:Heap} (m:j7 fr a old C h2 s.heap) (fn:∀ b∈fr,b < h2.objs.size) (an:∀ b,old=some b→b < h2.objs.size) (ha:a < h2.objs.size)
  (k:∀ h',j7 fr a old C h2 h'→(∀ o,s.heap.get? a=some o→h'.get? a=some o)→Q () { s with heap:=h' }):wpAny M A (setFlight (.ref a) none) Q E s:=by
 obtain ⟨LS,vs',T',NU,ts',x1,x2,x3,x4,x5,x6,x7,x8,x9⟩:=m.Mx
 unfold setFlight
 refine wpAny_bind (wpAny_field x1 x3 x4 ?_);rw [if_pos (show (Value.ref T' != Value.none)=true by simp)]
 refine wpAny_setField x5 x6 (Array.getElem?_eq_some_iff.mp x7).1 (k _ ?_ ?_)
 ·have Dm:∀ b,b < h2.objs.size→(s.heap.update T' (Obj.mapFields (·.setIfInBounds 3 ((none:Option Addr).elim Value.none fun f=>rawInt f)))).get? b=s.heap.get? b:=fun b hb=>Heap.get?_update_other _ _ (fun z=>by rw [← z] at hb;exact Nat.lt_irrefl _ (Nat.lt_of_lt_of_le hb x9))
  refine ⟨fun b o q nf nb nT=>(Dm b (Heap.lt_size q)).trans (m.keep b o q nf nb nT),fun b o q inf=>?_,fun b o e q=>?_,?_⟩
  ·obtain ⟨sl,z⟩:=m.slot b o q inf
   exact ⟨sl,(Dm b (fn b inf)).trans z⟩
  ·obtain ⟨o',z⟩:=m.a0w b o e q
   exact ⟨o',(Dm b (an b e)).trans z⟩
  ·refine ⟨LS,vs',T',_,_,(Dm a ha).trans x1,x2,x3,x4,Heap.get?_update_self _ x5 (Obj.isFreed_of_fields (Obj.data_mapFields x6 _)),Obj.data_mapFields x6 _,?_,x8,x9⟩
   have hs:=(Array.getElem?_eq_some_iff.mp x7).1
   simp [hs]
 ·intro o z
  rw [Heap.get?_update_other _ _ x8];exact z
end
end PySem
namespace L2
open PySem PySem.Spec PyProof.Rows
def Cx.tr (X:Cx) (pn:List (Addr×Obj)) (xe:Value→Shared→Prop):Cx:={ X with pn:=pn,xe:=xe }
def Cx.suite (X:Cx) (a:Addr) (pn:List (Addr×Obj)):Cx:={ X with A:=X.A.mark (some (.ref a)),calm:=false,pn:=pn,xe:=fun _ _=>False }
section
variable {X:Cx} {pn:List (Addr×Obj)} {xe:Value→Shared→Prop} {pins jj:List (Addr×Obj)} {σ:St} {H:Hp} {s:Shared} {a:Addr}
theorem a0x (o:X.Ok):(X.tr pn xe).Ok:=⟨o.mod,o.kind,o.glob,o.blt,o.above,o.inj,o.has,o.MZ,o.hd,o.frames,o.stk,o.KR,o.bs,o.AO,o.wD,o.wH,o.lH,o.Fz⟩
theorem SQ (o:(X.tr pn xe).Ok):X.Ok:=⟨o.mod,o.kind,o.glob,o.blt,o.above,o.inj,o.has,o.MZ,o.hd,o.frames,o.stk,o.KR,o.bs,o.AO,o.wD,o.wH,o.lH,o.Fz⟩
theorem a0y (o:X.Ok):(X.suite a pn).Ok:=⟨o.mod,o.kind,o.glob,o.blt,o.above,o.inj,o.has,o.MZ,(fun z=>nomatch z),o.frames,o.stk,o.KR,o.bs,o.AO,o.wD,o.wH,o.lH,o.Fz⟩
theorem Tj (I:Inv X pins σ H s) (h:∀ p∈pn++jj,p∈X.pn++pins):Inv (X.tr pn xe) jj σ H s:=⟨a0x I.ok,I.os,I.bare,I.base,I.loc,I.cell,I.free,I.gF,fun p hp=>I.pin p (h p hp),I.hok,I.len⟩
theorem vn (I:Inv (X.tr pn xe) jj σ H s) (h:∀ p∈X.pn++pins,p∈pn++jj):Inv X pins σ H s:=⟨SQ I.ok,I.os,I.bare,I.base,I.loc,I.cell,I.free,I.gF,fun p hp=>I.pin p (h p hp),I.hok,I.len⟩
theorem NY {oe:Obj} (I:Inv X pins σ H s) (ha:s.heap.get? a=some oe) (hf:H a=none) (hl:a≠X.env.locals) (hn:a ∉ X.fs) (hd:∀ v,oe.data≠.cell v):Inv (X.suite a ((a,oe)::(X.pn++pins))) [] σ H s :=
 ⟨a0y I.ok,I.os,I.bare,I.base,I.loc,I.cell,I.free,I.gF,fun p hp=>by
  rw [List.append_nil] at hp
  rcases List.mem_cons.mp (show p∈(a,oe)::(X.pn++pins) from hp) with e | e
  ·subst e;exact ⟨ha,hf,hl,hn,hd⟩
  ·exact I.pin p e,I.hok,I.len⟩
theorem Inv.forget {a:Addr} {pn':List (Addr×Obj)} {h':Heap} {t':Nat} {m':Str→Option Value} (o:X.Ok) (I:Inv (X.suite a pn') [] σ H s) (hp:∀ p∈X.pn++pins,p∈pn') (hn:h'.Ns X.env.locals m') (sb:Heap.SameBut X.env.locals s.heap h') :
  Inv X pins (List.replicate X.N.length none) H { s with heap:=h',toks:=t' }:=by
 have kp:∀ b u,b≠X.env.locals→s.heap.get? b=some u→h'.get? b=some u:=fun b u nb q=>(sb.2 b nb).trans q
 have ab:∀ b u,X.s₀.heap.get? b=some u→b≠X.env.locals:=fun b u q z=>by
  have l1:=Heap.lt_size q
  have l2:X.s₀.heap.objs.size≤X.env.locals:=o.above
  rw [z] at l1
  exact Nat.lt_irrefl _ (Nat.lt_of_lt_of_le l1 l2)
 have B:=I.base
 refine ⟨o,I.os,I.bare,⟨fun b u q n nf nx=>kp b u (ab b u q) (B.keep b u q n nf nx),fun b u q n inf nx=>?_,fun b u q n nx=>B.free b u q n nx,fun b u q nx=>?_,B.tups,B.oj,B.oG⟩,⟨m',hn,fun i x v _ e=>?_⟩,fun x c e=>?_,I.free,I.gF,fun p RC=>?_,I.hok.Js fun b u hb q=>kp b u (fun z=>hb (z ▸ I.free)) q,List.length_replicate ..⟩
 ·obtain ⟨sl,e⟩:=B.slot b u q n inf nx
  exact ⟨sl,kp b _ (ab b u q) e⟩
 ·obtain ⟨o',e⟩:=B.there b u q nx
  exact ⟨o',kp b _ (ab b u q) e⟩
 ·rw [List.getElem?_replicate] at e
  split at e <;> cases e
 ·obtain ⟨v,oc,h1,h2⟩:=I.cell x c e
  exact ⟨v,oc,kp c _ (I.Oh x c e) h1,h2⟩
 ·obtain ⟨h1,h2,h3,h4,h5⟩:=I.pin p (by rw [List.append_nil];exact hp p RC)
  exact ⟨kp _ _ h3 h1,h2,h3,h4,h5⟩
end
section
variable {X:Cx} {C W fI fW:Addr} {bm dS:List Value} {xc n:Str} {i:Nat} {np hpos pos:Pos} {body:List Stmt} {b₀:Stmt} {suite:List Stmt} {tb:XK→TS} {ts:Addr→TS}
end
end L2
namespace L2
open PySem PySem.Spec PyProof.Rows
section
variable {X:Cx} {tg:Expr}
end
end L2
namespace PySem
open L2
section
variable {prog:Program} {w:World} {A:Around} {E:Value→Shared→Prop} {s:Shared}
end
end PySem
namespace PySem
open L2 PyProof.Rows
section
variable {prog:Program} {w:World} {A:Around} {R:Result→Shared→Prop} {I:Addr} {fp wr:List Addr} {G:Array GenState→Array GenState→Prop} {n:Nat} {P:Nat→Value→Prop} {St:Nat→Shared→Prop}
end
section
variable {prog:Program} {w:World} {A:Around} {E:Value→Shared→Prop} {s:Shared}
end
end PySem
namespace PySem
open L2 PyProof.Rows
namespace F
end F
section
variable {prog:Program} {w:World} {A:Around} {E:Value→Shared→Prop} {s:Shared} {I a tp:Addr} {i n ep:Nat} {es:Array (Int×Value)} {t:SetTable}
end
end PySem
namespace PySem
open L2 PyProof.Rows
section
variable {prog:Program} {w:World} {A:Around} {E:Value→Shared→Prop} {s:Shared} {I a tp:Addr} {i n ep:Nat} {es:Array (Int×Value)} {t:SetTable}
end
end PySem
namespace PySem
open L2 PyProof.Rows
section
variable {M:Model} {A:Around} {E:Value→Shared→Prop} {s:Shared}
end
section
variable {prog:Program} {w:World} {A:Around} {E:Value→Shared→Prop} {s:Shared} {I a tp:Addr} {i n ep:Nat} {es:Array (Int×Value)} {t:SetTable}
end
end PySem
namespace PySem
open L2 PyProof.Rows
section
variable {prog:Program} {w:World} {A:Around} {E:Value→Shared→Prop} {s:Shared} {I a tp:Addr} {i n ep:Nat} {es:Array (Int×Value)} {t:SetTable}
end
end PySem
namespace PySem
open L2 PyProof.Rows
section
variable {prog:Program} {w:World} {A:Around} {E:Value→Shared→Prop} {s:Shared} {a:Addr}
end
end PySem
namespace PySem
open L2 PyProof.Rows
section
variable {prog:Program} {w:World} {A:Around} {E:Value→Shared→Prop} {s:Shared} {a:Addr} {zs:List Str}
end
end PySem
namespace L2
open PySem PySem.Spec PyProof.Rows Hw
section
variable {X:Cx}
end
end L2
namespace Hw
open PySem L2
end Hw
namespace L2
open PySem PySem.Spec PyProof.Rows Hw
section
variable {X:Cx}
end
end L2
namespace Hw
open PySem L2
end Hw
namespace Hw
open PySem L2
end Hw
namespace Hw
open PySem L2
end Hw
namespace L2
open PySem PySem.Spec PyProof.Rows Hw
section
variable {X:Cx}
end
end L2
namespace Hw
open PySem L2
end Hw
namespace Hw
open PySem L2
def FI (P:Program) (w:World) (K:PySem.W.Frag) (mg:Str→Option Value) (base:Heap) (C:Addr) (k:Nat) (x:Str) (ps:List Str) (sp:Sp):Prop :=
 ∃ (f:Addr) (fd:FuncData),bu P w K mg base (zy P w C) k f fd ps sp∧mg x=some (.ref f)∧PySem.W.keepIn K (.ref f)=true∧Binds K fd ps []
def Oq (P:Program) (w:World) (K:PySem.W.Frag) (mg:Str→Option Value) (base:Heap) (C:Addr) (k:Nat) (Z:Cz) (m:Str) (ps:List Str) (sp:Nat→Sp):Prop :=
 ∀ j,j < 4→∃ (f:Addr) (fd:FuncData),bu P w K mg base (zy P w C) k f fd ps (sp j)∧Meth K (dH Z j) m f∧Binds K fd ps []
theorem Cj {P:Program} {w:World} {K:PySem.W.Frag} {mg:Str→Option Value} {base:Heap} {CX:Ba} {k:Nat} {f:Addr} {fd:FuncData} {ps:List Str} {sp:Sp} (h:∀ vs H Q E,¬ sp vs H Q E):bu P w K mg base CX k f fd ps sp :=
 ⟨fun vs H Q E z=>(h vs H Q E z).elim,fun A outer s H args us vs Q E _ _ _ _ z=>(h vs H Q E z).elim⟩
theorem DB {P:Program} {w:World} {K:PySem.W.Frag} {mg:Str→Option Value} {base:Heap} {C:Addr} {Z:Cz} {m:Str} {ps:List Str} {sp:Nat→Nat→Sp} {lv:Nat→Nat} (f:Nat→Addr) (fd:Nat→FuncData)
  (hm:∀ j,j < 4→Meth K (dH Z j) m (f j)) (hb:∀ j,j < 4→Binds K (fd j) ps []) (h0:∀ j vs H Q E,¬ sp 0 j vs H Q E)
  (hs:∀ n,Oq P w K mg base C (lv n) Z m ps (sp n)→∀ j,j < 4→bu P w K mg base (zy P w C) (lv (n+1)) (f j) (fd j) ps (sp (n+1) j)):∀ n,Oq P w K mg base C (lv n) Z m ps (sp n)
 | 0=>fun j hj=>⟨f j,fd j,Cj (h0 j),hm j hj,hb j hj⟩
 | n+1=>fun j hj=>⟨f j,fd j,hs n (DB f fd hm hb h0 hs n) j hj,hm j hj,hb j hj⟩
structure dW (K:PySem.W.Frag) (mg:Str→Option Value) (TM W fT fW:Addr) (dY dS:List Value):Prop where
 ct:Fi K TM fT dY
 cw:Fi K W fW dS
 hin:(Value.ref TM::dY).contains (.ref W)=true
 mgT:mg "TooMany"=some (.ref TM)
 mgW:mg "WritError"=some (.ref W)
 mgV:mg "ValueError"=none
 g1:PySem.W.specialIn K (.ref W) "__getattribute__"=some (some (.builtin "type.__getattribute__"))
 g2:PySem.W.readsIn K W (.type "type")=true
 g3:PySem.W.findCls K (.ref W) (.type "type") "__init__"=some (.val (.ref fW))
 g4:PySem.W.handedIn (.ref fW)=true
 g5:PySem.W.keepIn K (.ref fW)=true
 gv:PySem.W.findCls K (.type "ValueError") (.type "type") "__init__"=some (.val (.builtin "ValueError.__init__"))
end Hw
namespace L2
open PySem PySem.Spec PyProof.Rows Hw
section
variable {X:Cx} {C:Addr} {k:Nat} {m:Str} {pos apos:Pos} {o:Expr} {ta:TE} {Z:Cz} {ps:List Str} {sp:Nat→Sp} {E:XK}
def Yp (Z:Cz) (sp:Nat→Sp) (E:XK) (ta:TE):TE:=fun σ H Q=>ta σ H fun x H1=>∃ p c,x=.ref p∧aT Z H1 c (.ref p)∧sp (Fw c) [.ref p] H1 Q E
theorem yw {pl:Sem Bool} (he:PE X o ta) (cl:∀ j,j < 4→A5 X.K (dH Z j)) (nf:Oo m) (M:Oq X.prog X.w X.K X.mg X.base C k Z m ps sp) (hr:dj k X.A) (hx:Passes (zy X.prog X.w C) X E)
  (ht:eval (.Call (.Attribute o m apos) [] [] pos) X.env=(do
   let ov ← eval o X.env
   standAt apos.atName
   let (f,first) ← holding [ov] (getMethod ov m pl)
   callWith pos f first (backTo pos (starEach [] X.env)) (backToKw pos (keywordEach [] X.env))):=by rfl) :
  PE X (.Call (.Attribute o m apos) [] [] pos) (Yp Z sp E ta):=by
 intro pins s σ H Q I h
 refine PySem.W.methodCall_KW (pl:=pl) (cy (he pins s σ H _ I h) fun u s1 ⟨x,H1,I1,rx,a,c,ex,hc,q⟩=>?_) ht
 subst ex
 obtain rfl:u=Value.ref a:=rx
 obtain ⟨dx,fs,ea,l⟩:=vL hc nf
 obtain ⟨f,fd,F,hm,hb⟩:=M (Fw c) (qC c)
 refine iE I1 ea (cl _ (qC c)) hm l ?_
 exact PySem.W.callWith_K0 (first:=[.ref a]) I1.iX hm.kp (kP (us:=[.ref a]) (vs:=[.ref a]) F hr hb .nil hx I1 (.cons rfl .nil) q)
theorem Lm {K:PySem.W.Frag} {tg l:Expr} {tl:TE} (h:X.K=K) (hl:PE X l tl):PI X tg l (P0 K tl):=h ▸ cZ hl
theorem SI {P:Program} {w:World}:Passes (zy P w C) X E0:=fun _ _ _ _ _ _ _ ⟨_,_,_,h,_⟩=>h.elim
end
end L2
namespace Hw
open PySem L2
def S6 (b:Ps):Ps:=b.map fun p=>(p.1,-p.2)
theorem mF {a ts:Ps} (c:Canon a) (g:sJ a ts):ts=a:=g.1.same c fun f=>g.2 f
def MX (s:Str) (r d:Ps×Int):Cs :=
 if s="<" then [[(r.1,r.2 - 1)]] else if s="<=" then [[r]] else if s=">" then [[(d.1,d.2 - 1)]] else if s=">=" then [[d]] else if s="=" then [[r,d]] else [[(r.1,r.2 - 1)],[(d.1,d.2 - 1)]]
mutual
def mO:Cd→Bool→Cs→Prop
 | .cmp a n s b m,o,cs=>∃ r d,sJ (b++S6 a) r∧sJ (a++S6 b) d∧cs=MX (if o then gX s else s) (r,m - n) (d,n - m)
 | .neg c,o,cs=>mO c (!o) cs
 | .con k l,o,cs=>lV l o (if o then !k else k) cs
def lV:List Cd→Bool→Bool→Cs→Prop
 | [],_,t,cs=>cs=if t then [[]] else []
 | c::l,o,t,cs=>∃ A B,mO c o A∧lV l o t B∧cs=if t then bC A B else A++B
end
mutual
theorem mO.one:∀ {c:Cd} {o:Bool} {A B:Cs},mO c o A→mO c o B→A=B
 | .cmp a n s b m,o,A,B,h,g=>by
  unfold mO at h g
  obtain ⟨r,d,g1,g2,rfl⟩:=h
  obtain ⟨r',d',g1',g2',rfl⟩:=g
  rw [g1.same g1' fun _=>rfl,g2.same g2' fun _=>rfl]
 | .neg c,o,A,B,h,g=>by unfold mO at h g;exact mO.one h g
 | .con k l,o,A,B,h,g=>by unfold mO at h g;exact lV.one h g
theorem lV.one:∀ {l:List Cd} {o t:Bool} {A B:Cs},lV l o t A→lV l o t B→A=B
 | [],o,t,A,B,h,g=>by unfold lV at h g;rw [h,g]
 | c::l,o,t,A,B,h,g=>by
  unfold lV at h g
  obtain ⟨a,b,h1,h2,rfl⟩:=h
  obtain ⟨a',b',g1,g2,rfl⟩:=g
  rw [mO.one h1 g1,lV.one h2 g2]
end
theorem xF:∀ A:Cs,bC A [[]]=A
 | []=>rfl
 | a::r=>by
  show [a++[]]++bC r [[]]=_
  rw [xF r,List.append_nil]
  rfl
theorem Fb (A:Cs):bC [[]] A=A:=by
 show A.map (fun x=>[]++x)++[]=A
 rw [List.append_nil]
 exact List.map_id' A
theorem AR (C:Cs):∀ A B:Cs,bC (A++B) C=bC A C++bC B C
 | [],B=>rfl
 | a::r,B=>by
  show C.map (a++·)++bC (r++B) C=(C.map (a++·)++bC r C)++bC B C
  rw [AR C r B,List.append_assoc]
theorem AQ (a:List (Ps×Int)) (C:Cs):∀ B:Cs,bC (B.map (a++·)) C=(bC B C).map (a++·)
 | []=>rfl
 | b::r=>by
  show C.map ((a++b)++·)++bC (r.map (a++·)) C=(C.map (b++·)++bC r C).map (a++·)
  rw [AQ a C r,List.map_append,List.map_map]
  congr 1
  refine List.map_congr_left fun x _=>?_
  show (a++b)++x=a++(b++x)
  rw [List.append_assoc]
theorem vP (B C:Cs):∀ A:Cs,bC (bC A B) C=bC A (bC B C)
 | []=>rfl
 | a::r=>by
  show bC (B.map (a++·)++bC r B) C=(bC B C).map (a++·)++bC r (bC B C)
  rw [AR,AQ,vP B C r]
def jn (t:Bool) (A B:Cs):Cs:=if t then bC A B else A++B
theorem lV.snoc {c:Cd} {o t:Bool} {B:Cs} (q:mO c o B):∀ {l:List Cd} {A:Cs},lV l o t A→lV (l++[c]) o t (jn t A B)
 | [],A,h=>by
  unfold lV at h
  subst h
  show lV [c] o t _
  unfold lV
  refine ⟨B,if t then [[]] else [],q,by unfold lV;rfl,?_⟩
  unfold jn
  cases t
  ·show []++B=B++[]
   rw [List.append_nil];rfl
  ·show bC [[]] B=bC B [[]]
   rw [Fb,xF]
 | a::l,A,h=>by
  unfold lV at h
  obtain ⟨x,y,h1,h2,rfl⟩:=h
  show lV (a::(l++[c])) o t _
  unfold lV
  refine ⟨x,jn t y B,h1,lV.snoc q h2,?_⟩
  unfold jn
  cases t
  ·show (x++y)++B=x++(y++B)
   rw [List.append_assoc]
  ·show bC (bC x y) B=bC x (bC y B)
   rw [vP]
theorem lV.con {k:Bool} {l:List Cd} {A:Cs} (h:lV l false k A):mO (.con k l) false A:=by unfold mO;exact h
mutual
theorem mO.gi:∀ {c:Cd} {o:Bool} {A:Cs},c.ok→mO c.gi o A→mO c (!o) A
 | .cmp a n s b m,o,A,h,q=>by
  unfold Cd.gi at q
  unfold mO at q ⊢
  unfold Cd.ok at h
  have e:gX (gX s)=s:=by
   simp only [signs,List.mem_cons,List.not_mem_nil,or_false] at h
   rcases h with h | h | h | h | h | h <;> subst h <;> decide +kernel
  obtain ⟨r,d,g1,g2,rfl⟩:=q
  refine ⟨r,d,g1,g2,?_⟩
  cases o
  ·rfl
  ·show MX (gX (gX s)) _ _=MX s _ _
   rw [e]
 | .neg c,o,A,h,q=>by
  unfold Cd.gi at q
  unfold mO
  rw [Bool.not_not]
  exact q
 | .con k l,o,A,h,q=>by
  unfold Cd.gi at q
  unfold Cd.ok at h
  unfold mO at q ⊢
  have z:=lV.gi h q
  cases o <;> cases k <;> exact z
theorem lV.gi:∀ {l:List Cd} {o t:Bool} {A:Cs},wj l→lV (fj l) o t A→lV l (!o) t A
 | [],o,t,A,h,q=>by unfold fj at q;unfold lV at q ⊢;exact q
 | c::l,o,t,A,h,q=>by
  unfold fj at q
  unfold wj at h
  unfold lV at q ⊢
  obtain ⟨x,y,h1,h2,rfl⟩:=q
  exact ⟨x,y,mO.gi h.1 h1,lV.gi h.2 h2,rfl⟩
end
mutual
theorem pI:∀ {c:Cd} (o:Bool),c.full→1≤c.cz o
 | .cmp a n s b m,o,h=>by unfold Cd.cz;split <;> split <;> decide
 | .neg c,o,h=>by unfold Cd.full at h;unfold Cd.cz;exact pI _ h
 | .con k l,o,h=>by
  unfold Cd.full at h
  unfold Cd.cz
  have z:=sX o h.2
  generalize (if o=true then !k else k)=t
  cases t with
  | true=>rw [if_pos rfl];exact z.1
  | false=>rw [if_neg (by decide)];exact z.2 h.1
theorem sX:∀ {l:List Cd} (o:Bool),bW l→1≤kj l o∧(1≤l.length→1≤kg l o)
 | [],o,h=>⟨by unfold kj;decide,fun z=>absurd z (by decide)⟩
 | c::l,o,h=>by
  unfold bW at h
  have e:=pI o h.1
  have z:=sX o h.2
  unfold kj kg
  exact ⟨Nat.mul_le_mul e z.1,fun _=>by omega⟩
end
theorem Ah {o:Bool}:∀ {l r:List Cd},bW r→kj l o≤kj (l++r) o
 | [],r,h=>by
  show kj [] o≤kj r o
  have e:kj [] o=1:=by unfold kj;rfl
  rw [e];exact (sX o h).1
 | c::l,r,h=>by show c.cz o*kj l o≤c.cz o*kj (l++r) o;exact Nat.mul_le_mul_left _ (Ah h)
theorem Ag {o:Bool}:∀ {l r:List Cd},kg l o≤kg (l++r) o
 | [],r=>by
  show kg [] o≤kg r o
  have e:kg [] o=0:=by unfold kg;rfl
  rw [e];exact Nat.zero_le _
 | c::l,r=>by show c.cz o+kg l o≤c.cz o+kg (l++r) o;exact Nat.add_le_add_left Ag _
theorem vA:∀ (i:Nat) {cs:List Cd},bW cs→bW (cs.drop i)
 | 0,cs,h=>h
 | i+1,[],h=>h
 | i+1,c::cs,h=>by
  unfold bW at h
  exact vA i h.2
theorem II {o:Bool} {cs:List Cd} (i:Nat) (h:bW cs):kj (cs.take i) o≤kj cs o:=by
 have z:=Ah (o:=o) (l:=cs.take i) (vA i h)
 rw [List.take_append_drop] at z
 exact z
theorem IG {o:Bool} {cs:List Cd} (i:Nat):kg (cs.take i) o≤kg cs o:=by
 have z:=Ag (o:=o) (l:=cs.take i) (r:=cs.drop i)
 rw [List.take_append_drop] at z
 exact z
theorem LX {o:Bool} {cs:List Cd} {c:Cd} {i:Nat} (h:bW cs) (hi:cs[i]?=some c):kj (cs.take i) o*c.cz o≤kj cs o∧1≤kj (cs.take i) o:=by
 have z:=II (o:=o) (i+1) h
 rw [take_snoc hi,pJ] at z
 exact ⟨z,(sX o (jU i h)).1⟩
theorem LW {o:Bool} {cs:List Cd} {c:Cd} {i:Nat} (hi:cs[i]?=some c):kg (cs.take i) o+c.cz o≤kg cs o:=by
 have z:=IG (o:=o) (cs:=cs) (i+1)
 rw [take_snoc hi,uO] at z
 exact z
def lZ (C:Addr):Sp:=fun vs H Q _=>∃ a v,vs=[.ref a,v]∧H a=some (FE C a)∧Q .eX H
def tV (TM:Addr):Sp:=fun vs H Q E=>∃ k:Nat,vs=[.int k]∧(k≤64→Q .eX H)∧(64 < k→∀ H',az H H'→E (.ref TM) none H')
def oJ (Z:Cz) (TM:Addr):Sp:=fun vs H Q E=>∃ (o u:Addr) (A B:Cs),vs=[.ref o,.ref u]∧cQ Z H o A∧cQ Z H u B∧A.length≤64∧B.length≤64∧(∀ a∈A,a.length≤1000)∧(∀ b∈B,b.length≤1000) ∧
 (A.length*B.length≤64→∀ (r:Addr) (H':Hp),az H H'→H r=none→cQ Z H' r (bC A B)→Q (.ref r) H')∧(64 < A.length*B.length→∀ H',az H H'→E (.ref TM) none H')
def ud (Z:Cz) (TM:Addr) (n:Nat):Nat→Sp:=fun j vs H Q E=>∃ (p:Addr) (c:Cd),vs=[.ref p]∧Fw c=j∧aT Z H c (.ref p)∧c.dep≤n∧c.ok∧c.kC∧c.full∧c.ff≤100 ∧
 (c.cz false≤64→∀ (r:Addr) (cs:Cs) (H':Hp),az H H'→H r=none→cQ Z H' r cs→rq c cs→mO c false cs→Q (.ref r) H')∧(64 < c.cz false→∀ H',az H H'→E (.ref TM) none H')
theorem cx0 (Z:Cz) (TM:Addr):∀ j vs H Q E,¬ ud Z TM 0 j vs H Q E:=fun _ _ _ _ _ ⟨_,_,_,_,_,d,_⟩=>Cy d
theorem MM {H:Hp} {a:Addr} {o:HO} (h:H a=none):del (upd H a o) a=H:=by
 funext b
 unfold del
 split
 ·rename_i e;rw [e,h]
 ·rename_i e;exact aA e
end Hw
namespace Hw
open PySem L2
mutual
def Ge (xs:List Str):Cd→Prop
 | .cmp a n s b m=>Gs xs a n∧s∈signs∧Gs xs b m
 | .neg c=>Ge xs c
 | .con _ cs=>cs.length≤8∧kB xs cs
def kB (xs:List Str):List Cd→Prop
 | []=>True
 | c::cs=>Ge xs c∧kB xs cs
end
mutual
theorem Ge.of {xs:List Str}:∀ {c:Cd},Gd xs c→Ge xs c
 | .cmp a n s b m,h=>by unfold Gd at h;unfold Ge;exact h
 | .neg c,h=>by unfold Gd at h;unfold Ge;exact Ge.of h
 | .con k cs,h=>by unfold Gd at h;unfold Ge;exact ⟨by omega,kB.of h.2⟩
theorem kB.of {xs:List Str}:∀ {cs:List Cd},Fj xs cs→kB xs cs
 | [],h=>by unfold kB;trivial
 | c::cs,h=>by unfold Fj at h;unfold kB;exact ⟨Ge.of h.1,kB.of h.2⟩
end
mutual
theorem Ge.ok {xs:List Str}:∀ {c:Cd},Ge xs c→c.ok
 | .cmp a n s b m,h=>by unfold Ge at h;unfold Cd.ok;exact h.2.1
 | .neg c,h=>by unfold Ge at h;unfold Cd.ok;exact Ge.ok h
 | .con k cs,h=>by unfold Ge at h;unfold Cd.ok;exact kB.ok h.2
theorem kB.ok {xs:List Str}:∀ {cs:List Cd},kB xs cs→wj cs
 | [],h=>by unfold wj;trivial
 | c::cs,h=>by unfold kB at h;unfold wj;exact ⟨Ge.ok h.1,kB.ok h.2⟩
end
mutual
theorem Ge.kC {xs:List Str}:∀ {c:Cd},Ge xs c→c.kC
 | .cmp a n s b m,h=>by
  unfold Ge at h
  unfold Cd.kC
  have h1:=h.1.2.1.1
  have h2:=h.2.2.2.1.1
  exact ⟨by omega,by omega⟩
 | .neg c,h=>by unfold Ge at h;unfold Cd.kC;exact Ge.kC h
 | .con k cs,h=>by unfold Ge at h;unfold Cd.kC;exact kB.kC h.2
theorem kB.kC {xs:List Str}:∀ {cs:List Cd},kB xs cs→pQ cs
 | [],h=>by unfold pQ;trivial
 | c::cs,h=>by unfold kB at h;unfold pQ;exact ⟨Ge.kC h.1,kB.kC h.2⟩
end
mutual
theorem Ge.Mn {xs:List Str}:∀ {c:Cd},Ge xs c→dB xs c
 | .cmp a n s b m,h=>by unfold Ge at h;unfold dB;exact ⟨h.1.2.2.1,h.2.2.2.2.1⟩
 | .neg c,h=>by unfold Ge at h;unfold dB;exact Ge.Mn h
 | .con k cs,h=>by unfold Ge at h;unfold dB;exact kB.Mn h.2
theorem kB.Mn {xs:List Str}:∀ {cs:List Cd},kB xs cs→cV xs cs
 | [],h=>by unfold cV;trivial
 | c::cs,h=>by unfold kB at h;unfold cV;exact ⟨Ge.Mn h.1,kB.Mn h.2⟩
end
theorem tE {xs:List Str} {c:Cd}:∀ {cs:List Cd},kB xs cs→c∈cs→Ge xs c
 | a::r,h,m=>by
  unfold kB at h
  rcases List.mem_cons.mp m with e | e
  ·rw [e];exact h.1
  ·exact tE h.2 e
def rW (H:Hp) (v:V) (c:List (Ps×Int)):Prop:=∃ r us,v=.ref r∧H r=some (.tup us)∧Paired (fun u (q:Ps×Int)=>∃ p,u=V.ref p∧gj H p q.1 q.2) us c
def CT (H:Hp) (r:Addr) (cs:Cs):Prop:=∃ us,H r=some (.lst us)∧Paired (rW H) us cs
theorem rW.aH {H H':Hp} {v:V} {c:List (Ps×Int)} (h:rW H v c) (k:aE H H'):rW H' v c :=
 let ⟨r,us,e,er,p⟩:=h;⟨r,us,e,k.t _ _ er,L2.Paired.dh p fun _ _ ⟨q,e,s⟩=>⟨q,e,s.aH k⟩⟩
theorem CT.same {H H':Hp} {r:Addr} {cs:Cs} (h:CT H r cs) (s:az H H'):CT H' r cs :=
 let ⟨us,e,p⟩:=h;⟨us,s _ _ e,L2.Paired.dh p fun _ _ z=>z.aH (aE.of s)⟩
theorem cQ.same {Z:Cz} {H H':Hp} {r:Addr} {cs:Cs} (h:cQ Z H r cs) (s:az H H'):cQ Z H' r cs :=
 let ⟨us,e,p⟩:=h;⟨us,s _ _ e,L2.Paired.dh p fun _ _ z=>z.aH (aE.of s)⟩
theorem yx {α β:Type} {F:α→β→Prop} {G:α→α→Prop} (h:∀ x y b,F x b→F y b→G x y):∀ {xs ys:List α} {bs:List β},Paired F xs bs→Paired F ys bs→Paired G xs ys
 | _,_,_,.nil,.nil=>.nil
 | _,_,_,.cons a t,.cons b u=>.cons (h _ _ _ a b) (yx h t u)
theorem BW {K:PySem.W.Frag} {H:Hp} {x y:V} {c:List (Ps×Int)} (h:rW H x c) (g:rW H y c):lR K H 4 x y:=by
 obtain ⟨r,us,rfl,er,p⟩:=h
 obtain ⟨r',us',rfl,m9,p'⟩:=g
 exact .inr ⟨r,r',_,_,rfl,rfl,.inr ⟨aV.of er,aV.of m9⟩,yx (fun _ _ q ⟨a,ea,da⟩ ⟨b,eb,db⟩=>by subst ea;subst eb;exact vC da db) p p'⟩
theorem Jg {K:PySem.W.Frag} {H:Hp} {a b:Addr} {cs:Cs} {Q:VK} {k:Bool} {n:Nat} (hn:4≤n) (h:CT H a cs) (g:CT H b cs) (q:Q (.bl k) H):Hh K n k (.ref a) (.ref b) H Q:=by
 obtain ⟨us,e,p⟩:=h
 obtain ⟨us',e',p'⟩:=g
 refine ⟨a,b,us,us',rfl,rfl,.inl ⟨bx.of e,bx.of e'⟩,yx (F:=rW H) (G:=lR K H n) (fun x y c x1 y1=>?_) p p',q⟩
 exact pP (BW x1 y1) hn
def mj (Z:Cz) (n:Nat):Sp:=fun vs H Q _=>∃ (v:V) (c:Cd) (xs:List Str),vs=[v]∧bf H c v∧c.dep≤n∧Ge xs c∧∀ (v':V) (H':Hp),az H H'→aT Z H' c v'→Q v' H'
def ic (n:Nat):Sp:=fun vs H Q _=>∃ (v:V) (d:Addr) (c:Cd) (xs:List Str) (ns:Ps),vs=[v,.ref d]∧bf H c v∧c.dep≤n∧Ge xs c∧H d=some (.dK (enc ns))∧(∀ x∈xs,x∈keys ns)∧∀ H',az H H'→Q (.bl (c.holds (get ns))) H'
theorem QE (Z:Cz):∀ vs H Q E,¬ mj Z 0 vs H Q E:=fun _ _ _ _ ⟨_,_,_,_,_,d,_⟩=>Cy d
theorem MJ:∀ vs H Q E,¬ ic 0 vs H Q E:=fun _ _ _ _ ⟨_,_,_,_,_,_,_,d,_⟩=>Cy d
section
variable {xs:List Str} {H H' H'':Hp} {d l P:Addr} {us:List V} {cs:List Cd}
end
theorem un3 {r:Nat} (h:r < 3):∃ b,((["and","and","or"]:List Str).map V.str)[r]?=some (V.str (A7 b)):=by
 match r,h with
 | 0,_=>exact ⟨true,rfl⟩
 | 1,_=>exact ⟨true,rfl⟩
 | 2,_=>exact ⟨false,rfl⟩
theorem Jo (K:PySem.W.Frag):PySem.W.kitOne K (.type "list") (.type "list")=some true:=by unfold PySem.W.kitOne;rw [if_pos (beq_self_eq_true _)]
end Hw
namespace L2
open PySem PySem.Spec PyProof.Rows
end L2
namespace L2
open PySem PySem.Spec PyProof.Rows Hw
section
variable {X:Cx}
end
end L2
namespace Hw
open PySem L2
inductive Rw where
 | any (x:Str)
 | lt (x:Str) (a:Ps) (n:Int)
 | hold (c:Cd)
def AX (Z:Cz) (H:Hp) (v:V):Rw→Prop
 | .any x=>∃ p,v=.ref p∧H p=some (.tup [.str "any",.str x])
 | .lt x a n=>∃ p q,v=.ref p∧H p=some (.tup [.str "let",.str x,.ref q])∧bO Z.s H q a n
 | .hold c=>∃ p q,v=.ref p∧H p=some (.tup [.str "hold",.ref q])∧aT Z H c (.ref q)
theorem AX.aH {Z:Cz} {H H':Hp} {v:V} (k:aE H H'):∀ {r:Rw},AX Z H v r→AX Z H' v r
 | .any x,⟨p,e,h⟩=>⟨p,e,k.t _ _ h⟩
 | .lt x a n,⟨p,q,e,h,s⟩=>⟨p,q,e,k.t _ _ h,s.aH k⟩
 | .hold c,⟨p,q,e,h,s⟩=>⟨p,q,e,k.t _ _ h,s.aH k⟩
abbrev ow (Z:Cz) (H:Hp) (us:List V) (rs:List Rw):Prop:=Paired (AX Z H) us rs
theorem ow.aH {Z:Cz} {H H':Hp} {us:List V} {rs:List Rw} (h:ow Z H us rs) (k:aE H H'):ow Z H' us rs:=L2.Paired.dh h fun _ _ x=>x.aH k
def VF (ks:List Str) (x:Str):List Str:=if x∈ks then ks else ks++[x]
def kn (ks:List Str):List Rw→List Str
 | []=>ks
 | .any x::r=>kn (VF ks x) r
 | .lt x _ _::r=>kn (VF ks x) r
 | .hold _::r=>kn ks r
theorem gE {H:Hp} {a b:Addr} {o:HO} (h:upd H a o b=none):H b=none:=by
 by_cases e:b=a
 ·subst e;rw [ah] at h;cases h
 ·rw [aA e] at h;exact h
theorem Zp (m:Int) (l:List Int):seqIndex? 0 (((m::l).map V.int).length)=some 0:=by
 rw [List.length_map,List.length_cons]
 unfold seqIndex?
 simp
end Hw
namespace PySem
open Sem (wp)
section
variable {prog:Program} {w:World} {A:Around} {E:Value→Shared→Prop} {s:Shared}
end
end PySem
namespace L2
open PySem PySem.Spec PyProof.Rows Hw
section
variable {X:Cx}
end
section
variable {X:Cx} {l:Expr} {tl:TE} {p pos:Pos}
end
end L2
namespace Hw
open PySem L2
abbrev Sm:=Ps×Int
def ev (s:Sm) (f:Str→Int):Int:=s.2+bH s.1 f
def VG (C:Addr) (H:Hp) (v:V) (s:Sm):Prop:=∃ p,v=.ref p∧bO C H p s.1 s.2
theorem VG.aH {C:Addr} {H H':Hp} {v:V} {s:Sm} (h:VG C H v s) (k:aE H H'):VG C H' v s:=let ⟨p,e,q⟩:=h;⟨p,e,q.aH k⟩
abbrev Om (C:Addr) (H:Hp):List V→List Sm→Prop:=Paired (VG C H)
theorem Om.aH {C:Addr} {H H':Hp} {vs:List V} {ss:List Sm} (h:Om C H vs ss) (k:aE H H'):Om C H' vs ss:=Paired.dh h fun _ _ q=>q.aH k
def gi (s:Sm):Sm:=(s.1.map fun p=>(p.1,-p.2),-s.2 - 1)
def s0:Sm:=([],0)
def yd (C:Addr):Sp:=fun vs H Q _=>∃ (p:Addr) (ts:Ps) (n:Int),vs=[.ref p]∧bO C H p ts n∧Q (.bl (ts.isEmpty && decide (n < 0))) H
end Hw
namespace Hw
open PySem L2
end Hw
namespace Hw
open PySem L2
theorem zg {α:Type} {xs:List α} {v:α} (h:0 < xs.length) (e:xs[xs.length - 1]?=some v):xM xs (-1)=some v:=by
 have:xs=xs.dropLast++[v]:=by
  have hn:xs≠[]:=fun z=>by rw [z] at h;cases h
  rw [List.getElem?_eq_getElem (by omega)] at e
  have e':xs.getLast hn=v:=by rw [List.getLast_eq_getElem];exact Option.some.inj e
  rw [← e']
  exact (List.dropLast_concat_getLast hn).symm
 rw [this]
 exact Kn _ _
end Hw
namespace Hw
open PySem L2
theorem VB {α:Type} {xs:List α} {j:Nat} {v:α} (h:xs[j]?=some v):xM xs (0+(j:Int))=some v:=by rw [Int.zero_add];exact dJ h
end Hw
namespace L2
open PySem PySem.Spec PyProof.Rows Hw
end L2
namespace Hw
open PySem L2
end Hw
namespace Hw
open PySem L2
end Hw
namespace Hw
open PySem L2
end Hw
namespace Hw
open PySem L2
end Hw
namespace Hw
open PySem L2
end Hw
namespace Hw
open PySem L2
end Hw
namespace Hw
open PySem L2
def mT (s:Sm):Bool:=s.1.isEmpty && decide (s.2 < 0)
def mS (s:Sm):Bool:=!s.1.isEmpty
def uk (n:Nat):Str:=("?":Str)++(Str.ofString (toString (n:Int)))
def xU (M:Nat):List Str:=(List.range M).map uk
theorem GP {n M:Nat} (h:n < M):uk n∈xU M:=List.mem_map.mpr ⟨n,List.mem_range.mpr h,rfl⟩
theorem xT (M:Nat):(xU M).length=M:=by unfold xU;rw [List.length_map,List.length_range]
theorem Ga {n M:Nat} (h:n≤M) {x:Str} (hx:x∈xU n):x∈xU M:=by
 obtain ⟨j,hj,rfl⟩:=List.mem_map.mp hx
 exact GP (Nat.lt_of_lt_of_le (List.mem_range.mp hj) h)
def KA (S:Sb):Prop:=∀ s∈S,s.2.1.length≤20
def tX (C:Addr):Sp:=fun vs H Q _=>∃ (p d:Addr) (ts:Ps) (n:Int) (kvs:List (Key×V)) (S:Sb),vs=[.ref p,.ref d]∧bO C H p ts n∧Rd H d (.dK kvs)∧Rl (Ku C H) kvs S∧RW ts∧KA S ∧
 ∀ (r:Addr) (us:Ps) (H':Hp),az H H'→sJ (ni S ts) us→bO C H' r us (n+i0 S ts)→Q (.ref r) H'
def fJ (Z:Cz) (n:Nat):Nat→Sp:=fun j vs H Q _=>∃ (p d:Addr) (c:Cd) (kvs:List (Key×V)) (S:Sb),vs=[.ref p,.ref d]∧Fw c=j∧aT Z H c (.ref p)∧c.dep≤n∧c.l3∧Rd H d (.dK kvs)∧Rl (Ku Z.s H) kvs S∧KA S ∧
 ∀ (v:V) (c':Cd) (H':Hp),az H H'→Pt S c c'→aT Z H' c' v→Q v H'
theorem SG (Z:Cz):∀ j vs H Q E,¬ fJ Z 0 j vs H Q E:=fun _ _ _ _ _ ⟨_,_,_,_,_,_,_,_,d,_⟩=>Cy d
theorem uY {f g:Str→Int}:∀ {a:Ps},(∀ p∈a,f p.1=g p.1)→bH a f=bH a g
 | [],_=>rfl
 | p::r,h=>by
  show p.2*f p.1+bH r f=p.2*g p.1+bH r g
  rw [h p (List.mem_cons_self ..),uY fun q hq=>h q (List.mem_cons_of_mem _ hq)]
mutual
theorem vp {f g:Str→Int} {xs:List Str} (e:∀ x∈xs,f x=g x):∀ {c:Cd},dB xs c→c.holds f=c.holds g
 | .cmp a n s b m,h=>by
  unfold dB at h
  unfold Cd.holds
  rw [uY (f:=f) (g:=g) fun p hp=>e _ (h.1 p hp),uY (a:=b) (f:=f) (g:=g) fun p hp=>e _ (h.2 p hp)]
 | .neg c,h=>by
  unfold dB at h
  unfold Cd.holds
  rw [vp e h]
 | .con k cs,h=>by
  unfold dB at h
  unfold Cd.holds
  rw [(qV e h).1,(qV e h).2]
theorem qV {f g:Str→Int} {xs:List Str} (e:∀ x∈xs,f x=g x):∀ {cs:List Cd},cV xs cs→cI f cs=cI g cs∧cH f cs=cH g cs
 | [],_=>⟨by unfold cI;rfl,by unfold cH;rfl⟩
 | c::cs,h=>by
  unfold cV at h
  have i1:=vp e h.1
  have i2:=qV e h.2
  exact ⟨by unfold cI;rw [i1,i2.1],by unfold cH;rw [i1,i2.2]⟩
end
theorem Jd (S:Sb) (t:Str) (q:Ps×Int) (t':Str):look (iy S t q) t'=if t=t' then some q else look S t':=by
 unfold iy
 by_cases h:t∈m5 S
 ·rw [if_pos h]
  induction S with
  | nil=>exact nomatch h
  | cons s r ih =>
   by_cases e:s.1=t
   ·have e1:((s::r).map fun s=>if s.1=t then (s.1,q) else s)=(s.1,q)::r.map fun s=>if s.1=t then (s.1,q) else s:=by rw [List.map_cons,if_pos e]
    rw [e1]
    unfold look
    by_cases z:t=t'
    ·rw [if_pos z,if_pos (e.trans z)]
    ·rw [if_neg z,if_neg (fun y=>z (e.symm.trans y)),if_neg (fun y=>z (e.symm.trans y))]
     by_cases hr:t∈m5 r
     ·rw [ih hr,if_neg z]
     ·congr 1
      have:∀ r:Sb,t ∉ m5 r→(r.map fun s=>if s.1=t then (s.1,q) else s)=r:=fun r=>by
       induction r with
       | nil=>exact fun _=>rfl
       | cons a b ihb =>
        intro hn
        have h1:a.1≠t:=fun y=>hn (by unfold m5;rw [List.map_cons];exact y ▸ List.mem_cons_self ..)
        have h2:t ∉ m5 b:=fun y=>hn (by unfold m5 at y ⊢;rw [List.map_cons];exact List.mem_cons_of_mem _ y)
        rw [List.map_cons,if_neg h1,ihb h2]
      exact this r hr
   ·have e1:((s::r).map fun s=>if s.1=t then (s.1,q) else s)=s::r.map fun s=>if s.1=t then (s.1,q) else s:=by rw [List.map_cons,if_neg e]
    have hr:t∈m5 r:=by
     unfold m5 at h ⊢
     rw [List.map_cons] at h
     rcases List.mem_cons.mp h with y | y
     ·exact absurd y.symm e
     ·exact y
    rw [e1]
    unfold look
    by_cases z:s.1=t'
    ·rw [if_pos z,if_pos z,if_neg (fun y=>e (z.trans y.symm))]
    ·rw [if_neg z,if_neg z]
     exact ih hr
 ·rw [if_neg h,xg]
  by_cases z:t=t'
  ·subst z
   rw [xh h]
  ·cases look S t' <;> simp [z]
theorem MF (S:Sb) (t:Str) (q:Ps×Int) (f:Str→Int) (t':Str):A8 (iy S t q) f t'=if t=t' then q.2+bH q.1 f else A8 S f t':=by
 unfold A8
 rw [Jd]
 by_cases z:t=t'
 ·rw [if_pos z,if_pos z]
 ·rw [if_neg z,if_neg z]
theorem Lh (S:Sb) (t:Str) (q:Ps×Int) (x:Str):x∈m5 (iy S t q)↔x∈m5 S∨x=t:=by
 rw [Eo]
 by_cases h:t∈m5 S
 ·rw [if_pos h]
  exact ⟨.inl,fun y=>y.elim id fun e=>e ▸ h⟩
 ·rw [if_neg h,List.mem_append,List.mem_singleton]
theorem O6 (e:Ps) (t:Str) (n:Int) (x:Str):x∈keys (put e t n)↔x∈keys e∨x=t:=by
 rw [vg]
 by_cases h:t∈keys e
 ·rw [if_pos h]
  exact ⟨.inl,fun y=>y.elim id fun e=>e ▸ h⟩
 ·rw [if_neg h,List.mem_append,List.mem_singleton]
theorem OL:∀ i j:Fin 20,uk i=uk j→i=j:=by decide +kernel
def nF (ns:List Int) (t:Str):Int:=match (List.range 20).find? (fun j=>decide (uk j=t)) with
 | some j=>ns.getD j 0
 | none=>0
theorem LY:∀ j:Fin 20,(List.range 20).find? (fun i=>decide (uk i=uk j))=some j.1:=by decide +kernel
theorem NV {ns:List Int} {j:Nat} (h:j < 20):nF ns (uk j)=ns.getD j 0:=by
 unfold nF
 rw [LY ⟨j,h⟩]
def Rr:Rw→Option Str
 | .any x=>some x
 | .lt x _ _=>some x
 | .hold _=>none
def gY (l:List Rw):List Str:=l.filterMap Rr
theorem ee (l:List Rw) (r:Rw):gY (l++[r])=gY l++(match Rr r with | some x=>[x] | none=>[]):=by
 unfold gY
 rw [List.filterMap_append]
 cases h:Rr r with
 | none=>rw [List.filterMap_cons_none h];rfl
 | some x=>rw [List.filterMap_cons_some h];rfl
def gx (f:Str→Int) (s:Ps×Nat×Bool):Rw→Ps×Nat×Bool
 | .any x=>(put s.1 x (f (uk s.2.1)),s.2.1+1,s.2.2)
 | .lt x a n=>(put s.1 x (n+bH a (get s.1)),s.2.1,s.2.2)
 | .hold c=>(s.1,s.2.1,s.2.2 && c.holds (get s.1))
def gz (f:Str→Int) (l:List Rw):Ps×Nat×Bool:=l.foldl (gx f) ([],0,true)
theorem jT (f:Str→Int) (l:List Rw) (r:Rw):gz f (l++[r])=gx f (gz f l) r:=by
 unfold gz
 rw [List.foldl_append]
 rfl
def cG:List Rw→Nat
 | []=>0
 | .any _::r=>cG r+1
 | .lt ..::r=>cG r
 | .hold _::r=>cG r
theorem cW:∀ a b:List Rw,cG (a++b)=cG a+cG b
 | [],b=>by show cG b=0+cG b;omega
 | .any _::r,b=>by show cG (r++b)+1=cG r+1+cG b;rw [cW r b];omega
 | .lt ..::r,b=>cW r b
 | .hold _::r,b=>cW r b
theorem mK (i:Nat) (l:List Rw):cG (l.take i)≤cG l:=by
 have h:=cW (l.take i) (l.drop i)
 rw [List.take_append_drop] at h
 omega
theorem tH:∀ l:List Rw,cG l≤l.length
 | []=>Nat.le_refl _
 | .any _::r=>Nat.succ_le_succ (tH r)
 | .lt ..::r=>Nat.le_succ_of_le (tH r)
 | .hold _::r=>Nat.le_succ_of_le (tH r)
def ko:List Rw→Nat
 | []=>1
 | .any _::r=>ko r
 | .lt ..::r=>ko r
 | .hold c::r=>c.cz false*ko r
theorem iU:∀ a b:List Rw,ko (a++b)=ko a*ko b
 | [],b=>by show ko b=1*ko b;rw [Nat.one_mul]
 | .any _::r,b=>iU r b
 | .lt ..::r,b=>iU r b
 | .hold c::r,b=>by show c.cz false*ko (r++b)=c.cz false*ko r*ko b;rw [iU r b,Nat.mul_assoc]
def Dh (xs:List Str):Rw→Prop
 | .any _=>True
 | .lt _ a n=>Gs xs a n
 | .hold c=>Ge xs c∧c.full∧c.dep≤3∧c.ff≤8
def oA (l:List Rw):Prop:=∀ i r,l[i]?=some r→Dh (gY (l.take i)) r
theorem yE {l:List Rw} (h:∀ c,Rw.hold c∈l→c.full):1≤ko l:=by
 induction l with
 | nil=>exact Nat.le_refl _
 | cons r t ih =>
  have i2:=ih fun c hc=>h c (List.mem_cons_of_mem _ hc)
  cases r with
  | any x=>exact i2
  | lt x a n=>exact i2
  | hold c =>
   have:=pI false (h c (List.mem_cons_self ..))
   exact Nat.mul_pos this i2
theorem oA.full {l:List Rw} (h:oA l):∀ c,Rw.hold c∈l→c.full:=fun c hc=>by
 obtain ⟨i,hi⟩:=List.getElem?_of_mem hc
 exact (h i _ hi).2.1
theorem Py {l:List Rw} (h:oA l) {i:Nat} {c:Cd} (hi:l[i]?=some (.hold c)):ko (l.take i)*c.cz false≤ko l∧1≤ko (l.take i):=by
 have hf:=h.full
 have e:l=l.take i++(.hold c::l.drop (i+1)):=by
  have il:=(List.getElem?_eq_some_iff.mp hi).1
  conv=>lhs;rw [← List.take_append_drop i l]
  rw [List.drop_eq_getElem_cons il,(List.getElem?_eq_some_iff.mp hi).2]
 have p1:1≤ko (l.take i):=yE fun c hc=>hf c (List.mem_of_mem_take hc)
 have p2:1≤ko (l.drop (i+1)):=yE fun c hc=>hf c (List.mem_of_mem_drop hc)
 have e2:ko l=ko (l.take i)*(c.cz false*ko (l.drop (i+1))):=by
  conv=>lhs;rw [e]
  rw [iU]
  rfl
 rw [e2,← Nat.mul_assoc]
 exact ⟨Nat.le_mul_of_pos_right _ p2,p1⟩
open Classical in
noncomputable def gt (a:Ps):Ps:=if h:∃ b,sJ a b then Classical.choose h else []
theorem TL {a b:Ps} (g:sJ a b):gt a=b:=by
 have h:∃ b,sJ a b:=⟨b,g⟩
 unfold gt
 rw [dif_pos h]
 exact (Classical.choose_spec h).same g fun _=>rfl
open Classical in
noncomputable def Li (S:Sb) (c:Cd):Cd:=if h:∃ d,Pt S c d then Classical.choose h else c
theorem qJ {S:Sb} {c d:Cd} (g:Pt S c d):Li S c=d:=by
 have h:∃ d,Pt S c d:=⟨d,g⟩
 unfold Li
 rw [dif_pos h]
 exact uC (Classical.choose_spec h) g
open Classical in
noncomputable def X6 (c:Cd):Cs:=if h:∃ cs,mO c false cs then Classical.choose h else []
theorem Kc {c:Cd} {cs:Cs} (g:mO c false cs):X6 c=cs:=by
 have h:∃ cs,mO c false cs:=⟨cs,g⟩
 unfold X6
 rw [dif_pos h]
 exact (Classical.choose_spec h).one g
def mP (cs:Cs):Cs:=(cs.filter fun k=>!(k.any mT)).map (·.filter mS)
theorem oE (cs:Cs):(mP cs).length≤cs.length:=by unfold mP;rw [List.length_map];exact List.length_filter_le _ _
noncomputable def E5 (A:Cs) (c:Cd):Option Cs:=if c.cz false≤64∧A.length*(mP (X6 c)).length≤64 then some (bC A (mP (X6 c))) else none
structure Oz where
 S:Sb
 m:Nat
 A:Cs
noncomputable def ow1 (s:Oz):Rw→Option Oz
 | .any x=>some ⟨iy s.S x ([(uk s.m,1)],0),s.m+1,s.A⟩
 | .lt x a n=>some ⟨iy s.S x (gt (ni s.S a),n+i0 s.S a),s.m,s.A⟩
 | .hold c=>(E5 s.A (Li s.S c)).map fun A=>⟨s.S,s.m,A⟩
noncomputable def SK (o:Option Oz) (l:List Rw):Option Oz:=l.foldl (fun o r=>o.bind fun s=>ow1 s r) o
noncomputable def Fx (l:List Rw):Option Oz:=SK (some ⟨[],0,[[]]⟩) l
theorem Aa:∀ l:List Rw,SK none l=none
 | []=>rfl
 | r::t=>Aa t
theorem oY (l:List Rw) (r:Rw):Fx (l++[r])=(Fx l).bind fun s=>ow1 s r:=by
 unfold Fx SK
 rw [List.foldl_append]
 rfl
noncomputable def NS (l:List Rw) (c:Cd):Option Cs:=(Fx l).bind fun s=>E5 s.A (Li s.S c.gi)
theorem z9 {l:List Rw} {c d:Cd} {i:Nat} {s:Oz} (h:Fx (l.take i)=some s) (hi:l[i]?=some (.hold d)) (n:E5 s.A (Li s.S d)=none):NS l c=none:=by
 have e:Fx l=none:=by
  have il:=(List.getElem?_eq_some_iff.mp hi).1
  have e1:l=l.take (i+1)++l.drop (i+1):=(List.take_append_drop _ _).symm
  have e2:Fx l=SK (Fx (l.take (i+1))) (l.drop (i+1)):=by
   conv=>lhs;rw [e1]
   unfold Fx SK
   rw [List.foldl_append]
  have e3:Fx (l.take (i+1))=none:=by
   rw [take_snoc hi,oY,h]
   show (E5 s.A (Li s.S d)).map _=none
   rw [n]
   rfl
  rw [e2,e3,Aa]
 unfold NS
 rw [e]
 rfl
end Hw
namespace Hw
open PySem L2
theorem GW {U:List Str} {S:Sb} {p:Str×Int} (hS:Kv U S) (hp:p.1∈m5 S):∀ q∈tS S p,q.1∈U:=by
 intro q hq
 unfold tS at hq
 obtain ⟨s,lk⟩:=w6 hp
 rw [lk] at hq
 obtain ⟨z,hz,rfl⟩:=List.mem_map.mp hq
 exact hS _ (uW lk) z hz
theorem tR {U:List Str} {S:Sb} (hS:Kv U S) {a:Ps} (ha:∀ p∈a,p.1∈m5 S):∀ q∈ni S a,q.1∈U:=by
 intro q hq
 unfold ni at hq
 obtain ⟨l,hl,hql⟩:=List.mem_flatten.mp hq
 obtain ⟨p,hp,rfl⟩:=List.mem_map.mp hl
 exact GW hS (ha p hp) q hql
theorem vN {U:List Str} {a:Ps} (c:Canon a) (h:∀ p∈a,p.1∈U):a.length≤U.length:=by
 have:=Ae (Kd c) (m:=U) fun t ht=>by
  obtain ⟨p,hp,rfl⟩:=List.mem_map.mp ht
  exact h p hp
 unfold keys at this
 rw [List.length_map] at this
 exact this
mutual
theorem oV {U:List Str} {S:Sb} (hU:U.length≤20) (hS:Kv U S):∀ {c d:Cd},dB (m5 S) c→c.ok→c.full→Pt S c d→d.ok∧d.kC∧d.full∧d.ff=c.ff∧d.dep=c.dep∧dB U d∧∀ o,d.cz o=c.cz o
 | .cmp a n s b m,d,h,ho,hu,p=>by
  unfold Pt at p
  unfold dB at h
  obtain ⟨a1,b1,rfl,x1,y1⟩:=p
  have i1:=oi x1 (tR hS h.1)
  have i2:=oi y1 (tR hS h.2)
  refine ⟨?_,?_,?_,?_,?_,?_,fun o=>?_⟩
  ·unfold Cd.ok at ho ⊢;exact ho
  ·unfold Cd.kC
   have:=vN x1.1 i1
   have:=vN y1.1 i2
   exact ⟨by omega,by omega⟩
  ·unfold Cd.full;trivial
  ·unfold Cd.ff;rfl
  ·unfold Cd.dep;rfl
  ·unfold dB
   exact ⟨i1,i2⟩
  ·unfold Cd.cz;rfl
 | .neg c,d,h,ho,hu,p=>by
  unfold Pt at p
  unfold dB at h
  unfold Cd.ok at ho
  unfold Cd.full at hu
  obtain ⟨d1,rfl,x1⟩:=p
  obtain ⟨a1,a2,a3,a4,a5,a6,a7⟩:=oV hU hS h ho hu x1
  refine ⟨by unfold Cd.ok;exact a1,by unfold Cd.kC;exact a2,by unfold Cd.full;exact a3,by unfold Cd.ff;exact a4,by unfold Cd.dep;omega,by unfold dB;exact a6,fun o=>by unfold Cd.cz;exact a7 _⟩
 | .con k cs,d,h,ho,hu,p=>by
  unfold Pt at p
  unfold dB at h
  unfold Cd.ok at ho
  unfold Cd.full at hu
  obtain ⟨ds,rfl,x1⟩:=p
  obtain ⟨a1,a2,a3,a4,a5,a6,a7⟩:=wV hU hS h ho hu.2 x1
  have l:=ay (cM.mp x1)
  refine ⟨by unfold Cd.ok;exact a1,by unfold Cd.kC;exact a2,by unfold Cd.full;exact ⟨by omega,a3⟩,by unfold Cd.ff;exact a4,by unfold Cd.dep;omega,by unfold dB;exact a6,fun o=>by unfold Cd.cz;rw [(a7 o).1,(a7 o).2]⟩
theorem wV {U:List Str} {S:Sb} (hU:U.length≤20) (hS:Kv U S):∀ {cs ds:List Cd},cV (m5 S) cs→wj cs→bW cs→zl S cs ds→wj ds∧pQ ds∧bW ds∧mZ ds=mZ cs∧jv ds=jv cs∧cV U ds∧∀ o,kj ds o=kj cs o∧kg ds o=kg cs o
 | [],ds,h,ho,hu,p=>by
  unfold zl at p
  subst p
  exact ⟨by unfold wj;trivial,by unfold pQ;trivial,by unfold bW;trivial,rfl,rfl,by unfold cV;trivial,fun _=>⟨rfl,rfl⟩⟩
 | c::cs,ds,h,ho,hu,p=>by
  unfold zl at p
  unfold cV at h
  unfold wj at ho
  unfold bW at hu
  obtain ⟨d,r,rfl,x1,y1⟩:=p
  obtain ⟨a1,a2,a3,a4,a5,a6,a7⟩:=oV hU hS h.1 ho.1 hu.1 x1
  obtain ⟨b1,b2,b3,b4,b5,b6,b7⟩:=wV hU hS h.2 ho.2 hu.2 y1
  exact ⟨by unfold wj;exact ⟨a1,b1⟩,by unfold pQ;exact ⟨a2,b2⟩,by unfold bW;exact ⟨a3,b3⟩,by unfold mZ;omega,by unfold jv;omega,by unfold cV;exact ⟨a6,b6⟩,fun o=>⟨by unfold kj;rw [a7 o,(b7 o).1],by unfold kg;rw [a7 o,(b7 o).2]⟩⟩
end
mutual
theorem Ge.mono {xs ys:List Str} (h:∀ x∈xs,x∈ys):∀ {c:Cd},Ge xs c→Ge ys c
 | .cmp a n s b m,g=>by unfold Ge at g ⊢;exact ⟨⟨g.1.1,g.1.2.1,fun p hp=>h _ (g.1.2.2.1 p hp),g.1.2.2.2⟩,g.2.1,⟨g.2.2.1,g.2.2.2.1,fun p hp=>h _ (g.2.2.2.2.1 p hp),g.2.2.2.2.2⟩⟩
 | .neg c,g=>by unfold Ge at g ⊢;exact Ge.mono h g
 | .con k cs,g=>by unfold Ge at g ⊢;exact ⟨g.1,kB.mono h g.2⟩
theorem kB.mono {xs ys:List Str} (h:∀ x∈xs,x∈ys):∀ {cs:List Cd},kB xs cs→kB ys cs
 | [],_=>by unfold kB;trivial
 | c::cs,g=>by unfold kB at g ⊢;exact ⟨Ge.mono h g.1,kB.mono h g.2⟩
end
mutual
theorem Ge.l3 {xs:List Str}:∀ {c:Cd},Ge xs c→c.l3
 | .cmp a n s b m,g=>by unfold Ge at g;unfold Cd.l3;exact ⟨g.1.2.1,g.2.2.2.1⟩
 | .neg c,g=>by unfold Ge at g;unfold Cd.l3;exact Ge.l3 g
 | .con k cs,g=>by unfold Ge at g;unfold Cd.l3;exact kB.l3 g.2
theorem kB.l3 {xs:List Str}:∀ {cs:List Cd},kB xs cs→Ji cs
 | [],_=>by unfold Ji;trivial
 | c::cs,g=>by unfold kB at g;unfold Ji;exact ⟨Ge.l3 g.1,kB.l3 g.2⟩
end
theorem Dz (f:Str→Int):∀ cs:Cs,dN f (mP cs)=dN f cs
 | []=>rfl
 | k::cs=>by
  have ih:=Dz f cs
  have e0:∀ q:Sm,mT q=true→decide (0≤q.2+bH q.1 f)=false:=fun q h=>by
   unfold mT at h
   obtain ⟨a,n⟩:=q
   cases a with
   | nil=>have:=of_decide_eq_true h;exact decide_eq_false (by show ¬ 0≤n+0;have:n < 0:=this;omega)
   | cons x y=>cases h
  have e1:∀ k:List Sm,k.any mT=true→(k.all fun q=>decide (0≤q.2+bH q.1 f))=false:=fun k=>by
   induction k with
   | nil=>intro h;cases h
   | cons q r ihr =>
    intro h
    rw [List.any_cons] at h
    rw [List.all_cons]
    cases hq:mT q with
    | true=>rw [e0 q hq];rfl
    | false=>rw [hq] at h;rw [ihr h,Bool.and_false]
  have e2:∀ k:List Sm,k.any mT=false→((k.filter mS).all fun q=>decide (0≤q.2+bH q.1 f))=(k.all fun q=>decide (0≤q.2+bH q.1 f)):=fun k=>by
   induction k with
   | nil=>intro _;rfl
   | cons q r ihr =>
    intro h
    rw [List.any_cons] at h
    have h1:mT q=false:=by cases z:mT q with | false=>rfl | true=>rw [z] at h;cases h
    have h2:r.any mT=false:=by rw [h1] at h;exact h
    obtain ⟨a,n⟩:=q
    cases a with
    | nil =>
     have hn:decide (0≤n+bH [] f)=true:=by
      unfold mT at h1
      have:=of_decide_eq_false (show decide (n < 0)=false from h1)
      exact decide_eq_true (by show 0≤n+0;omega)
     rw [List.all_cons,hn,Bool.true_and,← ihr h2]
     rfl
    | cons x y =>
     have:(((x::y,n)::r).filter mS)=(x::y,n)::r.filter mS:=rfl
     rw [this,List.all_cons,List.all_cons,ihr h2]
  cases hk:k.any mT with
  | true =>
   have:mP (k::cs)=mP cs:=by unfold mP;rw [List.filter_cons_of_neg (by rw [hk];decide)]
   rw [this,ih]
   show dN f cs=((k.all fun q=>decide (0≤q.2+bH q.1 f)) || dN f cs)
   rw [e1 k hk,Bool.false_or]
  | false =>
   have:mP (k::cs)=k.filter mS::mP cs:=by unfold mP;rw [List.filter_cons_of_pos (by rw [hk];rfl)];rfl
   rw [this]
   show (((k.filter mS).all fun q=>decide (0≤q.2+bH q.1 f)) || dN f (mP cs))=((k.all fun q=>decide (0≤q.2+bH q.1 f)) || dN f cs)
   rw [e2 k hk,ih]
theorem xV {cs:Cs} {k:List Sm} (h:k∈mP cs):∃ k0∈cs,k=k0.filter mS:=by
 obtain ⟨k0,h0,rfl⟩:=List.mem_map.mp h
 exact ⟨k0,(List.mem_filter.mp h0).1,rfl⟩
theorem O8 {k:List Sm} {q:Sm} (h:q∈k.filter mS):q.1≠[]:=fun e=>by
 have:=(List.mem_filter.mp h).2
 unfold mS at this
 rw [e] at this
 cases this
structure OI (l:List Rw) (s:Oz):Prop where
 run:Fx l=some s
 m:s.m=cG l
 ks:∀ x,x∈m5 s.S↔x∈gY l
 u:∀ e∈s.S,Canon e.2.1∧∀ p∈e.2.1,p.1∈xU s.m
 sem:∀ f,(gz f l).2.1=s.m∧(∀ x,x∈keys (gz f l).1↔x∈gY l)∧(∀ x∈gY l,get (gz f l).1 x=A8 s.S f x)∧(gz f l).2.2=dN f s.A
 len:s.A.length≤ko l
 RA:s.A.length≤64
 wg:∀ k∈s.A,k.length≤16*l.length∧∀ q∈k,q.1≠[]
 sl:s.S.length≤l.length
 ins:∀ k∈s.A,∀ q∈k,∀ p∈q.1,p.1∈xU s.m
theorem OI.nil:OI [] ⟨[],0,[[]]⟩:=⟨rfl,rfl,(fun x=>Iff.rfl),(fun e h=>nomatch h),(fun f=>⟨rfl,(fun x=>Iff.rfl),(fun x h=>nomatch h),rfl⟩),Nat.le_refl _,(by show 1≤64;decide),(fun k hk=>by rw [List.mem_singleton.mp hk];exact ⟨Nat.zero_le _,fun q h=>nomatch h⟩),Nat.le_refl _,(fun k hk q hq=>by rw [List.mem_singleton.mp hk] at hq;exact nomatch hq)⟩
theorem OI.few {l:List Rw} {s:Oz} (h:OI l s) (hm:cG l≤20):KA s.S:=fun e he=>by
 have:=vN (h.u e he).1 (h.u e he).2
 rw [xT] at this
 have:=h.m
 omega
theorem OI.OW {l:List Rw} {s:Oz} (h:OI l s):Kv (xU s.m) s.S:=fun e he=>(h.u e he).2
theorem NH {l:List Rw} {S:Sb} {x:Str} {q:Ps×Int} {r:Rw} (hr:Rr r=some x) (h:∀ y,y∈m5 S↔y∈gY l):∀ y,y∈m5 (iy S x q)↔y∈gY (l++[r]):=fun y=>by
 rw [Lh,ee,hr,List.mem_append,List.mem_singleton,h]
theorem lX {l:List Rw} {e:Ps} {x:Str} {n:Int} {r:Rw} (hr:Rr r=some x) (h:∀ y,y∈keys e↔y∈gY l):∀ y,y∈keys (put e x n)↔y∈gY (l++[r]):=fun y=>by
 rw [O6,ee,hr,List.mem_append,List.mem_singleton,h]
theorem GK {l:List Rw} {S:Sb} {e:Ps} {x:Str} {q:Ps×Int} {n:Int} {f:Str→Int} {r:Rw} (hr:Rr r=some x) (h:∀ y∈gY l,get e y=A8 S f y) (hq:n=q.2+bH q.1 f):∀ y∈gY (l++[r]),get (put e x n) y=A8 (iy S x q) f y:=fun y hy=>by
 rw [DQ,MF]
 by_cases z:x=y
 ·rw [if_pos z,if_pos z,hq]
 ·rw [if_neg z,if_neg z]
  rw [ee,hr,List.mem_append,List.mem_singleton] at hy
  exact h y (hy.elim id fun e=>absurd e.symm z)
theorem OI.any {l:List Rw} {s:Oz} (h:OI l s) (x:Str):OI (l++[.any x]) ⟨iy s.S x ([(uk s.m,1)],0),s.m+1,s.A⟩:=by
 have hn:ko (l++[.any x])=ko l:=by rw [iU];exact Nat.mul_one _
 refine ⟨by rw [oY,h.run];rfl,by rw [cW,← h.m];rfl,NH rfl h.ks,fun e he=>?_,fun f=>?_,by rw [hn];exact h.len,h.RA,fun k hk=>?_,?_,(fun k hk q hq p hp=>Ga (Nat.le_succ _) (h.ins k hk q hq p hp))⟩
 ·rcases zW he with z | z
  ·exact ⟨(h.u e z).1,fun p hp=>Ga (Nat.le_succ _) ((h.u e z).2 p hp)⟩
  ·rw [z]
   refine ⟨⟨.cons (fun _ h=>nomatch h) .nil,fun p hp=>by rw [List.mem_singleton.mp hp];show (1:Int)≠0;decide⟩,fun p hp=>?_⟩
   rw [List.mem_singleton.mp hp]
   exact GP (Nat.lt_succ_self _)
 ·obtain ⟨a1,a2,a3,a4⟩:=h.sem f
  rw [jT]
  refine ⟨by show (gz f l).2.1+1=s.m+1;rw [a1],lX rfl a2,GK rfl a3 ?_,a4⟩
  rw [a1]
  show f (uk s.m)=0+(1*f (uk s.m)+0)
  omega
 ·obtain ⟨b1,b2⟩:=h.wg k hk
  rw [List.length_append]
  exact ⟨by show k.length≤16*(l.length+1);omega,b2⟩
 ·have:=zX s.S x ([(uk s.m,1)],0)
  have:=h.sl
  rw [List.length_append]
  show (iy s.S x ([(uk s.m,1)],0)).length≤l.length+1
  omega
theorem OI.lt {l:List Rw} {s:Oz} (h:OI l s) (x:Str) {a us:Ps} {n:Int} (ha:∀ p∈a,p.1∈gY l) (g:sJ (ni s.S a) us):OI (l++[.lt x a n]) ⟨iy s.S x (us,n+i0 s.S a),s.m,s.A⟩:=by
 have hn:ko (l++[.lt x a n])=ko l:=by rw [iU];exact Nat.mul_one _
 refine ⟨by rw [oY,h.run];show some _=some _;rw [TL g],by rw [cW,← h.m];rfl,NH rfl h.ks,fun e he=>?_,fun f=>?_,by rw [hn];exact h.len,h.RA,fun k hk=>?_,?_,h.ins⟩
 ·rcases zW he with z | z
  ·exact h.u e z
  ·rw [z]
   exact ⟨g.1,oi g (tR h.OW fun p hp=>(h.ks _).mpr (ha p hp))⟩
 ·obtain ⟨a1,a2,a3,a4⟩:=h.sem f
  rw [jT]
  refine ⟨a1,lX rfl a2,GK rfl a3 ?_,a4⟩
  have e1:=sZ s.S f a
  have e2:bH a (get (gz f l).1)=bH a (A8 s.S f):=uY fun p hp=>a3 _ (ha p hp)
  show n+bH a (get (gz f l).1)=n+i0 s.S a+bH us f
  rw [g.2,e2,← e1]
  omega
 ·obtain ⟨b1,b2⟩:=h.wg k hk
  rw [List.length_append]
  exact ⟨by show k.length≤16*(l.length+1);omega,b2⟩
 ·have:=zX s.S x (us,n+i0 s.S a)
  have:=h.sl
  rw [List.length_append]
  show (iy s.S x (us,n+i0 s.S a)).length≤l.length+1
  omega
theorem OI.more {l:List Rw} {s:Oz} (h:OI l s) {d c':Cd} {cs:Cs} (hd:dB (gY l) d) (ok:rq c' cs) (hp:Pt s.S d c') (f:Str→Int):dN f (bC s.A (mP cs))=((gz f l).2.2 && d.holds (get (gz f l).1)):=by
 obtain ⟨a1,a2,a3,a4⟩:=h.sem f
 rw [uU,Dz,ok.met,oW hp,a4,vp (f:=A8 s.S f) (g:=get (gz f l).1) (fun x hx=>(a3 x hx).symm) hd]
theorem zF {A:Cs} {cs:Cs} {n m:Nat} (hA:∀ k∈A,k.length≤n∧∀ q∈k,q.1≠[]) (hc:∀ k∈cs,k.length≤m):∀ k∈bC A (mP cs),k.length≤n+m∧∀ q∈k,q.1≠[]:=fun k hk=>by
 obtain ⟨a,ha,b,hb,rfl⟩:=qg hk
 obtain ⟨b0,hb0,rfl⟩:=xV hb
 have h1:=hA a ha
 have h2:=hc b0 hb0
 have h3:(b0.filter mS).length≤b0.length:=List.length_filter_le _ _
 refine ⟨by rw [List.length_append];have:=h1.1;omega,fun q hq=>?_⟩
 rcases List.mem_append.mp hq with z | z
 ·exact h1.2 q z
 ·exact O8 z
theorem Aw {A cs:Cs} {U:List Str} (hA:∀ k∈A,∀ q∈k,∀ p∈q.1,p.1∈U) (hc:∀ k∈cs,∀ q∈k,∀ p∈q.1,p.1∈U):∀ k∈bC A (mP cs),∀ q∈k,∀ p∈q.1,p.1∈U:=fun k hk q hq=>by
 obtain ⟨a,ha,b,hb,rfl⟩:=qg hk
 obtain ⟨b0,hb0,rfl⟩:=xV hb
 rcases List.mem_append.mp hq with z | z
 ·exact hA a ha q z
 ·exact hc b0 hb0 q (List.mem_filter.mp z).1
theorem AL {A:Cs} {c:Cd} {cs:Cs} (e:mO c false cs) (h1:c.cz false≤64) (h2:A.length*(mP cs).length≤64):E5 A c=some (bC A (mP cs)):=by
 unfold E5
 rw [Kc e,if_pos ⟨h1,h2⟩]
theorem xC {A:Cs} {c:Cd} (h:64 < c.cz false):E5 A c=none:=by
 unfold E5
 rw [if_neg fun z=>by have:=z.1;omega]
theorem xB {A:Cs} {c:Cd} {cs:Cs} (e:mO c false cs) (h:64 < A.length*(mP cs).length):E5 A c=none:=by
 unfold E5
 rw [Kc e,if_neg fun z=>by have:=z.2;omega]
theorem OI.hold {l:List Rw} {s:Oz} (h:OI l s) {c c':Cd} {cs:Cs} (hg:Ge (gY l) c) (mU:c.ff≤8) (hp:Pt s.S c c') (hi:dB (xU s.m) c') (hn:c'.cz false=c.cz false) (hl:c'.ff=c.ff) (ok:rq c' cs) (ce:mO c' false cs) (h1:c'.cz false≤64) (h2:s.A.length*(mP cs).length≤64):OI (l++[.hold c]) ⟨s.S,s.m,bC s.A (mP cs)⟩:=by
 have hN:ko (l++[.hold c])=ko l*c.cz false:=by rw [iU];show ko l*(c.cz false*1)=_;rw [Nat.mul_one]
 have hk:gY (l++[.hold c])=gY l:=by rw [ee];exact List.append_nil _
 refine ⟨?_,by rw [cW,← h.m];rfl,by rw [hk];exact h.ks,h.u,fun f=>?_,?_,by rw [iG];exact h2,fun k hk=>?_,by rw [List.length_append];exact Nat.le_succ_of_le h.sl,Aw h.ins (ok.ins _ hi)⟩
 ·rw [oY,h.run]
  show (E5 s.A (Li s.S c)).map _=some _
  rw [qJ hp,AL ce h1 h2]
  rfl
 ·obtain ⟨a1,a2,a3,a4⟩:=h.sem f
  rw [jT,hk]
  exact ⟨a1,a2,a3,(h.more (Ge.Mn hg) ok hp f).symm⟩
 ·rw [iG,hN,← hn,← ok.len]
  exact Nat.mul_le_mul h.len (oE cs)
 ·have w:=zF (n:=16*l.length) (m:=16) h.wg (fun k hk=>by have:=ok.wg k hk;omega) k hk
  rw [List.length_append]
  exact ⟨by show k.length≤16*(l.length+1);have:=w.1;omega,w.2⟩
def VH (l:List Rw) (c:Cd) (F:Cs):Prop:=F.length≤64∧(∀ k∈F,k.length≤16*l.length+16∧∀ q∈k,q.1≠[])∧(∀ k∈F,∀ q∈k,∀ p∈q.1,p.1∈xU (cG l))∧∀ f,dN f F=((gz f l).2.2 && !c.holds (get (gz f l).1))
def uR (l:List Rw) (c:Cd):Nat:=c.cz true*ko l
end Hw
namespace Hw
open PySem L2
structure RT (K:PySem.W.Frag) (mg:Str→Option Value) (Db:Addr):Prop where
 cd:A5 K Db
 nd:∀ x∈(["kind","at","ahead","condition"]:List Str),eY K Db x
 mgD:mg "Debt"=some (.ref Db)
def RQ (k:Str) (a:Int) (h:V) (c:V):List (Str×V):=gg "condition" c (gg "ahead" h (gg "at" (.int a) (gg "kind" (.str k) [])))
theorem qX (k:Str) (a:Int) (h c:V):(RQ k a h c).lookup ("ahead":Str)=some h:=by
 unfold RQ;rw [aX,if_neg (by decide +kernel),aX,if_pos rfl]
theorem AJ (k:Str) (a:Int) (h c:V):(RQ k a h c).lookup ("condition":Str)=some c:=by
 unfold RQ;rw [aX,if_pos rfl]
def je (Z:Cz) (Db:Addr) (H:Hp) (p:Addr) (rs:List Rw) (c:Cd):Prop:=∃ dx k a h us v,H p=some (.ins Db dx (RQ k a (.ref h) v))∧H h=some (.tup us)∧ow Z H us rs∧aT Z H c v
theorem je.aH {Z:Cz} {Db:Addr} {H H':Hp} {p:Addr} {rs:List Rw} {c:Cd} (h:je Z Db H p rs c) (k:aE H H'):je Z Db H' p rs c :=
 let ⟨dx,k0,a,t,us,v,e,et,r,q⟩:=h;⟨dx,k0,a,t,us,v,k.i _ _ _ _ e,k.t _ _ et,r.aH k,q.aH k⟩
theorem je.same {Z:Cz} {Db:Addr} {H H':Hp} {p:Addr} {rs:List Rw} {c:Cd} (h:je Z Db H p rs c) (k:az H H'):je Z Db H' p rs c:=h.aH (aE.of k)
def fu (H:Hp) (v:V):Rw→Prop
 | .any x=>∃ p,v=.ref p∧H p=some (.tup [.str "any",.str x])
 | .lt x a n=>∃ p q,v=.ref p∧H p=some (.tup [.str "let",.str x,.ref q])∧gj H q a n
 | .hold c=>∃ p q,v=.ref p∧H p=some (.tup [.str "hold",q])∧bf H c q
theorem fu.aH {H H':Hp} {v:V} (k:aE H H'):∀ {r:Rw},fu H v r→fu H' v r
 | .any x,⟨p,e,h⟩=>⟨p,e,k.t _ _ h⟩
 | .lt x a n,⟨p,q,e,h,s⟩=>⟨p,q,e,k.t _ _ h,s.aH k⟩
 | .hold c,⟨p,q,e,h,s⟩=>⟨p,q,e,k.t _ _ h,s.aH k⟩
abbrev gK (H:Hp) (us:List V) (rs:List Rw):Prop:=Paired (fu H) us rs
theorem aN {H H':Hp} {us:List V} {rs:List Rw} (h:gK H us rs) (k:aE H H'):gK H' us rs:=L2.Paired.dh h fun _ _ x=>x.aH k
theorem G8 {xs ys:List Str} (h:∀ x∈xs,x∈ys):∀ {r:Rw},Dh xs r→Dh ys r
 | .any _,_=>trivial
 | .lt _ a n,g=>⟨g.1,g.2.1,fun p hp=>h _ (g.2.2.1 p hp),g.2.2.2⟩
 | .hold c,g=>⟨g.1.mono h,g.2⟩
theorem oA.snoc {l:List Rw} {r:Rw} (h:oA l) (g:Dh (gY l) r):oA (l++[r]):=fun i x hi=>by
 by_cases e:i < l.length
 ·rw [List.getElem?_append_left e] at hi
  rw [List.take_append_of_le_length (Nat.le_of_lt e)]
  exact h i x hi
 ·have il:=(List.getElem?_eq_some_iff.mp hi).1
  rw [List.length_append] at il
  have il:i < l.length+1:=il
  have e2:i=l.length:=by omega
  subst e2
  rw [List.getElem?_append_right (Nat.le_refl _),Nat.sub_self] at hi
  rw [List.take_append_of_le_length (Nat.le_refl _),List.take_length,← Option.some.inj hi]
  exact g
theorem oA.nil:oA []:=fun i r h=>by simp at h
theorem oA.behind {x:Str}:∀ {n:Nat} {l:List Rw},oA l→oA (List.replicate n (.any x)++l)
 | 0,l,h=>h
 | n+1,l,h=>fun i r hi=>by
  have ih:=oA.behind (x:=x) (n:=n) h
  cases i with
  | zero =>
   have e:Rw.any x=r:=Option.some.inj hi
   rw [← e]
   trivial
  | succ j =>
   have hj:(List.replicate n (Rw.any x)++l)[j]?=some r:=hi
   refine G8 (fun y hy=>?_) (ih j r hj)
   show y∈gY (Rw.any x::(List.replicate n (Rw.any x)++l).take j)
   exact List.mem_cons_of_mem _ hy
theorem BY {x:Str} {n:Nat} {l:List Rw}:∀ y∈gY l,y∈gY (List.replicate n (.any x)++l):=fun y hy=>by
 unfold gY at hy ⊢
 rw [List.filterMap_append,List.mem_append]
 exact .inr hy
def Bw (C:Addr):Sp:=fun vs H Q _=>∃ x:Str,vs=[.str x]∧∀ (r:Addr) (H':Hp),az H H'→bO C H' r [(x,1)] 0→Q (.ref r) H'
def GY:Sp:=fun vs H Q _=>∃ n0:Nat,vs=[.int (n0:Int)]∧n0 < 20∧Q (.str (uk n0)) H
theorem GO:∀ j:Fin 20,((j.1:Int).natAbs.log2) < 1920:=by decide +kernel
theorem NI:∀ j:Fin 20,("?":Str).length+(Str.ofString (toString (j.1:Int))).length≤1000:=by decide +kernel
def nj (C:Addr):Sp:=fun vs H Q _=>∃ (t:Addr) (us:List V) (ss:List Sm),vs=[.ref t]∧H t=some (.tup us)∧Om C H us ss∧us.length≤20∧∀ H',az H H'→Q (.bl (ss.any mT)) H'
def qz (C:Addr):Sp:=fun vs H Q _=>∃ (t:Addr) (us:List V) (ss:List Sm),vs=[.ref t]∧H t=some (.tup us)∧Om C H us ss∧us.length≤20∧∀ (r:Addr) (ws:List V) (H':Hp),az H H'→H' r=some (.tup ws)→Om C H' ws (ss.filter mS)→Q (.ref r) H'
def GZ (Db:Addr):Sp:=fun vs H Q _=>∃ (p dx:Addr) (k:Str) (a:Int) (h c:V),vs=[.ref p,.str k,.int a,h,c]∧H p=some (.ins Db dx [])∧∀ H',bI p H H'→H' p=some (.ins Db dx (RQ k a h c))→Q .eX H'
def xY (Z:Cz) (TM:Addr):Sp:=fun vs H Q E=>∃ (o p:Addr) (A:Cs) (c:Cd),vs=[.ref o,.ref p]∧cQ Z H o A∧A.length≤64∧(∀ k∈A,k.length≤900)∧aT Z H c (.ref p)∧c.dep≤3∧c.ok∧c.kC∧c.full∧c.ff≤8 ∧
 (∀ (r:Addr) (cs:Cs) (H':Hp),c.cz false≤64→rq c cs→mO c false cs→A.length*(mP cs).length≤64→az H H'→H r=none→cQ Z H' r (bC A (mP cs))→Q (.ref r) H') ∧
 (∀ H',64 < c.cz false→az H H'→E (.ref TM) none H')∧(∀ (cs:Cs) (H':Hp),rq c cs→mO c false cs→64 < A.length*(mP cs).length→az H H'→E (.ref TM) none H')
def yc (Z:Cz) (Db TM:Addr):Sp:=fun vs H Q E=>∃ (p:Addr) (rs:List Rw) (c:Cd),vs=[.ref p]∧je Z Db H p rs c∧oA rs∧rs.length≤30∧cG rs≤19∧Dh (gY rs) (.hold c) ∧
 (∀ (F:Cs),NS rs c=some F→VH rs c F→∀ (r:Addr) (H':Hp),az H H'→H r=none→cQ Z H' r F→Q (.ref r) H')∧(NS rs c=none→64 < uR rs c→∀ H',az H H'→E (.ref TM) none H')
def tW:Sp:=fun vs H Q _=>∃ (d l:Addr) (xs:List Str),vs=[.ref d,.ref l]∧Dr H d∧H l=some (.lst (xs.map V.str))∧xs.length≤100∧(∀ x∈xs,x.length≤100) ∧
 ∀ (r:Addr) (ts:Ps) (n:Int) (H':Hp),bI d H H'→Dr H' d→gj H' r ts n→Canon ts→RW ts→(∀ p∈ts,p.1∈xs)→Small n→Q (.ref r) H'
def jA (n:Nat):Sp:=fun vs H Q _=>∃ (d l:Addr) (k:Nat) (xs:List Str),vs=[.ref d,.ref l,.int k]∧k < n∧Dr H d∧H l=some (.lst (xs.map V.str))∧xs.length≤100∧(∀ x∈xs,x.length≤100) ∧
 ∀ (v:V) (c:Cd) (H':Hp),bI d H H'→Dr H' d→bf H' c v→c.dep≤k+1→Gd xs c→c.full→c.ff≤ED k→Q v H'
theorem OZ:∀ vs H Q E,¬ jA 0 vs H Q E:=fun _ _ _ _ ⟨_,_,_,_,_,h,_⟩=>absurd h (by omega)
def uc:Sp:=fun vs H Q _=>∃ (d l:Addr) (xs:List Str),vs=[.ref d,.ref l]∧Dr H d∧H l=some (.lst (xs.map V.str))∧1≤xs.length∧xs.length≤90∧(∀ x∈xs,x.length≤100) ∧
 ∀ (r rw kn:Addr) (us:List V) (rs:List Rw) (ks:List Str) (H':Hp),bI d H H'→Dr H' d→H r=none→H' r=some (.tup [.ref rw,.ref kn])→H rw=none→H kn=none→H' rw=some (.lst us)→gK H' us rs→oA rs→rs.length≤7→H' kn=some (.lst (ks.map V.str))→1≤ks.length→ks.length≤7→(∀ x∈ks,x∈gY rs∧x.length≤100)→Q (.ref r) H'
def t9:Sp:=fun vs H Q _=>∃ (a b:Addr) (us:List V) (rs:List Rw) (ns:List Int),vs=[.ref a,.ref b]∧H a=some (.lst us)∧gK H us rs∧oA rs∧rs.length≤30∧H b=some (.lst (ns.map V.int))∧ns.length=cG rs∧cG rs≤19 ∧
 ((gz (nF ns) rs).2.2=true→∀ (dd:Addr) (H':Hp),az H H'→H' dd=some (.dK (enc (gz (nF ns) rs).1))→Q (.ref dd) H')∧((gz (nF ns) rs).2.2=false→∀ H',az H H'→Q .eX H')
def yh (Z:Cz) (Db:Addr):Sp:=fun vs H Q _=>∃ (a:Addr) (us:List V) (rs:List Rw) (v:V) (c:Cd),vs=[.ref a,v]∧H a=some (.lst us)∧gK H us rs∧oA rs∧rs.length≤30∧bf H c v∧Dh (gY rs) (.hold c) ∧
 ∀ (r:Addr) (H':Hp),az H H'→H r=none→je Z Db H' r rs c→Q (.ref r) H'
def yg (Z:Cz):Sp:=fun vs H Q _=>∃ (l b:Addr) (F:Cs) (ns:List Int),vs=[.ref l,.ref b]∧cQ Z H l F∧F.length≤64∧(∀ k∈F,k.length≤900)∧(∀ k∈F,∀ q∈k,∀ p∈q.1,p.1∈xU ns.length)∧H b=some (.lst (ns.map V.int))∧ns.length≤19∧(∀ n∈ns,Small n) ∧
 ∀ H',az H H'→Q (.bl (dN (nF ns) F)) H'
def ji (n:Nat):Sp:=fun vs H Q _=>∃ (v:V) (c:Cd) (xs:List Str) (o:Bool),vs=[v,.bl o]∧bf H c v∧c.dep≤n∧Ge xs c∧c.full∧c.ff≤8∧∀ H',az H H'→Q (.int (c.cz o:Int)) H'
theorem Mc:∀ vs H Q E,¬ ji 0 vs H Q E:=fun _ _ _ _ ⟨_,_,_,_,_,_,d,_⟩=>Cy d
def yf:Sp:=fun vs H Q _=>∃ (a:Addr) (us:List V) (rs:List Rw) (v:V) (c:Cd),vs=[.ref a,v]∧H a=some (.lst us)∧gK H us rs∧oA rs∧rs.length≤30∧bf H c v∧Dh (gY rs) (.hold c)∧∀ H',az H H'→Q (.int (uR rs c:Int)) H'
def qA (Z:Cz) (Db:Addr):Sp:=fun vs H Q _=>∃ (p a d:Addr) (us:List V) (rs:List Rw) (v:V) (c:Cd),vs=[.ref p,.ref a,v,.ref d]∧je Z Db H p rs c∧H a=some (.lst us)∧a≠d∧gK H us rs∧oA rs∧rs.length≤20∧cG rs≤19∧bf H c v∧Dh (gY rs) (.hold c)∧Dr H d ∧
 ∀ H',bI d H H'→Dr H' d→Q (.bl true) H'
end Hw
namespace Hw
open PySem L2
theorem GR (l:Cs) (k:List Sm):mP (l++[k])=mP l++(if k.any mT=true then [] else [k.filter mS]):=by
 unfold mP
 rw [List.filter_append,List.map_append]
 congr 1
 cases h:k.any mT with
 | true=>rw [List.filter_cons_of_neg (by rw [h];decide)];rfl
 | false=>rw [List.filter_cons_of_pos (by rw [h];rfl)];rfl
theorem OI.fin {l:List Rw} {s:Oz} (h:OI l s) {c c':Cd} {cs:Cs} (hr:oA l) (hc:Dh (gY l) (.hold c)) (hp:Pt s.S c.gi c') (hi:dB (xU s.m) c') (hl:c'.ff=c.gi.ff) (ok:rq c' cs) (ce:mO c' false cs) (h1:c'.cz false≤64) (h2:s.A.length*(mP cs).length≤64):NS l c=some (bC s.A (mP cs))∧VH l c (bC s.A (mP cs)):=by
 have hok:c.ok:=Ge.ok hc.1
 obtain ⟨a1,a2,a3,a4,a5,a6⟩:=oZ hok (Ge.kC hc.1) hc.2.1
 refine ⟨?_,by rw [iG];exact h2,fun k hk=>?_,?_,fun f=>?_⟩
 ·unfold NS
  rw [h.run]
  show E5 s.A (Li s.S c.gi)=_
  rw [qJ hp,AL ce h1 h2]
 ·have w:=zF (n:=16*l.length) (m:=16) h.wg (fun k hk=>by have:=ok.wg k hk;have:=hc.2.2.2;omega) k hk
  exact w
 ·rw [← h.m]
  exact Aw h.ins (ok.ins _ hi)
 ·rw [h.more (a6 _ (Ge.Mn hc.1)) ok hp f,qL _ hok]
theorem OI.raise {l:List Rw} {s:Oz} {i:Nat} {d c:Cd} (h:OI (l.take i) s) (hr:oA l) (hc:Dh (gY l) (.hold c)) (hi:l[i]?=some (.hold d)) (hb:64 < d.cz false∨64 < s.A.length*d.cz false):64 < uR l c:=by
 have n1:=Py hr hi
 have n2:=pI true hc.2.1
 have n3:=h.len
 have n4:64 < ko l:=by
  rcases hb with z | z
  ·have:=Nat.le_mul_of_pos_left (d.cz false) n1.2
   omega
  ·have:=Nat.mul_le_mul_right (d.cz false) n3
   omega
 unfold uR
 have:=Nat.le_mul_of_pos_left (ko l) n2
 omega
theorem OI.Hg {l:List Rw} {s:Oz} {c:Cd} (h:OI l s) (hr:oA l) (hc:Dh (gY l) (.hold c)) (hb:64 < c.cz true∨64 < s.A.length*c.cz true):64 < uR l c:=by
 have n2:=pI true hc.2.1
 have n3:=h.len
 have n5:=yE hr.full
 unfold uR
 rcases hb with z | z
 ·have:=Nat.le_mul_of_pos_right (c.cz true) n5
  omega
 ·have:=Nat.mul_le_mul_right (c.cz true) n3
  rw [Nat.mul_comm] at this
  rw [Nat.mul_comm (ko l)] at this
  rw [Nat.mul_comm] at z
  omega
theorem wW {l:List Rw} {s:Oz} {c:Cd} (h:Fx l=some s) (n:E5 s.A (Li s.S c.gi)=none):NS l c=none:=by
 unfold NS
 rw [h]
 exact n
end Hw
namespace Hw
open PySem L2
mutual
theorem HU:∀ {c:Cd},c.l3→c.gi.l3
 | .cmp a n s b m,h=>by unfold Cd.gi;unfold Cd.l3 at h ⊢;exact h
 | .neg c,h=>by unfold Cd.gi;unfold Cd.l3 at h;exact h
 | .con k cs,h=>by unfold Cd.gi;unfold Cd.l3 at h ⊢;exact Dp h
theorem Dp:∀ {cs:List Cd},Ji cs→Ji (fj cs)
 | [],_=>by unfold fj;unfold Ji;trivial
 | c::cs,h=>by unfold fj;unfold Ji at h ⊢;exact ⟨HU h.1,Dp h.2⟩
end
end Hw
namespace Hw
open PySem L2
theorem pW (f:Str→Int):∀ (l:List Rw) (s:Ps×Nat×Bool),s.2.2=false→(l.foldl (gx f) s).2.2=false
 | [],s,h=>h
 | .any x::l,s,h=>pW f l _ h
 | .lt x a n::l,s,h=>pW f l _ h
 | .hold c::l,s,h=>pW f l _ (by show (s.2.2 && _)=false;rw [h];rfl)
theorem JK {f:Str→Int} {l:List Rw} {i:Nat} (h:(gz f (l.take i)).2.2=false):(gz f l).2.2=false:=by
 have e:gz f l=(l.drop i).foldl (gx f) (gz f (l.take i)):=by
  unfold gz
  rw [← List.foldl_append,List.take_append_drop]
 rw [e]
 exact pW f _ _ h
def vz (ns:List Int) (i:Nat):Ps:=(List.range i).map fun j=>(uk j,ns.getD j 0)
theorem OH (ns:List Int) (i:Nat):(vz ns i).length=i:=by unfold vz;rw [List.length_map,List.length_range]
theorem C5 (ns:List Int) (i:Nat):keys (vz ns i)=xU i:=by
 unfold keys vz xU
 rw [List.map_map]
 rfl
theorem C4 (ns:List Int) {i:Nat} (h:i < 20):put (vz ns i) (uk i) (ns.getD i 0)=vz ns (i+1):=by
 have hn:uk i ∉ keys (vz ns i):=fun z=>by
  rw [C5] at z
  obtain ⟨j,hj,e⟩:=List.mem_map.mp z
  have hj:=List.mem_range.mp hj
  have:=OL ⟨j,by omega⟩ ⟨i,h⟩ e
  have:j=i:=congrArg Fin.val this
  omega
 unfold put
 rw [if_neg (fun z=>hn ((j4 _ _).mp z))]
 unfold vz
 rw [List.range_succ,List.map_append]
 rfl
theorem GL (ns:List Int):∀ {m:Nat},m≤20→∀ t∈xU m,get (vz ns m) t=nF ns t
 | 0,_,t,h=>by cases h
 | m+1,hm,t,h=>by
  rw [← C4 ns (by omega),DQ]
  by_cases e:uk m=t
  ·rw [if_pos e,← e,NV (by omega)]
  ·rw [if_neg e]
   refine GL ns (by omega) t ?_
   obtain ⟨j,hj,rfl⟩:=List.mem_map.mp h
   have hj:=List.mem_range.mp hj
   exact GP (by
    have:j≠m:=fun z=>e (by rw [z])
    omega)
theorem OJ {ns:List Int} (h:∀ n∈ns,Small n):∀ (m:Nat) (t:Str),-(2 ^ 64) < get (vz ns m) t∧get (vz ns m) t < 2 ^ 64:=fun m t=>by
 by_cases hk:t∈keys (vz ns m)
 ·have:∀ (e:Ps),(∀ p∈e,-(2 ^ 64) < p.2∧p.2 < 2 ^ 64)→-(2 ^ 64) < get e t∧get e t < 2 ^ 64:=fun e=>by
   induction e with
   | nil=>intro _;show -(2 ^ 64) < (0:Int)∧(0:Int) < 2 ^ 64;exact ⟨by decide,by decide⟩
   | cons p r ih =>
    intro hp
    rw [cU]
    by_cases z:p.1=t
    ·rw [if_pos z];exact hp p (List.mem_cons_self ..)
    ·rw [if_neg z];exact ih fun q hq=>hp q (List.mem_cons_of_mem _ hq)
  refine this _ fun p hp=>?_
  obtain ⟨j,hj,rfl⟩:=List.mem_map.mp hp
  show -(2 ^ 64) < ns.getD j 0∧ns.getD j 0 < 2 ^ 64
  rw [List.getD_eq_getElem?_getD]
  cases hg:ns[j]? with
  | none=>exact ⟨by decide,by decide⟩
  | some n =>
   have:=(h n (List.mem_of_getElem? hg)).w
   exact this
 ·rw [vq hk]
  exact ⟨by decide,by decide⟩
theorem I8 {f g:Str→Int} {xs:List Str} (e:∀ t∈xs,f t=g t):∀ {F:Cs},(∀ k∈F,∀ q∈k,∀ p∈q.1,p.1∈xs)→dN f F=dN g F
 | [],_=>rfl
 | k::F,h=>by
  have ih:=I8 e (F:=F) fun k hk=>h k (List.mem_cons_of_mem _ hk)
  show ((k.all fun q=>decide (0≤q.2+bH q.1 f)) || dN f F)=((k.all fun q=>decide (0≤q.2+bH q.1 g)) || dN g F)
  rw [ih]
  congr 1
  have:∀ k:List Sm,(∀ q∈k,∀ p∈q.1,p.1∈xs)→(k.all fun q=>decide (0≤q.2+bH q.1 f))=(k.all fun q=>decide (0≤q.2+bH q.1 g)):=fun k=>by
   induction k with
   | nil=>intro _;rfl
   | cons q r ihr =>
    intro hq
    rw [List.all_cons,List.all_cons,ihr fun z hz=>hq z (List.mem_cons_of_mem _ hz),uY (f:=f) (g:=g) fun p hp=>e _ (hq q (List.mem_cons_self ..) p hp)]
  exact this k (h k (List.mem_cons_self ..))
theorem uQ (l:List Rw) (r:Rw):ko (l++[r])=ko l*(match r with | .hold c=>c.cz false | _=>1):=by
 rw [iU]
 cases r with
 | any x=>rfl
 | lt x a n=>rfl
 | hold c=>show ko l*(c.cz false*1)=_;rw [Nat.mul_one]
theorem yM {c:Cd}:∀ {cs:List Cd},c∈cs→c.ff≤mZ cs
 | a::r,h=>by
  unfold mZ
  rcases List.mem_cons.mp h with e | e
  ·rw [e];omega
  ·have:=yM e;omega
theorem Du {c:Cd} (o:Bool) (hf:c.full) (hl:c.ff≤8):c.cz o≤256:=Nat.le_trans (BO o hf) (Nat.le_trans (Nat.pow_le_pow_right (by decide) hl) (by decide))
theorem Dv (o:Bool):∀ cs:List Cd,(cs.map fun c=>(c.cz o:Int)).sum=(kg cs o:Int)
 | []=>rfl
 | c::cs=>by
  rw [List.map_cons,List.sum_cons,Dv o cs]
  show (c.cz o:Int)+(kg cs o:Int)=((c.cz o+kg cs o:Nat):Int)
  omega
end Hw
namespace Hw
open PySem L2
theorem bI.was {d p:Addr} {H H':Hp} (b:bI d H H') (D:Dr H' d) (h:H' p=none):H p=none:=by
 cases hp:H p with
 | none=>rfl
 | some o =>
  by_cases e:p=d
  ·obtain ⟨x,y,q⟩:=D
   rw [e,q] at h
   cases h
  ·rw [b _ _ hp e] at h
   cases h
def ku (ks:List Str) (x:Str):List Str:=if x∈ks then ks else ks++[x]
theorem qm (ks:List Str) (x:Str):(ku ks x).length≤ks.length+1:=by
 unfold ku
 by_cases h:x∈ks
 ·rw [if_pos h];omega
 ·rw [if_neg h,List.length_append];exact Nat.le_refl _
theorem ql (ks:List Str) (x:Str):1≤(ku ks x).length:=by
 unfold ku
 by_cases h:x∈ks
 ·rw [if_pos h];exact List.length_pos_of_mem h
 ·rw [if_neg h,List.length_append];exact Nat.le_add_left _ _
theorem gJ {ks:List Str} {x y:Str} (h:y∈ku ks x):y∈ks∨y=x:=by
 unfold ku at h
 by_cases z:x∈ks
 ·rw [if_pos z] at h;exact .inl h
 ·rw [if_neg z,List.mem_append,List.mem_singleton] at h;exact h
end Hw
namespace L2
open PySem PySem.Spec PyProof.Rows
def CQ (CX:Ba) (X:Cx) (E:XK) (σ:St):Prop:=∀ (pins:List (Addr×Obj)) (H:Hp) (s:Shared) (e:Value) (s':Shared),Inv X pins σ H s→CX X.stack H s E e s'→X.xe e s'
section
variable {X:Cx} {CX:Ba} {k:Nat} {f C:Addr} {fd:FuncData} {ps:List Str} {sp:Sp} {kr:List V} {ds:List Value} {x m:Str} {p pos apos:Pos} {e o:Expr} {es:List Expr} {ta:TE} {t:TA}
theorem Lc {E:XK} {pins:List (Addr×Obj)} {σ:St} {H:Hp} {s:Shared} {Q:VK} {us:List Value} {vs:List V} (F:bu X.prog X.w X.K X.mg X.base CX k f fd ps sp) (hr:dj k X.A) (hb:Binds X.K fd ps ds) (hd:Vals kr ds) (hx:CQ CX X E σ)
  (I:Inv X pins σ H s) (r:Vals vs us) (h:sp (vs++kr) H Q E):wpAny (model X.prog X.w) X.A (call (.ref f) us) (EP X pins σ Q) X.xe s:=by
 have r2:Vals (vs++kr) (us++ds):=r.append hd
 have hl:(us++ds).length=ps.length:=by rw [← r2.length];exact F.len _ _ _ _ h
 refine wpAny_call (codeAny_mono (F.run X.A X.stack s H ⟨us,[]⟩ (us++ds) (vs++kr) Q E hr I.J0 (hb s us I.iX hl) r2 h) fun r s' hq=>?_)
 cases r with
 | error e=>exact hx pins H s e s' I hq
 | ok fl =>
  cases fl with
  | ret u=>exact I.after hq
  | next=>exact False.elim hq
  | brk=>exact False.elim hq
  | cont=>exact False.elim hq
def OR (sp:Sp) (kr:List V) (E:St→XK) (t:TA):TE:=fun σ H Q=>t σ H fun vs H1=>sp (vs++kr) H1 Q (E σ)
theorem HQ {E:St→XK} (F:bu X.prog X.w X.K X.mg X.base CX k f fd ps sp) (hr:dj k X.A) (hg:Gl X x) (hm:X.mg x=some (.ref f)) (hk:PySem.W.keepIn X.K (.ref f)=true) (hb:Binds X.K fd ps ds) (hd:Vals kr ds) (hx:∀ σ,CQ CX X (E σ) σ)
  (ha:PA X (e::es) t) (hdb:(x == ("__debug__":Str))=false:=by decide) (he:starEach (e::es) X.env=(false,eval e X.env)::starEach es X.env:=by rfl) (hpl:(backTo pos (starEach es X.env)).any (·.1)=false:=by rfl) :
  PE X (.Call (.Name x p) (e::es) [] pos) (OR sp kr E t):=by
 intro pins s σ H Q I h
 refine wpAny_Call_Name_kw (gB I hg hm ?_ hdb)
 refine PySem.W.callWith_K (h₀:=X.base) I.ok.mod.jb hk (cy (ha pos pins s σ H _ I h) fun us s1 ⟨vs,H1,I1,r,q⟩=>⟨I1.iX,?_⟩) he hpl
 exact Lc F hr hb hd (hx σ) I1 r q
end
section
variable {X:Cx} {C W fI fW:Addr} {bm dS:List Value} {xc n:Str} {i:Nat} {np hpos pos:Pos} {body:List Stmt} {b₀:Stmt} {suite:List Stmt} {tb:(St→XK)→TS} {ts:Addr→TS}
def NO (X:Cx) (ts:Addr→TS) (D:Ends):St→XK:=fun σ' _ _ H2=>∀ a:Addr,σ'.length=X.N.length→H2 a=none→ts a { D with nx:=fun _ _=>False,bk:=fun _ _=>False,ct:=fun _ _=>False } σ' H2
theorem Lj (Mq:X.stack=X.env::X.outer) (hf:X.env.frame=some X.env.locals) (XC:Fi X.K C fI bm) (XW:Fi X.K W fW dS) (hin:(Value.ref C::bm).contains (.ref W)=true) (hg:Gl X xc) (hm:X.mg xc=some (.ref W))
  (hb:∀ (pn:List (Addr×Obj)) (xe:Value→Shared→Prop) (E:St→XK),(∀ σ,CQ (zy X.prog X.w C) (X.tr pn xe) (E σ) σ)→xO (X.tr pn xe) body (tb E))
  (hs:∀ (a:Addr) (oe:Obj) (pn:List (Addr×Obj)),oe.cls=.ref C→(∃ vs,oe.data=.fields vs∧vs[2]?=some .none)→oe.dict=none→xO (X.suite a ((a,oe)::pn)) (b₀::suite) (ts a)) (hdb:(xc == ("__debug__":Str))=false:=by decide) :
  PS X (.Try body [.ExceptHandler (some (.Name xc np)) none (b₀::suite) hpos] [] [] pos) (fun D σ H=>tb (NO X ts D) D σ H):=by
 intro pins s σ H D I h
 refine wpAny_Try_except (wpAny_mono (hb (X.pn++pins) _ (NO X ts D) ?pass [] s σ H D (Tj I fun p hp=>by rw [List.append_nil] at hp;exact hp) h) (fun f s1 q=>?_) fun e s1 z=>z)
 case pass =>
  rintro σ' jj H1 s1 e s' I1 ⟨a,H2,rfl,hE,os,bare,un,ok,fl⟩
  have I1:Inv X pins σ' H1 s1:=vn I1 fun p hp=>List.mem_append_left _ hp
  obtain ⟨oe,vs,T,oT,ts',ha,hc,hd,h1,hT,B0,h3,ne,nT,fT⟩:=fl.Mx
  have un:Un (frs X.stack) [] H1 H2 s1.heap s'.heap:=un
  have sk:∀ b∈frs X.stack,H1 b=none:=I1.lY
  have N7:s1.heap.FunFrames X.base X.stack:=I1.stack
  have fl2:s'.heap.FunFrames X.base (X.env::X.outer):=Mq ▸ yV (fun _ z=>z) sk un N7
  have fr1:∀ b∈frs X.stack,b < s1.heap.objs.size:=fun b hb=>by
   obtain ⟨_,o,ho,_⟩:=N7.mem hb
   exact Heap.lt_size ho
  have JN:∀ b,b∈frs X.stack→H2 b=none:=fun b hb=>by
   obtain ⟨_,o,ho,_⟩:=N7.mem hb
   exact un.free b o ho (sk b hb) (by simp)
  have new:=fl.new
  have V4:=Heap.lt_size ha
  have szs:s1.heap.objs.size≤s'.heap.objs.size:=Nat.le_trans new (Nat.le_of_lt V4)
  have hfr:X.A.frames=some (X.env::X.outer):=Mq ▸ I1.ok.frames
  refine IE hfr fl2 hf ha hc hd h1 hT B0 h3 ne fun h3' m=>?_
  have m:j7 (frs X.stack) a (some T) C s'.heap h3':=by rw [Mq];exact m
  have inv:∀ (h':Heap) (g:Array GenState) (d:Drawn) (t:Nat),AllBare g→j7 (frs X.stack) a (some T) C s'.heap h'→Inv X pins σ' H2 ⟨h',g,d,t,s1.os⟩:=fun h' g d t hb m=>by
   have nb:∀ b u,s1.heap.get? b=some u→b≠a∧(some T:Option Addr)≠some b:=fun b u q=>⟨fun z=>absurd (Heap.lt_size q) (by rw [z];exact Nat.not_lt.mpr new),fun z=>absurd (Heap.lt_size q) (by cases z;exact Nat.not_lt.mpr nT)⟩
   have un3:Un (frs X.stack) [] H1 H2 s1.heap h':=⟨fun b u q n nf nx=>m.keep b u (un.keep b u q n nf nx) nf (nb b u q).1 (nb b u q).2,fun b u q n inf nx=>by
     obtain ⟨sl,e1⟩:=un.slot b u q n inf nx
     obtain ⟨sl2,e2⟩:=m.slot b _ e1 inf
     exact ⟨sl2,e2⟩,un.free,fun b u q nx=>by
     obtain ⟨o1,e1⟩:=un.there b u q nx
     by_cases hb:b∈frs X.stack
     ·obtain ⟨sl,e2⟩:=m.slot b o1 e1 hb
      exact ⟨_,e2⟩
     ·exact ⟨o1,m.keep b o1 e1 hb (nb b u q).1 (nb b u q).2⟩,un.tups,un.oj,un.oG⟩
   exact I1.Kg (s':=⟨h',g,d,t,s1.os⟩) (ch:=[]) rfl un3 (ok.Js fun b u hb q=>m.keep b u q (fun z=>hb (JN b z)) (fun z=>hb (z ▸ fl.free)) (fun z=>hb (by cases z;exact fT))) hb (fun b z=>absurd z (by simp))
  obtain ⟨RC,g',d',t',os'⟩:=s'
  obtain rfl:os'=s1.os:=os
  have I3:=inv h3' g' d' t' bare m
  obtain ⟨oe3,vs3,T3,oT3,ts3,x1,x2,x3,x4,x5,x6,x7,x8,x9⟩:=m.Mx
  have al:a≠X.env.locals:=fun z=>absurd (Nat.lt_of_lt_of_le (z ▸ I1.lt) new) (Nat.lt_irrefl _)
  have af:a ∉ X.fs:=fun z=>absurd (Nat.lt_of_lt_of_le (fr1 a (by rw [Mq];exact List.mem_cons_of_mem _ z |> fun w=>by unfold frs;rw [List.filterMap_cons,hf];exact w)) new) (Nat.lt_irrefl _)
  have IS:=NY (a:=a) I3 x1 fl.free al af (fun v z=>by rw [x3] at z;cases z)
  obtain ⟨nm,q,N,bs,hdct,sn,sub,ab,col,dd,k0,k1,k2,k3,k5,lkC,_,_⟩:=XC.ob
  obtain ⟨nm',q',N',bs',N4,sn',sub',ab',col',QK,j0,j1,j2,j3,j5,lkW,_,_⟩:=XW.ob
  refine wpAny_handleBy_cons (codeAny_handlers_test (gB (X:=X.suite a _) IS hg hm ?_ hdb)) (by intro q;cases q)
  refine PD (I3.iX _ _ lkC) (I3.iX _ _ lkW) x1 x2.1 XW.b hin ?_
  refine codeAny_handlers_suite ?_
  refine My (fr:=frs X.stack) m (fun b hb=>Nat.lt_of_lt_of_le (fr1 b hb) szs) (fun b e=>by cases e;exact Heap.lt_size hT) V4 fun h4 m4 Th=>?_
  have I4:=inv h4 g' d' t' bare m4
  have IS4:=NY (a:=a) I4 (Th _ x1) fl.free al af (fun v z=>by rw [x3] at z;cases z)
  refine wpAny_mono (hs a oe3 (X.pn++pins) x2.1 ⟨vs3,x3,x2.2.2 _ x3⟩ x2.2.1 [] _ _ H2 _ IS4 (hE a I1.len fl.free)) (fun f s6 q6=>?_) fun _ _ z=>False.elim z
  cases f with
  | next=>obtain ⟨_,_,_,z⟩:=q6;exact False.elim z
  | brk=>obtain ⟨_,_,_,z⟩:=q6;exact False.elim z
  | cont=>obtain ⟨_,_,_,z⟩:=q6;exact False.elim z
  | ret u =>
   obtain ⟨v,σ6,H6,I6,rv,z⟩:=q6
   obtain ⟨m6,hn6,_⟩:=I6.loc
   exact ⟨v,_,H6,Inv.forget (t':=s6.toks) I1.ok I6 (fun p hp=>List.mem_cons_of_mem _ hp) hn6 ⟨rfl,fun _ _=>rfl⟩,rv,z⟩
 cases f with
 | next =>
  obtain ⟨σ1,H1,I1,z⟩:=q
  exact wpAny_pure ⟨σ1,H1,vn I1 fun p hp=>List.mem_append_left _ hp,z⟩
 | brk=>obtain ⟨σ1,H1,I1,z⟩:=q;exact ⟨σ1,H1,vn I1 fun p hp=>List.mem_append_left _ hp,z⟩
 | cont=>obtain ⟨σ1,H1,I1,z⟩:=q;exact ⟨σ1,H1,vn I1 fun p hp=>List.mem_append_left _ hp,z⟩
 | ret u=>obtain ⟨v,σ1,H1,I1,rv,z⟩:=q;exact ⟨v,σ1,H1,vn I1 fun p hp=>List.mem_append_left _ hp,rv,z⟩
end
end L2
namespace PySem
open PySem.Spec PyProof.Rows PySem.Calls PyProof.V
theorem wI:entryFor table "proto.unchain"=some Builtin.«proto.unchain»:=by first | exact entryFor_of_fast (by kernel_rfl) | exact entryFor_of_tree (by kernel_rfl)
def qt (h:Heap) (a:Addr):Prop:=∃ oe vs,h.get? a=some oe∧oe.data=.fields vs∧vs[2]?=some .none
theorem qt.at {h h':Heap} {a:Addr} (b:qt h a) (k:∀ o,h.get? a=some o→h'.get? a=some o):qt h' a:=let ⟨oe,vs,e,r⟩:=b;⟨oe,vs,k _ e,r⟩
section
variable {prog:Program} {w:World} {A:Around} {E:Value→Shared→Prop} {s:Shared}
theorem Hf {α:Type} {a x:Addr} {ox:Obj} {ws:Array Value} {Q:α→Shared→Prop} (hh:A.handled=some (.ref a)) (hb:qt s.heap a) (hx:s.heap.get? x=some ox) (hdx:ox.data=.fields ws) (h2:2 < ws.size) (ne:a≠x)
  (k:∀ h',(∀ b o,b≠x→s.heap.get? b=some o→h'.get? b=some o)→(∃ o',h'.get? x=some o'∧o'.cls=ox.cls)→E (.ref x) { s with heap:=h' }):wpAny (model prog w) A (raiseNew (.ref x):Sem α) Q E s:=by
 obtain ⟨oe,vs,ea,hd,h2a⟩:=hb
 unfold raiseNew
 refine wpAny_bind (wpAny_handled ?_)
 rw [hh]
 dsimp only
 rw [if_pos (show (Value.ref a != Value.ref x)=true by simpa using ne)]
 refine wpAny_bind (wpAny_holding (wpAny_runValue (codeAny_builtin wI ?_)))
 unfold Builtin.«proto.unchain»
 dsimp only
 refine wpAny_bind (wpAny_field ea hd h2a ?_)
 rw [if_pos (show (Value.none == Value.none)=true from rfl)]
 refine wpAny_bind (wpAny_pure (wpAny_pure ?_))
 show wpAny (model prog w) A (setField (.ref x) 2 (.ref a) >>= fun _=>throw (.ref x)) _ _ s
 refine wpAny_bind (wpAny_setField hx hdx h2 (wpAny_throw (k _ (fun b o nb e=>(Heap.get?_update_other _ _ (Ne.symm nb)).trans e) ⟨_,Heap.get?_update_self _ hx (Obj.isFreed_of_fields (Obj.data_mapFields hdx _)),Obj.cls_mapFields ..⟩)))
theorem uM {it l a:Addr} {i:Nat} {items} {Q:Option Value→Shared→Prop} (hh:A.handled=some (.ref a)) (hb:qt s.heap a) (na:a≠it)
  (hit:s.heap.IsListIter it l i) (hl:s.heap.IsList l items) (hx:items[i]?=none)
  (hQ:∀ h',Heap.ExtBut it s.heap h'→Q none { s with heap:=h' }):wpAny (model prog w) A (pyNext (.ref it)) Q E s:=by
 obtain ⟨o,ho,hc,hd⟩:=id hit
 obtain ⟨ol,hol,_,nl,hdl⟩:=hl
 unfold pyNext
 refine wpAny_bind (wpAny_attempt (wpAny_callSpecial?_slot (name:=Str.ofString "__next__") hit.typeIs slot_listiter_next (wpAny_call_entry slot_listiter_next hit.typeIs entry_listiter_next ?_ (args_listiter_next _))))
 show wpAny _ _ (field (.ref it) 0 >>= _) _ _ s
 refine wpAny_bind (wpAny_field ho hd (x:=.ref l) rfl ?_)
 show wpAny _ _ (if (Value.ref l == Value.none)=true then _ else _) _ _ s
 rw [if_neg (show ¬ ((Value.ref l == Value.none)=true) from Bool.false_ne_true)]
 show wpAny _ _ (field (.ref it) 1 >>= _) _ _ s
 refine wpAny_bind (wpAny_field ho hd (x:=.int i 0) rfl ?_)
 show wpAny _ _ (seqItems? (.ref l) >>= _) _ _ s
 refine wpAny_bind (wpAny_seqItems hol hdl ?_)
 simp only [Int.toNat_natCast,hx]
 refine wpAny_bind (wpAny_rule (wpAny_bind (wpAny_setField ho hd (by simp) ?_)))
 have lt:=Heap.lt_size ho
 obtain ⟨oe,vs,ea,rest⟩:=id hb
 have V4:=Heap.lt_size ea
 refine wpAny_bind ?_
 simp only [newExc,newTuple]
 refine wpAny_bind (wpAny_newObj_type ?_ (by size_fits))
 refine wpAny_bind (m:=firstArgMember _ _) (wpAny_of_eq (a:=Value.none) (by first | rfl | (simp only [firstArgMember];rfl)) ?_)
 refine wpAny_newObj_type ?_ (by size_fits)
 have kp:=((Heap.SameBut.update s.heap it (Obj.mapFields (·.setIfInBounds 0 Value.none))).extBut.push { cls:=.type "tuple",data:=.seq ([]:List Value).toArray })
 refine Hf (a:=a) hh ⟨oe,vs,Heap.get?_push_of_some _ (kp a oe na ea),rest⟩ (Heap.get?_push_size _ rfl) rfl (by show 2 < 6;decide) (fun z=>absurd (Heap.lt_size (kp a oe na ea)) (by rw [z];exact Nat.lt_irrefl _)) fun h' k1 ⟨o',e1,e2⟩=>?_
 refine wpAny_bind (wpAny_isInstance (T:="StopIteration") (b:=true) ⟨o',e1,e2⟩ isSubtype_stop ?_)
 exact wpAny_pure (hQ _ fun b u nb e=>k1 b u (Nat.ne_of_lt (Heap.lt_size (kp b u nb e))) (Heap.get?_push_of_some _ (kp b u nb e)))
theorem BN {it t a:Addr} {i:Nat} {items} {Q:Option Value→Shared→Prop} (hh:A.handled=some (.ref a)) (hb:qt s.heap a) (na:a≠it)
  (hit:s.heap.IsTupleIter it t i) (ht:s.heap.IsTuple t items) (hx:items[i]?=none)
  (hQ:∀ h',Heap.ExtBut it s.heap h'→Q none { s with heap:=h' }):wpAny (model prog w) A (pyNext (.ref it)) Q E s:=by
 obtain ⟨o,ho,hc,hd⟩:=id hit
 obtain ⟨ol,hol,_,nl,hdl⟩:=ht
 unfold pyNext
 refine wpAny_bind (wpAny_attempt (wpAny_callSpecial?_slot (name:=Str.ofString "__next__") hit.typeIs F.slot_tuple_iterator_next (wpAny_call_entry F.slot_tuple_iterator_next hit.typeIs F.entry_tuple_iterator_next ?_ (F.args_tuple_iterator_next_1 _))))
 show wpAny _ _ (field (.ref it) 0 >>= _) _ _ s
 refine wpAny_bind (wpAny_field ho hd (x:=.ref t) rfl ?_)
 show wpAny _ _ (if (Value.ref t == Value.none)=true then _ else _) _ _ s
 rw [if_neg (show ¬ ((Value.ref t == Value.none)=true) from Bool.false_ne_true)]
 show wpAny _ _ (field (.ref it) 1 >>= _) _ _ s
 refine wpAny_bind (wpAny_field ho hd (x:=.int i 0) rfl ?_)
 show wpAny _ _ (seqItems? (.ref t) >>= _) _ _ s
 refine wpAny_bind (wpAny_seqItems hol hdl ?_)
 simp only [Int.toNat_natCast,hx]
 refine wpAny_bind (wpAny_rule (wpAny_bind (wpAny_setField ho hd (by simp) ?_)))
 have lt:=Heap.lt_size ho
 obtain ⟨oe,vs,ea,rest⟩:=id hb
 have V4:=Heap.lt_size ea
 refine wpAny_bind ?_
 simp only [newExc,newTuple]
 refine wpAny_bind (wpAny_newObj_type ?_ (by size_fits))
 refine wpAny_bind (m:=firstArgMember _ _) (wpAny_of_eq (a:=Value.none) (by first | rfl | (simp only [firstArgMember];rfl)) ?_)
 refine wpAny_newObj_type ?_ (by size_fits)
 have kp:=((Heap.SameBut.update s.heap it (Obj.mapFields (·.setIfInBounds 0 Value.none))).extBut.push { cls:=.type "tuple",data:=.seq ([]:List Value).toArray })
 refine Hf (a:=a) hh ⟨oe,vs,Heap.get?_push_of_some _ (kp a oe na ea),rest⟩ (Heap.get?_push_size _ rfl) rfl (by show 2 < 6;decide) (fun z=>absurd (Heap.lt_size (kp a oe na ea)) (by rw [z];exact Nat.lt_irrefl _)) fun h' k1 ⟨o',e1,e2⟩=>?_
 refine wpAny_bind (wpAny_isInstance (T:="StopIteration") (b:=true) ⟨o',e1,e2⟩ isSubtype_stop ?_)
 exact wpAny_pure (hQ _ fun b u nb e=>k1 b u (Nat.ne_of_lt (Heap.lt_size (kp b u nb e))) (Heap.get?_push_of_some _ (kp b u nb e)))
theorem OG {a:Addr} (hh:A.handled=some (.ref a)) (I ax:Addr) (hne:ax≠I) (na:a≠I) (items:Array Value) :
  Walks prog w A I [I,ax,a] [I] items.size (fun i v=>items[i]?=some v) (fun i h=>(h.IsListIter I ax i∧h.IsList ax items)∧qt h a) where
 sub:=fun b hb=>by simp at hb;simp [hb]
 frame:=fun _ _ _ st hk=>⟨⟨st.1.1.at fun o e=>hk I (by simp) o e,st.1.2.at fun o e=>hk ax (by simp) o e⟩,st.2.at fun o e=>hk a (by simp) o e⟩
 item:=fun i s Q E hi st hQ=>by
  refine wpAny_pyNext_list_item st.1.1 st.1.2 (x:=items[i]) (by simp [hi]) fun h' a5v hs'=>?_
  exact hQ _ h' s.toks (by simp [hi]) ⟨⟨a5v,st.1.2.extBut hs'.extBut hne⟩,st.2.at fun o e=>hs'.extBut a o na e⟩ fun b o hb e=>hs'.extBut b o (fun h=>hb (by simp [h])) e
 done:=fun s Q E st hQ=>uM hh st.2 na st.1.1 st.1.2 (by simp) fun h' he'=>hQ h' s.toks fun b o hb e=>he' b o (fun h=>hb (by simp [h])) e
 self:=fun _ _ _ _ st hQ=>wpAny_pyIter_listiter st.1.1 hQ
end
end PySem
namespace L2
open PySem PySem.Spec PyProof.Rows
def Hm (X:Cx):Prop:=∃ a oe vs,X.A.handled=some (.ref a)∧(a,oe)∈X.pn∧oe.data=.fields vs∧vs[2]?=some .none
theorem Hm.at {X:Cx} {pins:List (Addr×Obj)} {σ:St} {H:Hp} {s:Shared} (h:Hm X) (I:Inv X pins σ H s):∃ a,X.A.handled=some (.ref a)∧qt s.heap a∧H a=none∧a ∉ frs X.stack∧∀ b,iL X pins H b→a≠b:=by
 obtain ⟨a,oe,vs,hh,hp,hd,h2⟩:=h
 obtain ⟨p1,p2,p3,p4,p5⟩:=I.pin (a,oe) (List.mem_append_left _ hp)
 refine ⟨a,hh,⟨oe,vs,p1,hd,h2⟩,p2,fun z=>?_,fun b f z=>f.2.2.2.2.2 (a,oe) (List.mem_append_left _ hp) z⟩
 rcases List.mem_cons.mp (I.kF a z) with e | e
 ·exact p3 e
 ·exact p4 e
structure Ed (P:Program) (w:World) (K:PySem.W.Frag) (tg:Expr) (J:It) (fp:List Addr) (it:Addr) (tn:Nat→Heap→Prop):Prop where
 mem:it∈fp
 obj:∀ i h,tn i h→∀ b∈fp,∃ o,h.get? b=some o∧∀ v,o.data≠.cell v
 keep:∀ i h h',tn i h→(∀ b∈fp,∀ o,h.get? b=some o→h'.get? b=some o)→tn i h'
 item:∀ (X:Cx),X.prog=P→X.w=w→X.K=K→Hm X→∀ (i:Nat) (pins:List (Addr×Obj)) (s:Shared) (σ:St) (H:Hp) (E:Value→Shared→Prop),Inv X pins σ H s→(∀ b∈fp,iL X pins H b)→tn i s.heap→J.go i H →
  wpAny (model P w) X.A (pyNext (.ref it)) (fun r s1=>∃ u,r=some u ∧
   wpAny (model P w) X.A (letOwnedTupleGo tg (.ref it) u) (fun _ s2=>∃ x H',Inv X pins σ H' s2∧RelV x u∧J.ND i H x H'∧tn (i+1) s2.heap∧∀ b∈fp,H' b=none) E s1) E s
 done:∀ (X:Cx),X.prog=P→X.w=w→X.K=K→Hm X→∀ (i:Nat) (pins:List (Addr×Obj)) (s:Shared) (σ:St) (H:Hp) (E:Value→Shared→Prop),Inv X pins σ H s→(∀ b∈fp,iL X pins H b)→tn i s.heap→J.stop i H →
  wpAny (model P w) X.A (pyNext (.ref it)) (fun r s1=>r=none∧Inv X pins σ H s1) E s
 self:∀ (A:Around) (i:Nat) (s:Shared) (Q:Value→Shared→Prop) (E:Value→Shared→Prop),tn i s.heap→Q (.ref it) s→wpAny (model P w) A (pyIter (.ref it)) Q E s
theorem Bs {P:Program} {w:World} {K:PySem.W.Frag} {tg:Expr} (a it:Addr):Ed P w K tg (KU K a) [it] it (fun i h=>h.IsListIter it a i) where
 mem:=by simp
 obj:=fun i h st b hb=>by
  have e:b=it:=by simpa using hb
  subst e
  obtain ⟨o,e,c,d⟩:=st
  exact ⟨o,e,fun v z=>by rw [d] at z;cases z⟩
 keep:=fun i h h' st k=>st.at fun o e=>k it (by simp) o e
 item:=by
  intro X hP hw hK hc i pins s σ H E I hf st hg
  subst hP hw hK
  obtain ⟨xs,x,hq,hx⟩:=hg
  obtain ⟨its,rv,p,hz⟩:=I.list hq
  obtain ⟨u,hu,ru⟩:=rv.get hx
  obtain ⟨f0,f1,f2,f3,f4,f5⟩:=hf it (by simp)
  refine wpAny_pyNext_list_item st p.isList (x:=u) (by simpa using hu) fun h' st' sb=>?_
  have I1:Inv X pins σ H { s with heap:=h' }:=I.turned (t':=s.toks) (fun b o hb e=>(sb.2 b hb).trans e) f0 f1 f3 f4 f5
  obtain ⟨o,e,c,d⟩:=id st'
  exact ⟨u,rfl,AB (s:={ s with heap:=h' }) e c d (by decide) ⟨x,H,I1,ru,⟨rfl,fun ys hy=>by rw [I.Ao hy hq];exact hx⟩,st',fun b hb=>(hf b hb).1⟩⟩
 done:=by
  intro X hP hw hK hc i pins s σ H E I hf st hg
  subst hP hw hK
  obtain ⟨xs,hq,hx⟩:=hg
  obtain ⟨its,rv,p,hz⟩:=I.list hq
  obtain ⟨f0,f1,f2,f3,f4,f5⟩:=hf it (by simp)
  have hl:=rv.length
  obtain ⟨a9,hh,KQ,_,_,ne9⟩:=hc.at I
  exact uM hh KQ (ne9 it (hf it (by simp))) st p.isList (by simp;omega) fun h' eb=>⟨rfl,I.turned (t':=s.toks) (fun b o hb e=>eb b o hb e) f0 f1 f3 f4 f5⟩
 self:=fun _ _ _ _ _ st h=>wpAny_pyIter_listiter st h
theorem zH {P:Program} {w:World} {K:PySem.W.Frag} {tg:Expr} (a it:Addr):Ed P w K tg (FH K a) [it] it (fun i h=>h.IsTupleIter it a i) where
 mem:=by simp
 obj:=fun i h st b hb=>by
  have e:b=it:=by simpa using hb
  subst e
  obtain ⟨o,e,c,d⟩:=st
  exact ⟨o,e,fun v z=>by rw [d] at z;cases z⟩
 keep:=fun i h h' st k=>st.at fun o e=>k it (by simp) o e
 item:=by
  intro X hP hw hK hc i pins s σ H E I hf st hg
  subst hP hw hK
  obtain ⟨xs,x,hq,hx⟩:=hg
  obtain ⟨its,rv,p,hz⟩:=I.tuple hq
  obtain ⟨u,hu,ru⟩:=rv.get hx
  obtain ⟨f0,f1,f2,f3,f4,f5⟩:=hf it (by simp)
  refine wpAny_pyNext_tuple_item st (show s.heap.IsTuple a its.toArray from p) (x:=u) (by simpa using hu) fun h' st' sb=>?_
  have I1:Inv X pins σ H { s with heap:=h' }:=I.turned (t':=s.toks) (fun b o hb e=>(sb.2 b hb).trans e) f0 f1 f3 f4 f5
  obtain ⟨o,e,c,d⟩:=id st'
  exact ⟨u,rfl,AB (s:={ s with heap:=h' }) e c d (by decide) ⟨x,H,I1,ru,⟨rfl,fun ys hy=>by rw [I.wN hy hq];exact hx⟩,st',fun b hb=>(hf b hb).1⟩⟩
 done:=by
  intro X hP hw hK hc i pins s σ H E I hf st hg
  subst hP hw hK
  obtain ⟨xs,hq,hx⟩:=hg
  obtain ⟨its,rv,p,hz⟩:=I.tuple hq
  obtain ⟨f0,f1,f2,f3,f4,f5⟩:=hf it (by simp)
  have hl:=rv.length
  obtain ⟨a9,hh,KQ,_,_,ne9⟩:=hc.at I
  exact BN hh KQ (ne9 it (hf it (by simp))) st (show s.heap.IsTuple a its.toArray from p) (by simp;omega) fun h' eb=>⟨rfl,I.turned (t':=s.toks) (fun b o hb e=>eb b o hb e) f0 f1 f3 f4 f5⟩
 self:=fun _ _ _ _ _ st h=>wpAny_pyIter_tupleiter st h
def b0r (X:Cx) (pins:List (Addr×Obj)) (σ:St) (tg:Expr) (R:It→Hp→Prop) (itv:Value) (s2:Shared):Prop :=
 ∃ (it:Addr) (fp:List Addr) (tn:Nat→Heap→Prop) (J:It) (H':Hp),itv=.ref it∧Inv X pins σ H' s2∧Ed X.prog X.w X.K tg J fp it tn∧tn 0 s2.heap∧(∀ b∈fp,iL X pins H' b)∧R J H'
def X8 (X:Cx) (tg iter:Expr) (wi:TI):Prop :=
 ∀ (pins:List (Addr×Obj)) (s:Shared) (σ:St) (H:Hp) (R:It→Hp→Prop),Inv X pins σ H s→wi σ H R →
  wpAny (model X.prog X.w) X.A (eval iter X.env) (fun v s1=>wpAny (model X.prog X.w) X.A (pyIter v) (b0r X pins σ tg R) X.xe s1) X.xe s
section
variable {X:Cx} {tg:Expr}
theorem z5 {l:Expr} {tl:TE} (hl:PE X l tl):X8 X tg l (N1 X.K tl):=by
 intro pins s σ H R I h
 refine cy (hl pins s σ H _ I h) fun v s1 ⟨x,H1,I1,r1,q1⟩=>?_
 obtain ⟨a,e,⟨xs,hq⟩,q⟩:=q1
 subst e
 cases r1
 obtain ⟨its,rv,p,hz⟩:=I1.list hq
 refine wpAny_pyIter_list p.isList ?_
 refine ⟨s1.heap.objs.size,[s1.heap.objs.size],_,_,H1,rfl,I1.kept (t':=s1.toks) fun b o e=>Heap.get?_push_of_some _ e,Bs a _,⟨_,Heap.get?_push_size _ rfl,rfl,rfl⟩,fun b hb=>?_,q⟩
 have e:b=s1.heap.objs.size:=by simpa using hb
 subst e
 exact I1.AF (Nat.le_refl _) (I1.hok.fresh (Nat.le_refl _))
theorem Ln {l:Expr} {tl:TE} (hl:PE X l tl):X8 X tg l (P0 X.K tl):=by
 intro pins s σ H R I h
 refine cy (hl pins s σ H _ I h) fun v s1 ⟨x,H1,I1,r1,q1⟩=>?_
 obtain ⟨a,e,⟨xs,hq⟩,q⟩:=q1
 subst e
 cases r1
 obtain ⟨its,rv,p,hz⟩:=I1.tuple hq
 refine wpAny_pyIter_tuple (show s1.heap.IsTuple a its.toArray from p) ?_
 refine ⟨s1.heap.objs.size,[s1.heap.objs.size],_,_,H1,rfl,I1.kept (t':=s1.toks) fun b o e=>Heap.get?_push_of_some _ e,zH a _,⟨_,Heap.get?_push_size _ rfl,rfl,rfl⟩,fun b hb=>?_,q⟩
 have e:b=s1.heap.objs.size:=by simpa using hb
 subst e
 exact I1.AF (Nat.le_refl _) (I1.hok.fresh (Nat.le_refl _))
theorem Dj {iter:Expr} {body:List Stmt} {wi:TI} {g:TG} {tb:TS} {pos:Pos} (hp:PassesOwn (model X.prog X.w) X.A X.env X.xe) (hc:Hm X) (hi:X8 X tg iter wi) (hg:PG X tg g) (hb:xO X body tb)
  (hs:∀ x,foldedSetIterable iter X.env x=pure x:=by intro _;rfl):PS X (.For tg iter body [] pos) (Sh wi g tb):=by
 intro pins s σ H D I h
 refine wpAny_For (cy (hi pins s σ H _ I h) fun v s1 h1=>cy h1 fun itv s2 h2=>?_) hs
 obtain ⟨it,fp,tn,J,H2,e,I2,T,st2,f2,W,⟨m0,w0⟩,turn⟩:=h2
 subst e
 have Bu:∀ {H':Hp},(∀ b∈fp,H' b=none)→∀ b∈fp,iL X pins H' b:=fun hn b hb=>⟨hn b hb,(f2 b hb).2⟩
 refine codeAny_forLoop_any (fun n s'=>∃ i σ' H',Inv X pins σ' H' s'∧tn i s'.heap∧(∀ b∈fp,H' b=none)∧W i n σ' H') ?_ m0 ⟨0,σ,H2,I2,st2,fun b hb=>(f2 b hb).1,w0⟩
 rintro n s3 ⟨i,σ3,H3,I3,st3,TU,w3⟩
 rcases turn i n σ3 H3 w3 with ⟨stop,qn⟩ | ⟨go,N,hN,step⟩
 ·refine wpAny_passesOwn hp (cy (T.done X rfl rfl rfl hc i pins s3 σ3 H3 X.xe I3 (Bu TU) st3 stop) fun r s4 ⟨hr,I4⟩=>?_)
  subst hr
  exact wpAny_execs_nil ⟨σ3,H3,I4,qn⟩
 ·refine wpAny_passesOwn hp (cy (T.item X rfl rfl rfl hc i pins s3 σ3 H3 X.xe I3 (Bu TU) st3 go) fun r s4 ⟨u,hr,h4⟩=>?_)
  subst hr
  refine wpAny_passesOwn hp (cy h4 fun _ s5 ⟨x,H5,I5,r5,y5,OS,Qk⟩=>?_)
  have I5':=I5.pinned (Bu Qk) (T.obj _ _ OS)
  refine wpAny_passesOwn hp (cy (hg _ s5 σ3 H5 x u _ I5' r5 (step x H5 y5)) fun _ s6 ⟨σ6,H6,I6,q6⟩=>?_)
  refine wpAny_passesOwn hp (cy (hb _ s6 σ6 H6 _ I6 q6) fun f s7 q7=>?_)
  have again:∀ {σ7:St} {H7:Hp},Inv X (pins++nS fp s5.heap) σ7 H7 s7→N σ7 H7→∃ m,m < n∧∃ i σ' H',Inv X pins σ' H' s7∧tn i s7.heap∧(∀ b∈fp,H' b=none)∧W i m σ' H':=fun {σ7 H7} I7 n7=>by
   obtain ⟨m',hm,w7⟩:=hN σ7 H7 n7
   refine ⟨m',hm,i+1,σ7,H7,I7.gD,T.keep _ _ _ OS fun b hb o e=>(I7.pin (b,o) (List.mem_append_right _ (List.mem_append_right _ (d8 hb e)))).1,fun b hb=>?_,w7⟩
   obtain ⟨o,e,d⟩:=T.obj _ _ OS b hb
   exact (I7.pin (b,o) (List.mem_append_right _ (List.mem_append_right _ (d8 hb e)))).2.1
  cases f with
  | next=>obtain ⟨σ7,H7,I7,n7⟩:=q7;exact again I7 n7
  | cont=>obtain ⟨σ7,H7,I7,n7⟩:=q7;exact again I7 n7
  | brk=>obtain ⟨σ7,H7,I7,q7⟩:=q7;exact ⟨σ7,H7,I7.gD,q7⟩
  | ret v=>obtain ⟨x7,σ7,H7,I7,r7,q7⟩:=q7;exact ⟨x7,σ7,H7,I7.gD,r7,q7⟩
end
abbrev lK (X:Cx) (sc:Scope) (N:List Str) (cl:List (Str×Addr)) (C:Addr) (s:Shared) (H:Hp) (fp:List Addr):Cx :=
 { X with N:=N,s₀:=s,H₀:=H,env:=compEnvC sc cl C X.env,outer:=X.stack,ex:=fp,fn:=fun _=>false,pn:=X.pn,xe:=gp }
section
variable {X:Cx} {sc:Scope} {cl:List (Str×Addr)} {own:Nat} {N:List Str} {fr:List Nat}
theorem CI {pins:List (Addr×Obj)} {σ:St} {H:Hp} {s:Shared} {fp:List Addr} {h1:Heap} {m1:Str→Option Value} {t:Nat} {C D:Addr} {od:Obj} (S:lW X sc cl own N fr) (I:Inv X pins σ H s) (hfp:∀ b∈fp,iL X pins H b)
  (hob:∀ b∈fp,∃ o,s.heap.get? b=some o) (kp:∀ b o,s.heap.get? b=some o→h1.get? b=some o) (hC:s.heap.objs.size≤C) (hns:h1.Ns C m1) (hD:s.heap.objs.size≤D) (hDC:D≠C) (ho:h1.get? D=some od) (hod:∀ v,od.data≠.cell v) :
  Inv (lK X sc N cl C s H fp) [(D,od)] (zK own fr σ) H { s with heap:=h1,toks:=t }:=by
 have xX:∀ b∈fp,b < s.heap.objs.size:=fun b hb=>let ⟨o,e⟩:=hob b hb;Heap.lt_size e
 refine ⟨⟨I.ok.mod,S.kind,I.ok.glob,I.ok.blt,hC,fun x y c a b=>I.ok.inj x y c (S.cells x c a) (S.cells y c b),S.has,(fun x c z=>nomatch z),I.ok.hd,I.ok.frames,.inl rfl,fun b hb=>?_,I.bs,Nat.le_trans I.ok.AO I.sz,fun b o e hb=>?_,fun b hb hf=>?_,I.stack,I.lY⟩,
  rfl,I.bare,Un.kept kp,⟨m1,hns,fun i x v e1 e2 e3=>?_⟩,fun x c e=>?_,I.hok.fresh hC,fun x c e=>I.gF x c (S.cells x c e),fun p hp=>?_,I.hok.kept kp,?_⟩
 ·exact ⟨Nat.ne_of_lt (Nat.lt_of_lt_of_le (xX b hb) hC),fun x c e=>(hfp b hb).2.2.2.2.1 x c (S.cells x c e)⟩
 ·rcases (hfp b hb).2.2.2.1 with z | z
  ·exact I.ok.wD b o e z
  ·exact absurd (Nat.lt_of_lt_of_le (Heap.lt_size e) (Nat.le_trans I.ok.AO z)) (Nat.lt_irrefl _)
 ·rcases List.mem_cons.mp (I.kF b hf) with z | z
  ·exact (hfp b hb).2.1 z
  ·exact (hfp b hb).2.2.1 z
 ·obtain ⟨k,j,rfl,ej,eσ⟩:=GX e2
  obtain ⟨y,n1,n2,k1,k2⟩:=S.TR k j ej
  have e1:N[own+k]?=some x:=e1
  rw [n1] at e1
  cases e1
  obtain ⟨m,hn,hl⟩:=I.loc
  obtain ⟨u,ru,l⟩:=hl j x v n2 eσ (by rcases k1 with z | z;exact .inr (.inl z);exact .inr (.inr z))
  refine ⟨u,ru,.inr ⟨k2,?_⟩⟩
  obtain ⟨c,hc⟩:=S.has x k2
  refine ⟨c,hc,?_⟩
  rcases l with ⟨q,_⟩ | ⟨_,c',e',z⟩
  ·rcases k1 with k1 | k1 <;> (rw [k1] at q;cases q)
  ·have:=S.cells x c hc
   rw [e'] at this;cases this
   obtain ⟨o,yU,h2'⟩:=z
   exact ⟨o,kp _ _ yU,h2'⟩
 ·obtain ⟨v,o,yU,h2'⟩:=I.cell x c (S.cells x c e)
  exact ⟨v,o,kp _ _ yU,h2'⟩
 ·rcases List.mem_append.mp hp with hp | hp
  ·obtain ⟨q1,q2,q3,q4,q5⟩:=I.pin p (List.mem_append_left _ hp)
   refine ⟨kp _ _ q1,q2,Nat.ne_of_lt (Nat.lt_of_lt_of_le (Heap.lt_size q1) hC),fun hf=>?_,q5⟩
   rcases List.mem_cons.mp (I.kF p.1 hf) with z | z
   ·exact q3 z
   ·exact q4 z
  have hp:p=(D,od):=by simpa using hp
  subst hp
  refine ⟨ho,I.hok.fresh hD,hDC,fun hf=>?_,hod⟩
  have:D∈X.env.locals::X.fs:=I.kF D hf
  rcases List.mem_cons.mp this with z | z
  ·exact absurd (Nat.lt_of_lt_of_le I.lt hD) (by rw [z];exact Nat.lt_irrefl _)
  ·exact I.Pq hD z
 ·unfold zK
  rw [List.length_append,List.length_replicate,List.length_map]
  exact S.len.symm
theorem CJ {pins pl:List (Addr×Obj)} {σ τ:St} {H H':Hp} {s s':Shared} {fp:List Addr} {C D:Addr} {ys:List V} {its:List Value} {n:Nat} (I:Inv X pins σ H s) (hfp:∀ b∈fp,iL X pins H b) (hC:s.heap.objs.size≤C) (hD:s.heap.objs.size≤D)
  (B:Inv (lK X sc N cl C s H fp) pl τ H' s') (hn:H' D=none) (ho:s'.heap.get? D=some { cls:=.type "list",data:=.seq its.toArray n }) (r:Vals ys its) (hz:ys.length≤sizeLine) :
  Inv X pins σ (upd H' D (.lst ys)) s':=by
 have ne:∀ b o,s.heap.get? b=some o→b≠D:=fun b o e=>Nat.ne_of_lt (Nat.lt_of_lt_of_le (Heap.lt_size e) hD)
 have nt:∀ b u,H' b=some u→b≠D:=fun b u e=>aq e hn
 refine I.Kg (ch:=fp) B.os ⟨B.base.keep,B.base.slot,fun b o e q hx=>?_,B.base.there,fun b xs e=>?_,fun b o u e=>?_,fun b ps e=>?_⟩ (fun b u e=>?_) B.bare fun b hb=>?_
 ·rw [aA (ne b o e)];exact B.base.free b o e q hx
 ·have:=B.base.tups b xs e;rw [aA (nt _ _ this)];exact this
 ·have:=B.base.oj b o u e;rw [aA (nt _ _ this)];exact this
 ·obtain ⟨mo,this⟩:=B.base.oG b ps e;exact ⟨mo,by rw [aA (nt _ _ this)];exact this⟩
 ·by_cases hb:b=D
  ·subst hb
   rw [ah] at e
   cases e
   exact ⟨hz,its,n,r,ho⟩
  ·rw [aA hb] at e
   exact (B.hok b u e).stay (fun _ _ _ q=>q) (fun c q=>by rw [aA (nt _ _ q)];exact q) fun c xs q=>by rw [aA (nt _ _ q)];exact q
 ·obtain ⟨_,f1,_,f3,f4,f5⟩:=hfp b hb
  exact ⟨f3,f1,f4,f5⟩
theorem CF {elt tg iter:Expr} {cs:List Expr} {pos:Pos} {g:TG} {tt:TT} {te:TE} {pins:List (Addr×Obj)} {σ:St} {H:Hp} {s:Shared} {it:Addr} {fp:List Addr} {tn:Nat→Heap→Prop} {J:It} {RR:Value→Addr→Result→Shared→Prop}
  (S:lW X sc cl own N fr) (hc:Hm X) (I:Inv X pins σ H s) (T:Ed X.prog X.w X.K tg J fp it tn) (st:tn 0 s.heap) (hfp:∀ b∈fp,iL X pins H b)
  (hg:∀ C s H,PG (lK X sc N cl C s H fp) tg g) (ht:∀ C s H,Q6 (lK X sc N cl C s H fp) cs tt) (he:∀ C s H,PE (lK X sc N cl C s H fp) elt te)
  {W:Nat→Nat→List V→Hp→Prop} {R:List V→Hp→Prop} (w0:∃ m,W 0 m [] H) (walk:qf J g tt te (zK own fr σ) W R)
  (fin:∀ D C H' ys s' m,s'.heap.Ns C m→H' D=none→iL X pins (upd H' D (.lst ys)) C→Inv X pins σ (upd H' D (.lst ys)) s'→R ys H'→RR (.ref D) C (.ok .next) s') :
  wpAny (model X.prog X.w) X.A (newList []) (fun acc s3=>wpAny (model X.prog X.w) X.A (newFunctionEnv sc X.env.globals cl [] X.env.qual none .none (some X.env)) (fun cenv s4 =>
   codeAny (model X.prog X.w) X.A (.compStart (.ListComp elt [⟨tg,iter,cs,0⟩] sc pos) 0 (.ref it) acc { cenv with scope:=relabel sc X.env }) (RR acc cenv.locals) s4) X.xe s3) X.xe s:=by
 refine wpAny_newObj_type (wpAny_newFunctionEnv S.uK (by intro y hy;simp at hy) (fun h1 hns Ms=>?_) S.kind)
 dsimp only at hns Ms ⊢
 generalize hH:s.heap.push { cls:=.type "list",dict:=none,data:=.seq ([]:List Value).toArray }=hp at hns Ms ⊢
 have sC:hp.objs.size=s.heap.objs.size+1:=by rw [← hH,Heap.size_push]
 have hDC:s.heap.objs.size≠hp.objs.size:=by omega
 have kp:∀ b o,s.heap.get? b=some o→h1.get? b=some o:=fun b o e=>by
  have l:=Heap.lt_size e
  exact Ms.extBut b o (Nat.ne_of_lt (by rw [sC];exact Nat.lt_succ_of_lt l)) (Heap.get?_push_of_some _ (hH ▸ Heap.get?_push_of_some _ e))
 have hD1:h1.get? s.heap.objs.size=some { cls:=.type "list",data:=.seq ([]:List Value).toArray }:=Ms.extBut _ _ hDC (Heap.get?_push_of_some _ (hH ▸ Heap.get?_push_size _ rfl))
 have xX:∀ b∈fp,b < s.heap.objs.size:=fun b hb=>let ⟨o,e,_⟩:=T.obj 0 _ st b hb;Heap.lt_size e
 generalize hCC:hp.objs.size=C at *
 generalize hDD:s.heap.objs.size=D at *
 have I1:∀ t,Inv (lK X sc N cl C s H fp) [(D,{ cls:=.type "list",data:=.seq ([]:List Value).toArray })] (zK own fr σ) H { s with heap:=h1,toks:=t }:=fun t =>
  CI S I hfp (fun b hb=>let ⟨o,e,_⟩:=T.obj 0 _ st b hb;⟨o,e⟩) kp (by omega) hns (by omega) hDC hD1 (by intro v z;cases z)
 have st1:tn 0 h1:=T.keep 0 _ _ st fun b hb o e=>kp b o e
 have Ql:∀ {H':Hp} {s':Shared} {τ:St} {pl:List (Addr×Obj)} {od:Obj},Inv (lK X sc N cl C s H fp) pl τ H' s'→(∀ p∈pl,p.1=D)→(∀ b∈fp,H' b=none)→∀ b∈fp,iL (lK X sc N cl C s H fp) pl H' b:=fun {H' s' τ pl od} B hpl hn b hb=>by
  have q:=xX b hb
  refine ⟨hn b hb,(B.ok.KR b hb).1,B.ok.wH b hb,.inl hb,(B.ok.KR b hb).2,fun p hp=>?_⟩
  rcases List.mem_append.mp hp with hp | hp
  ·exact (hfp b hb).2.2.2.2.2 p (List.mem_append_left _ hp)
  rw [hpl p hp];exact (Nat.ne_of_lt q).symm
 have loop:∀ t,codeAny (model X.prog X.w) X.A (.compLoop (.ListComp elt [⟨tg,iter,cs,0⟩] sc pos) 0 (.ref it) (.ref D) (compEnvC sc cl C X.env)) (RR (.ref D) C) { s with heap:=h1,toks:=t }:=by
  intro t
  obtain ⟨m0,w0⟩:=w0
  refine xD (fun n s'=>∃ i ys its k H',Inv (lK X sc N cl C s H fp) [(D,{ cls:=.type "list",data:=.seq (List.toArray its) k })] (zK own fr σ) H' s'∧tn i s'.heap∧(∀ b∈fp,H' b=none)∧Vals ys its∧ys.length≤sizeLine∧W i n ys H') ?_ m0
   ⟨0,[],[],_,H,I1 t,st1,fun b hb=>(hfp b hb).1,.nil,Nat.zero_le _,w0⟩
  rintro n s2 ⟨i,ys,its,k,H2,B2,st2,JN,rv,hz,w2⟩
  have pD:=B2.pin (D,{ cls:=.type "list",data:=.seq (List.toArray its) k }) (List.mem_append_right _ (List.mem_singleton.mpr rfl))
  rcases walk i n ys H2 w2 with ⟨stop,rr⟩ | ⟨go,nx,Tu,tk⟩
  ·refine wpAny_mono (T.done (lK X sc N cl C s H fp) rfl rfl rfl hc i _ s2 _ H2 gp B2 (Ql (od:=default) B2 (by simp) JN) st2 stop) (fun r s3 ⟨hr,B3⟩=>?_) fun _ _ z=>z
   subst hr
   obtain ⟨m3,n3,_⟩:=B3.loc
   have Pf:=B3.pin (D,{ cls:=.type "list",data:=.seq (List.toArray its) k }) (List.mem_append_right _ (List.mem_singleton.mpr rfl))
   refine fin D C H2 ys s3 m3 n3 Pf.2.1 ?_ (CJ I hfp (by omega) (by omega) B3 Pf.2.1 Pf.1 rv hz) rr
   exact I.AF (by omega) (by rw [aA (Ne.symm hDC)];exact B3.free)
  ·refine wpAny_mono (T.item (lK X sc N cl C s H fp) rfl rfl rfl hc i _ s2 _ H2 gp B2 (Ql (od:=default) B2 (by simp) JN) st2 go) (fun r s3 ⟨u,hr,g3⟩=>?_) fun _ _ z=>z
   subst hr
   refine wpAny_mono g3 (fun _ s4 ⟨x,H4,B4,rx,y4,OT,W0⟩=>?_) fun _ _ z=>z
   have B5:=B4.pinned (Ql (od:=default) B4 (by simp) W0) (T.obj _ _ OT)
   refine wpAny_mono (hg C s H _ s4 _ H4 x u _ B5 rx (tk x H4 y4)) (fun _ s5 ⟨σ5,H5,B6,ex,q5⟩=>?_) fun _ _ z=>z
   refine wpAny_mono (ht C s H _ s5 σ5 H5 _ B6 q5) (fun b s6 ⟨H6,B7,q6⟩=>?_) fun _ _ z=>z
   have back:∀ {H':Hp} {s':Shared},Inv (lK X sc N cl C s H fp) ([(D,{ cls:=.type "list",data:=.seq (List.toArray its) k })]++nS fp s4.heap) σ5 H' s'→tn (i+1) s'.heap∧∀ b∈fp,H' b=none:=fun {H' s'} B=>by
    refine ⟨T.keep _ _ _ OT fun b hb o e=>(B.pin (b,o) (List.mem_append_right _ (List.mem_append_right _ (d8 hb e)))).1,fun b hb=>?_⟩
    obtain ⟨o,e,_⟩:=T.obj _ _ OT b hb
    exact (B.pin (b,o) (List.mem_append_right _ (List.mem_append_right _ (d8 hb e)))).2.1
   cases b with
   | false =>
    obtain ⟨m',hm,w'⟩:=Tu _ _ q6
    obtain ⟨t7,f7⟩:=back B7
    exact ⟨m',hm,i+1,ys,its,k,H6,(B7.gD).weak ex.1.symm ex.2,t7,f7,rv,hz,w'⟩
   | true =>
    refine wpAny_mono (he C s H _ s6 σ5 H6 _ B7 q6) (fun x7 s7 ⟨v7,H7,B8,r7,hz7,q7⟩=>?_) fun _ _ z=>z
    obtain ⟨m',hm,w'⟩:=Tu _ _ q7
    obtain ⟨t8,f8⟩:=back B8
    have BG:=B8.pin (D,{ cls:=.type "list",data:=.seq (List.toArray its) k }) (List.mem_append_right _ (List.mem_append_left _ (List.mem_singleton.mpr rfl)))
    have lz:its.length=ys.length:=rv.length.symm
    refine call_meets F.slot_list_append ⟨_,BG.1,rfl⟩ F.entry_list_append (F.args_list_append_2 _ _) (PySem.list_append D its.toArray k x7 (by rw [List.size_toArray];omega)) ⟨BG.1,?_⟩
    have q:=PySem.IsL.update BG.1 (·.push x7)
    have eo:its.toArray.push x7=(its++[x7]).toArray:=by simp
    have B9:Inv (lK X sc N cl C s H fp) [] (zK own fr σ) H7 { s7 with heap:=s7.heap.update D (Obj.mapSeq (·.push x7)) } :=
     Inv.turned (t':=s7.toks) (((B8.z0 (jj:=[]) (by intro p hp;simp at hp)).weak ex.1.symm ex.2)) (fun b o hb e=>(Heap.get?_update_other _ _ (Ne.symm hb)).trans e) BG.2.1 hDC (.inr (by show s.heap.objs.size≤D;omega)) (fun y c e z=>by
      have:=B8.cell y c e
      obtain ⟨v,o,yU,h2'⟩:=this
      have yU:s7.heap.get? c=some o:=yU
      rw [z,BG.1] at yU
      cases yU
      cases h2') (fun p hp z=>by
      have hp:p∈X.pn:=by simpa using hp
      have l1:=Heap.lt_size (I.pin p (List.mem_append_left _ hp)).1
      rw [z,hDD] at l1
      exact Nat.lt_irrefl _ l1)
    have B10:∀ o',(s7.heap.update D (Obj.mapSeq (·.push x7))).get? D=some o'→(∀ v,o'.data≠.cell v)→Inv (lK X sc N cl C s H fp) [(D,o')] (zK own fr σ) H7 { s7 with heap:=s7.heap.update D (Obj.mapSeq (·.push x7)) }:=fun o' e1 e2 =>
     Inv.oX B9 fun p hp=>by
      have hp:p=(D,o'):=by simpa using hp
      subst hp
      exact ⟨e1,BG.2.1,hDC,BG.2.2.2.1,e2⟩
    rw [eo] at q
    refine ⟨m',hm,i+1,ys++[v7],its++[x7],_,H7,B10 _ q (by intro v z;cases z),T.keep _ _ _ t8 fun b hb o e=>(Heap.get?_update_other _ _ (Nat.ne_of_gt (xX b hb))).trans e,f8,rv.append (.cons r7 .nil),by rw [List.length_append,List.length_singleton];omega,w'⟩
 exact codeAny_compStart_list (loop _) (T.self _ 0 _ _ _ st1 (loop _))
theorem Ho {elt tg iter:Expr} {cs:List Expr} {pos spos py:Pos} {wi:TI} {g:TG} {tt:TT} {te:TE} {i:Nat} {y:Str} (hN:X.N.Nodup) (hiy:X.N[i]?=some y) (hy:Loc X.env.scope y) (S:lW X sc cl own N fr) (hc:Hm X) (hi:X8 X tg iter wi)
  (hg:∀ C s H fp,PG (lK X sc N cl C s H fp) tg g) (ht:∀ C s H fp,Q6 (lK X sc N cl C s H fp) cs tt) (he:∀ C s H fp,PE (lK X sc N cl C s H fp) elt te)
  (hsw:swapsWith (.ListComp elt [⟨tg,iter,cs,0⟩] sc pos) (some (.Name y py)) spos.line X.env=pure true:=by rfl) (hs:∀ x,foldedSetIterable iter X.env x=pure x:=by intro _;rfl)
  (hf:X.fn y=true∨X.env.scope.names.lookup y=some .local:=by first | exact .inl rfl | exact .inr rfl | assumption) :
  PS X (.Assign [.Name y py] (.ListComp elt [⟨tg,iter,cs,0⟩] sc pos) spos) (K4 (GV own fr wi g tt te) (DS i)):=by
 intro pins s σ H D0 I h
 rw [exec_Assign_Name_used _ _ _ _ hsw]
 refine wpAny_bind (wpAny_standAt (wpAny_bind ?_))
 show wpAny _ X.A (do let _ ← comprehension (.ListComp elt [⟨tg,iter,cs,0⟩] sc pos) sc X.env _ (newList []) false (eval iter X.env) (some (assign (.Name y py) X.env))) _ _ s
 refine wpAny_bind (cy (wpAny_comprehension_free (use:=some (assign (.Name y py) X.env)) (Q:=fun _ s'=>SP X pins D0 .next s') rfl hs S.clos S.kind S.names
  (cy (hi pins s σ H _ I h) fun v s1 h1=>cy h1 fun itv s2 h2=>?_)) fun _ s' hq=>wpAny_pure (wpAny_pure hq))
 obtain ⟨it,fp,tn,J,H2,e,I2,T,st2,f2,W,w0,walk⟩:=h2
 subst e
 refine CF (RR:=fun acc C=>compPost (model X.prog X.w) X.A X.xe (some (assign (.Name y py) X.env)) (fun _ s'=>SP X pins D0 .next s') acc C) S hc I2 T st2 f2 (fun C s H=>hg C s H fp) (fun C s H=>ht C s H fp) (fun C s H=>he C s H fp) w0 walk ?_
 intro D C H' ys s' m hn hD fC I' rr
 obtain ⟨f0,f1,f2',f3,f4,f5⟩:=fC
 show wpAny _ X.A (assign (.Name y py) X.env (.ref D)) _ _ _
 refine wpAny_assign_Name (qy I' hN hiy hy (v:=.ref D) rfl (fun s2 I2 ⟨a,sb,ha⟩=>?_) hf)
 have aC:C≠a:=by
  rcases ha with z | z
  ·rw [z];exact f1
  ·exact fun q=>f4 y a z q.symm
 exact ⟨m,hn.sameBut sb aC,fun h' hs'=>⟨_,_,Inv.turned (t':=s2.toks) I2 (fun b o hb e=>hs'.extBut b o hb e) f0 f1 f3 f4 f5,rr D hD⟩⟩
end
section
variable {X:Cx}
theorem E7 (hc:Hm X):iI X (.builtin "sum") (fun xs H Q=>∃ (p:Addr) (ns:List Int),xs=[.ref p]∧bx X.K H p (ns.map V.int)∧Q (.int ns.sum) H):=by
 intro pins s σ H xs us Q I r h
 obtain ⟨p,ns,rfl,hq,q⟩:=h
 obtain ⟨u,rfl,ru⟩:=vals1 r
 cases ru
 obtain ⟨its,rv,pl,hz⟩:=I.list hq
 have hi:IntsAre its ns:=intsAre_of rv
 have lp:p < s.heap.objs.size:=let ⟨o,_,e,_⟩:=pl;Heap.lt_size e
 refine call_sum_walkAnyS (wpAny_pyIter_list pl.isList ?_)
 obtain ⟨a9,hh,KQ,_,_,_⟩:=hc.at I
 have la:a9 < s.heap.objs.size:=let ⟨_,_,e,_⟩:=KQ;Heap.lt_size e
 have W:=OG (prog:=X.prog) (w:=X.w) (A:=X.A.in1) hh s.heap.objs.size p (Nat.ne_of_lt lp) (Nat.ne_of_lt la) its.toArray
 refine ⟨s.heap.objs.size,_,_,_,_,_,_,(fun i=>ns.getD i 0),rfl,W.toS,⟨⟨⟨_,Heap.get?_push_size _ rfl,rfl,rfl⟩,pl.isList.at fun o e=>Heap.get?_push_of_some _ e⟩,KQ.at fun o e=>Heap.get?_push_of_some _ e⟩,fun b hb=>?_,fun i v hv=>?_,fun s' t' hm=>?_⟩
 ·show b < (s.heap.push _).objs.size
  rw [Heap.size_push]
  rcases List.mem_cons.mp hb with e | hb
  ·rw [e];exact Nat.lt_succ_self _
  rcases List.mem_cons.mp hb with e | hb
  ·rw [e];exact Nat.lt_succ_of_lt lp
  ·rw [List.mem_singleton.mp hb];exact Nat.lt_succ_of_lt la
 ·have hv:its.toArray[i]?=some v:=hv
  have hv:its[i]?=some v:=by simpa using hv
  have hl:=rv.length
  have hil:i < its.length:=(List.getElem?_eq_some_iff.mp hv).1
  rw [List.length_map] at hl
  obtain ⟨u,hu,ru⟩:=rv.get (i:=i) (x:=.int (ns.getD i 0)) (by rw [List.getElem?_map,List.getD_eq_getElem?_getD,List.getElem?_eq_getElem (by omega)];rfl)
  rw [hv] at hu
  cases hu
  exact ru
 ·have kp:∀ b o,s.heap.get? b=some o→s'.heap.get? b=some o:=fun b o e =>
   hm.heap b o (fun hI=>absurd (Heap.lt_size e) (by rw [List.mem_singleton.mp hI];exact Nat.lt_irrefl _)) (Heap.get?_push_of_some _ e)
  rw [Moved.eq_with hm]
  have hl:=rv.length
  rw [List.length_map] at hl
  have e:PySem.preSum (fun i=>ns.getD i 0) its.toArray.size=ns.sum:=by rw [List.size_toArray,← hl];exact rO ns
  rw [e]
  exact ⟨.int ns.sum,H,I.kept (t':=s'.toks) kp,⟨_,rfl⟩,q⟩
end
def Around.un (A:Around):Around:={ A with handled:=none }
structure xP (P:Program) (w:World) (K:PySem.W.Frag) (mg:Str→Option Value) (base:Heap) (k:Nat) (f:Addr) (fd:FuncData) (ps:List Str) (sp:Sp):Prop where
 len:∀ vs H Q E,sp vs H Q E→vs.length=ps.length
 run:∀ (A:Around) (outer:List Env) (s:Shared) (H:Hp) (args:Args) (us:List Value) (vs:List V) (Q:VK) (E:XK) (a:Addr),A.handled=some (.ref a)→qt s.heap a→H a=none→a ∉ frs outer→dj k (Around.un A)→zp P w K mg base A outer s H→BindsTo s fd args (ps.zip us)→Vals vs us→sp vs H Q E →
  codeAny (model P w) A (.call (.ref f) args) (CR dX outer P w H s Q E) s
def Ri (P:Program) (w:World) (K:PySem.W.Frag) (mg:Str→Option Value) (base:Heap) (k:Nat) (x:Str) (ps:List Str) (sp:Sp):Prop:=∃ f fd,xP P w K mg base k f fd ps sp∧mg x=some (.ref f)∧PySem.W.keepIn K (.ref f)=true∧Binds K fd ps []
section
variable {X:Cx} {k:Nat} {f:Addr} {fd:FuncData} {ps:List Str} {sp:Sp} {kr:List V} {ds:List Value} {x:Str} {p pos:Pos} {e:Expr} {es:List Expr} {t:TA} {E:XK}
theorem kU (hH:Hm X) (F:xP X.prog X.w X.K X.mg X.base k f fd ps sp) (hr:dj k (Around.un X.A)) (hg:Gl X x) (hm:X.mg x=some (.ref f)) (hk:PySem.W.keepIn X.K (.ref f)=true) (hb:Binds X.K fd ps ds) (hd:Vals kr ds) (hx:Passes dX X E)
  (ha:PA X (e::es) t) (hdb:(x == ("__debug__":Str))=false:=by decide) (he:starEach (e::es) X.env=(false,eval e X.env)::starEach es X.env:=by rfl) (hpl:(backTo pos (starEach es X.env)).any (·.1)=false:=by rfl) :
  PE X (.Call (.Name x p) (e::es) [] pos) (C9 sp kr E t):=by
 intro pins s σ H Q I h
 refine wpAny_Call_Name_kw (gB I hg hm ?_ hdb)
 refine PySem.W.callWith_K (h₀:=X.base) I.ok.mod.jb hk (cy (ha pos pins s σ H _ I h) fun us s1 ⟨vs,H1,I,r,h⟩=>⟨I.iX,?_⟩) he hpl
 have r2:Vals (vs++kr) (us++ds):=r.append hd
 have hl:(us++ds).length=ps.length:=by rw [← r2.length];exact F.len _ _ _ _ h
 obtain ⟨a9,hh,KQ,WV,hf9,_⟩:=hH.at I
 refine wpAny_call (codeAny_mono (F.run X.A X.stack s1 H1 ⟨us,[]⟩ (us++ds) (vs++kr) Q E a9 hh KQ WV hf9 hr I.J0 (hb s1 us I.iX hl) r2 h) fun r s' hq=>?_)
 cases r with
 | error e=>exact hx pins σ H1 s1 e s' I hq
 | ok fl =>
  cases fl with
  | ret u=>exact I.after hq
  | next=>exact False.elim hq
  | brk=>exact False.elim hq
  | cont=>exact False.elim hq
end
abbrev D6 (P:Program) (w:World) (K:PySem.W.Frag) (mg:Str→Option Value) (base:Heap) (N:List Str) (qual:Str) (scope:Scope) (f:Addr) (cd:Value) (A:Around) (outer:List Env) (s:Shared) (H:Hp) (E:XK) (a:Addr) (oe:Obj):Cx :=
 { zd dX P w K mg base N qual scope f cd A outer s H E with calm:=false,pn:=[(a,oe)],xe:=fun _ _=>False }
section
variable {P:Program} {w:World} {K:PySem.W.Frag} {mg:Str→Option Value} {base:Heap} {C:Addr}
theorem cX.okH {x qual:Str} {st:Stmt} {f:Addr} {fd:FuncData} {N ps:List Str} {k:Nat} {sp:Sp} (F:cX K x qual st f fd) (S:aG N ps (aj st)) (len:∀ vs H Q E,sp vs H Q E→vs.length=ps.length)
  (hbody:∀ (cdv:Value) (A:Around) (outer:List Env) (s:Shared) (H:Hp) (vs:List V) (Q:VK) (E:XK) (a:Addr) (oe:Obj),Hm (D6 P w K mg base N qual (aj st) f cdv A outer s H E a oe)→dj k (Around.un (A.deeper (envOfC qual (aj st) s.heap.objs.size f cdv)))→sp vs H Q E →
   ∃ t,xO (D6 P w K mg base N qual (aj st) f cdv A outer s H E a oe) (av st) t∧t { nx:=fun _ H'=>Q .eX H',rt:=Q } (start N vs) H):xP P w K mg base (k+1) f fd ps sp:=by
 obtain ⟨oc,od,kV,doc,pm,an,cdv,ct,osl,rfl,lk,hcd⟩:=F.ex
 refine ⟨len,fun A outer s H args us vs Q E a hh KQ WV hf9 hr e0 hb r EM=>?_⟩
 have hl:=len _ _ _ _ EM
 have KX:K.In s.heap:=e0.mod.jb.keeps fun b o e=>(e0.bs b o e).1
 have lim:s.heap.NoLimit:=e0.mod.nolimit.keeps fun b o e=>(e0.bs b o e).1
 have hkind:∀ y∈ps.zip us,(aj st).names.lookup y.1=some .local∨((aj st).names.lookup y.1=some .cell∧((cellsFrom (s.heap.objs.size+1) (aj st).names []).lookup y.1).isSome=true):=fun ⟨n,v⟩ hy=>by
  rcases S.par n (List.of_mem_zip hy).1 with q | q
  ·exact .inl q
  ·exact .inr ⟨q,PySem.W.cellsFrom_some _ _ _ (.inl q)⟩
 have KP:A.depth < recursionLimit:=hr.depth
 refine codeAny_call_function KP (KX _ _ lk) rfl S.co S.gen rfl (PySem.W.codeRec_of KX hcd) (hb _ _ _ _ ?_)
 refine wpAny_newFunctionEnv_cells S.kind hkind fun env he s1 x=>?_
 subst he
 refine ⟨lim.keeps x.toInCall.keep,codeAny_func ?_⟩
 obtain ⟨oe,fs,ea,hd,h2⟩:=id KQ
 obtain ⟨t,ht,hq⟩:=hbody cdv A outer s H vs Q E a oe ⟨a,oe,fs,hh,List.mem_singleton.mpr rfl,hd,h2⟩ (hr.deeper _) EM
 have e1:zp P w K mg base (Around.un A) outer s H:=⟨e0.frames,e0.mod,e0.bs,e0.AO,e0.lH,e0.Fz,e0.hok,e0.bare⟩
 have I0:Inv (zd dX P w K mg base N qual (aj st) f cdv (Around.un A) outer s H E) [] (start N vs) H s1:=xq S rfl e1 hl r x
 have I:Inv (D6 P w K mg base N qual (aj st) f cdv A outer s H E a oe) [] (start N vs) H s1 :=
  ⟨⟨I0.ok.mod,I0.ok.kind,I0.ok.glob,I0.ok.blt,I0.ok.above,I0.ok.inj,I0.ok.has,I0.ok.MZ,(fun z=>nomatch z),Around.frames_deeper e0.frames,I0.ok.stk,I0.ok.KR,I0.ok.bs,I0.ok.AO,I0.ok.wD,I0.ok.wH,I0.ok.lH,I0.ok.Fz⟩,
   I0.os,I0.bare,I0.base,I0.loc,I0.cell,I0.free,I0.gF,fun p hp=>by
    have hp:p=(a,oe):=by simpa using hp
    subst hp
    exact ⟨x.toInCall.keep _ _ ea,WV,Nat.ne_of_lt (Heap.lt_size ea),hf9,fun v z=>by rw [hd] at z;cases z⟩,I0.hok,I0.len⟩
 refine wpAny_mono (ht [] s1 (start N vs) H _ I hq) (fun fl s' hs=>?_) fun e s' hs=>False.elim hs
 have fin:∀ {σ':St} {H':Hp} {v:V} {u:Value},Inv (D6 P w K mg base N qual (aj st) f cdv A outer s H E a oe) [] σ' H' s'→RelV v u→Q v H'→CE outer P w H s Q u s' :=
  fun {σ' H' v u} J rv q=>⟨v,H',J.os,J.bare,J.base,J.hok,rv,q⟩
 cases fl with
 | ret u =>
  obtain ⟨v,σ',H',J,rv,q⟩:=hs
  exact fin J rv q
 | next =>
  obtain ⟨σ',H',J,q⟩:=hs
  exact fin (v:=V.eX) (u:=Value.none) J rfl q
 | brk =>
  obtain ⟨_,_,_,q⟩:=hs
  exact False.elim q
 | cont =>
  obtain ⟨_,_,_,q⟩:=hs
  exact False.elim q
end
end L2
namespace L2
open PySem PySem.Spec PyProof.Rows
theorem Hm.suite {X:Cx} {a:Addr} {oe:Obj} {pn:List (Addr×Obj)} (h:∃ vs,oe.data=.fields vs∧vs[2]?=some .none):Hm (X.suite a ((a,oe)::pn)):=let ⟨vs,h1,h2⟩:=h;⟨a,oe,vs,rfl,List.mem_cons_self,h1,h2⟩
theorem dj.unH {k:Nat} {A:Around} {h:Option Value} (r:dj k A):dj k (Around.un (A.mark h)):=⟨rfl,r.dp,r.un⟩
theorem Er {X:Cx} {K:PySem.W.Frag} (h:X.K=K) (hu:X.A.units < cLine):oB X (compareOp .Eq) (Hj K):=h ▸ HV hu
end L2
namespace Hw
open PySem L2
def ya (Z:Cz):Sp:=fun vs H Q _=>∃ (l:Addr) (cs:Cs),vs=[.ref l]∧cQ Z H l cs∧cs.length≤64∧(∀ k∈cs,k.length≤1000)∧∀ (r:Addr) (H':Hp),az H H'→H r=none→CT H' r cs→Q (.ref r) H'
end Hw
namespace Hw
open PySem L2
theorem DP (f:Str→Int):∀ (n:Nat) (l:List Rw),l.length=n→∀ x,x∈keys (gz f l).1↔x∈gY l
 | 0,l,h=>by
  rw [List.length_eq_zero_iff.mp h]
  exact fun x=>Iff.rfl
 | n+1,l,h=>by
  have hne:l≠[]:=fun z=>by rw [z] at h;cases h
  have e:l=l.dropLast++[l.getLast hne]:=(List.dropLast_concat_getLast hne).symm
  have ih:=DP f n l.dropLast (by rw [List.length_dropLast];omega)
  rw [e,jT]
  generalize l.getLast hne=r
  generalize l.dropLast=m at ih
  cases r with
  | any x=>exact lX rfl ih
  | lt x a k=>exact lX rfl ih
  | hold c =>
   intro x
   rw [ee]
   show x∈keys (gz f m).1↔x∈gY m++[]
   rw [List.append_nil]
   exact ih x
end Hw
namespace L2
open PySem PySem.Spec PyProof.Rows
def O1 (K:PySem.W.Frag):R2:=fun x y H Q=>∃ a b xs,x=.ref a∧y=.ref b∧bx K H a xs∧bx K H b xs∧(∀ v∈xs,∃ t,v=.ref t)∧Q (.bl false) H
theorem Ph {X:Cx} (hu:X.A.units+1+6 < cLine):oB X (compareOp .NotEq) (O1 X.K):=by
 intro pins s σ H x y v u Q I rx ry h
 obtain ⟨a,b,xs,rfl,rfl,ha,hb,hr,q⟩:=h
 cases rx
 cases ry
 have fin:EP X pins σ Q (.bool false) s:=⟨.bl false,H,I,rfl,q⟩
 obtain ⟨us,r1,p1,_⟩:=I.list ha
 obtain ⟨vs,r2,p2,_⟩:=I.list hb
 have l1:=r1.length
 have l2:=r2.length
 have it:∀ (j:Nat) (h1:j < us.toArray.size) (h2:j < vs.toArray.size),SeqAt.EqAt X.A.in1 s us.toArray[j] vs.toArray[j] true:=by
  intro j h1 h2
  simp only [List.size_toArray] at h1 h2
  have e1:xs[j]?=some xs[j]:=List.getElem?_eq_getElem (by omega)
  obtain ⟨t,ht⟩:=hr xs[j] (List.getElem_mem (by omega))
  rw [ht] at e1
  obtain ⟨u,hu,ru⟩:=r1.get e1
  obtain ⟨v,hv,rv⟩:=r2.get e1
  have JC:us.toArray[j]=u:=by
   rw [List.getElem?_eq_getElem h1] at hu;simpa using hu
  have hv':vs.toArray[j]=v:=by
   rw [List.getElem?_eq_getElem h2] at hv;simpa using hv
  rw [JC,hv']
  cases ru
  cases rv
  exact SeqAt.EqAt.same _
 exact SeqAt.RcNeAt.lists (A:=X.A) (e:=fun _=>true) p1.isList p2.isList (by simp only [List.size_toArray];omega) (by omega) it _ _ _ _ (by rw [q8];exact fin)
end L2
namespace Hw
open PySem L2
theorem wU {α:Type} (v:α):∀ n:Nat,(List.replicate n [v]).flatten=List.replicate n v
 | 0=>rfl
 | n+1=>by rw [List.replicate_succ,List.flatten_cons,wU v n];rfl
theorem tP {H:Hp} {v:V} {r:Rw} (h:fu H v r):∀ n:Nat,gK H (List.replicate n v) (List.replicate n r)
 | 0=>.nil
 | n+1=>.cons h (tP h n)
theorem xN (x:Str):∀ n:Nat,cG (List.replicate n (.any x))=n
 | 0=>rfl
 | n+1=>by show cG (List.replicate n (Rw.any x))+1=n+1;rw [xN x n]
def b0p (e:List Rw×Cd):Prop:=oA e.1∧e.1.length≤20∧cG e.1≤19∧Dh (gY e.1) (.hold e.2)
def Nc (Z:Cz) (Db d pl:Addr) (H:Hp) (v:V) (e:List Rw×Cd):Prop:=b0p e∧∃ t p a w us,v=.ref t∧H t=some (.tup [.ref p,.ref a,w])∧je Z Db H p e.1 e.2∧H a=some (.lst us)∧a≠d∧a≠pl∧gK H us e.1∧bf H e.2 w
theorem Nc.keep {Z:Cz} {Db d pl:Addr} {H H':Hp} {v:V} {e:List Rw×Cd} (h:Nc Z Db d pl H v e) (k:aE H H') (ka:∀ b us,b≠d→b≠pl→H b=some (.lst us)→H' b=some (.lst us)):Nc Z Db d pl H' v e :=
 let ⟨o,t,p,a,w,us,e0,e1,D,e2,n1,n2,T,td⟩:=h;⟨o,t,p,a,w,us,e0,k.t _ _ e1,D.aH k,ka a us n1 n2 e2,n1,n2,aN T k,td.aH k⟩
theorem wR {Z:Cz} {H:Hp}:∀ {us:List V} {rs:List Rw},ow Z H us rs→∀ v∈us,∃ t,v=.ref t
 | _,_,.nil,v,h=>nomatch h
 | _,_,.cons (b:=r) a b,v,h=>by
  rcases List.mem_cons.mp h with e | e
  ·rw [e]
   cases r with
   | any x=>obtain ⟨p,z,_⟩:=a;exact ⟨p,z⟩
   | lt x c n=>obtain ⟨p,q,z,_⟩:=a;exact ⟨p,z⟩
   | hold c=>obtain ⟨p,q,z,_⟩:=a;exact ⟨p,z⟩
  ·exact wR b v e
end Hw
namespace Hw
open PySem L2
theorem DV {P:Program} {w:World} {K:PySem.W.Frag} {mg:Str→Option Value} {base:Heap} {x:Str} {ps:List Str} {sp:Nat→Sp} {lv:Nat→Nat} {f:Addr} {fd:FuncData}
  (hm:mg x=some (.ref f)) (hk:PySem.W.keepIn K (.ref f)=true) (hb:Binds K fd ps []) (h0:∀ vs H Q E,¬ sp 0 vs H Q E)
  (hs:∀ n,Ri P w K mg base (lv n) x ps (sp n)→xP P w K mg base (lv (n+1)) f fd ps (sp (n+1))):∀ n,Ri P w K mg base (lv n) x ps (sp n)
 | 0=>⟨f,fd,⟨fun vs H Q E h=>absurd h (h0 _ _ _ _),fun _ _ _ _ _ _ _ _ _ _ _ _ _ _ _ _ _ _ h=>absurd h (h0 _ _ _ _)⟩,hm,hk,hb⟩
 | n+1=>⟨f,fd,hs n (DV hm hk hb h0 hs n),hm,hk,hb⟩
end Hw
set_option maxHeartbeats 8000000
namespace Hw
open PySem L2 PyProof.Rows
def top (i:Nat):Stmt:=PySem.Challenge.pw_holdwright_k39_debts_plain.main.body.getD i (.Pass ⟨0,0,0,0⟩)
end Hw
namespace Hw
open PySem L2 PyProof.Rows
section
variable {P:Program} {w:World} {K:PySem.W.Frag} {mg:Str→Option Value} {base:Heap}
abbrev uA:Stmt:=inClass (top 5) 0
theorem wu:aG ["self","terms","number"] ["self","terms","number"] (aj uA):=⟨rfl,rfl,rfl,by decide +kernel,rfl,by decide +kernel,by decide +kernel⟩
theorem LM {f C:Addr} {fd:FuncData} (F:cX K "__init__" "Sum.__init__" uA f fd) (T:Txt K mg C) :bu P w K mg base dX 1 f fd ["self","terms","number"] (kG C):=by
 refine F.ok wu (fun vs H Q E h=>?_) (fun cdv A outer s H vs Q E hr h=>?_)
 ·obtain ⟨p,dx,l,n,ps,rfl,hp,hs,hz,k⟩:=h
  rfl
 ·obtain ⟨p,dx,l,n,ps,rfl,hp,hs,hz,k⟩:=h
  have hu:=br hr
  rw [show av uA=[_,_] from rfl]
  refine ⟨_,(ao (gP (pv 0) (bz bT (by rfl) T.tuple boot_tuple (aa (cB (bq ["pair"] [] [] rfl (by decide +kernel) (by decide +kernel) (by with_unfolding_all rfl) (by exact trivial) (by rfl) rfl (by rfl)) rfl (HE (pv 1)) (fun _ _ _ _=>(aK (i:=0) (show List.Nodup (["pair"]:List Str) by decide +kernel) rfl (Or.inl rfl) (Or.inr rfl))) (fun _ _ _ _=>cA) (fun _ _ _ _=>(bz (lM (K:=K) rfl) (by rfl) T.tuple boot_tuple (aa (pv 0) ai)))) ai)) rfl)
   (au (gP (pv 0) (pv 2) rfl))),?_⟩
  refine ⟨_,rfl,l,rfl,MW hs (fun i ys H'=>H'=H∧zB H ys (ps.take i)) ⟨rfl,.nil⟩ (fun i ys H' q=>q.1 ▸ Kp.refl) ?_ ?_⟩
  ·rintro i v pr ys H' hi ⟨a,rfl,ha⟩ ⟨rfl,hy⟩
   refine ⟨Ext.one,jw ⟨_,rfl,a,_,rfl,.inr ⟨aV.of ha,?_,rfl,?_⟩⟩⟩
   ·rw [dI hy,List.length_take]
    exact line _ (by omega)
   ·rw [take_snoc hi]
    exact iR hy (mz ⟨a,rfl,ha⟩)
  ·rintro ys H' ⟨rfl,hy⟩ q hq
   rw [List.take_length] at hy
   refine ⟨q,_,rfl,.inl ⟨bx.of ah,fun t ht=>?_⟩⟩
   have npq:p≠q:=aq hp hq
   have h1:upd H' q (.lst ys) p=some (.ins C dx []):=by rw [aA npq];exact hp
   have LU:p≠t:=aq h1 ht
   refine ⟨_,rfl,p,C,dx,[],rfl,(by rw [aA LU];exact h1),T.cl,T.nT,(by show 0 < 1000;decide),?_⟩
   refine ⟨_,rfl,_,rfl,p,C,dx,_,rfl,ah,T.cl,T.nN,(by show 1 < 1000;decide),?_⟩
   have b:bI p H' (upd (upd (upd (upd H' q (.lst ys)) t (.tup ys)) p (.ins C dx (gg "terms" (.ref t) []))) p (.ins C dx (rB t n))) :=
    (((bI.of (new hq)).new ht).trans bI.upd).trans bI.upd
   refine k _ b ⟨dx,t,ah,⟨ys,?_,hy.keep ?_⟩,hz⟩
   ·rw [aA LU.symm,aA LU.symm,ah]
   ·exact (Kp.but b (by intro xs;rw [hp];intro z;cases z) (by intro xs;rw [hp];intro z;cases z)).t
abbrev nA:Stmt:=inClass (top 5) 1
theorem yk:aG ["self","numbers"] ["self","numbers"] (aj nA):=⟨rfl,rfl,rfl,by decide +kernel,rfl,by decide +kernel,by decide +kernel⟩
theorem Ic {f C:Addr} {fd:FuncData} (F:cX K "value" "Sum.value" nA f fd) (T:Txt K mg C) :bu P w K mg base dX 1 f fd ["self","numbers"] (xZ C):=by
 refine F.ok yk (fun vs H Q E h=>?_) (fun cdv A outer s H vs Q E hr h=>?_)
 ·obtain ⟨p,d,ts,ns,n,rfl,S,N,hk,k⟩:=h
  rfl
 ·obtain ⟨p,d,ts,ns,n,rfl,S,N,hk,k⟩:=h
  have hu:=br hr
  rw [show av nA=[_] from rfl]
  refine ⟨_,(au (aI (bg dQ (aY (pv 0) rfl) (bU (Ke rfl) (by rfl) T.sum boot_sum (aa (cB (bq ["thing","weight"] ["numbers"] [1] rfl (by decide +kernel) (by decide +kernel) (by with_unfolding_all rfl) (by exact ⟨rfl,trivial⟩) (by rfl) rfl (by rfl)) rfl (cZ (aY (pv 0) rfl)) (fun _ _ _ _=>(Dk (K:=K) (n:=2) rfl rfl (cN (aK (i:=0) (show List.Nodup (["thing","weight","numbers"]:List Str) by decide +kernel) rfl (Or.inl rfl) (Or.inr rfl)) (cN (aK (i:=1) (show List.Nodup (["thing","weight","numbers"]:List Str) by decide +kernel) rfl (Or.inl rfl) (Or.inr rfl)) jM)))) (fun _ _ _ _=>cA) (fun _ _ _ _=>(bg fP (pv 1) (mC hu (pv 2) (pv 0) (fun _ _=>rfl))))) ai))))),?_⟩
  obtain ⟨dx,t,hp,ht,hz⟩:=S
  have tz:=line _ (show ts.length≤100000 by omega)
  refine ⟨_,rfl,p,C,dx,_,_,rfl,hp,T.cl,T.nN,bJ _ _,_,rfl,p,C,dx,_,_,rfl,hp,T.cl,T.nT,bY _ _,t,rfl,ze ht (fun i ys H'=>H'=H∧ys=((ts.take i).map fun q=>q.2*get ns q.1).map V.int) ⟨rfl,rfl⟩ (fun i ys H' q=>q.1 ▸ Kp.refl) ?_ ?_⟩
  ·rintro i v pr ys H' hi ⟨a,rfl,ha⟩ ⟨rfl,rfl⟩
   have hil:i < ts.length:=(List.getElem?_eq_some_iff.mp hi).1
   have hm:pr.1∈keys ns:=hk _ (List.mem_map.mpr ⟨pr,List.mem_of_getElem? hi,rfl⟩)
   refine ⟨a,_,rfl,aV.of ha,rfl,_,_,rfl,_,_,rfl,rfl,Ext.two,jw ⟨_,rfl,_,rfl,_,rfl,d,_,rfl,kX N.at_ hm,_,_,rfl,rfl,.inr (N.fit _),?_,rfl,?_⟩⟩
   ·rw [List.length_map,List.length_map,List.length_take]
    omega
   ·rw [take_snoc hi,List.map_append,List.map_append]
    rfl
  ·rintro ys H' ⟨rfl,rfl⟩ q hq
   refine ⟨q,_,rfl,bx.of ah,_,_,rfl,rfl,?_⟩
   rw [List.take_length,DF]
   exact k _ (new hq)
abbrev ur:Stmt:=inClass (top 5) 2
theorem zQ:aG ["self","other"] ["self","other"] (aj ur):=⟨rfl,rfl,rfl,by decide +kernel,rfl,by decide +kernel,by decide +kernel⟩
theorem LB {f C:Addr} {fd:FuncData} (F:cX K "plus" "Sum.plus" ur f fd) (T:Txt K mg C) (AK:Dn P w K mg base 3 "sum_of" ["pairs","number"] (oH C)):bu P w K mg base dX 4 f fd ["self","other"] (Bv C):=by
 obtain ⟨Od,JP,lT,jm,jr,lO⟩:=AK
 refine F.ok zQ (fun vs H Q E h=>?_) (fun cdv A outer s H vs Q E hr h=>?_)
 ·obtain ⟨p,q,a,b,n,m,rfl,S1,S2,hz,k⟩:=h
  rfl
 ·obtain ⟨p,q,a,b,n,m,rfl,S1,S2,hz,k⟩:=h
  have hu:=br hr
  rw [show av ur=[_] from rfl]
  refine ⟨_,(au (aI (aB lT (hr.mono (by first | decide | omega)) rfl jm jr lO .nil aD (aa (bg pC (aY (pv 0) rfl) (aY (pv 1) rfl)) (aa (bg dQ (aY (pv 0) rfl) (aY (pv 1) rfl)) ai))))),?_⟩
  obtain ⟨dx,t1,hp,⟨VS,e1,r1⟩,z1⟩:=id S1
  obtain ⟨RP,t2,hq,⟨VR,e2,r2⟩,z2⟩:=id S2
  have lz:VS.length+VR.length≤sizeLine:=by
   rw [dI r1,dI r2]
   exact Nat.le_of_lt (line _ (by omega))
  have go:∀ (r:Addr) (H':Hp),az H H'→Tp H' r (a++b)→∃ (x:Addr) (nn:Int) (ps:Ps),[V.ref r,V.int (n+m)]=[.ref x,.int nn]∧Sq H' x ps∧ps.length < 64 ∧
    ∀ (r:Addr) (ts:Ps) (H2:Hp),az H' H2→sJ ps ts→ts.length≤ps.length→bO C H2 r ts nn→Q (.ref r) H2:=fun r H' sm tp =>
   ⟨r,n+m,a++b,rfl,.inr tp,by rw [List.length_append];exact hz,fun r2 ts H2 zz g l S=>k r2 ts H2 (sm.trans zz) g (by rw [List.length_append] at l;exact l) S⟩
  refine ⟨_,rfl,p,C,dx,_,_,rfl,hp,T.cl,T.nT,bY _ _,_,rfl,q,C,RP,_,_,rfl,hq,T.cl,T.nT,bY _ _,t1,t2,VS,VR,rfl,rfl,aV.of e1,aV.of e2,lz,fun h0=>?_,fun _ h0=>?_,fun _ _ r hr'=>?_⟩
  ·subst h0
   cases r1
   refine ⟨_,rfl,p,C,dx,_,_,rfl,hp,T.cl,T.nN,bJ _ _,_,rfl,q,C,RP,_,_,rfl,hq,T.cl,T.nN,bJ _ _,_,_,rfl,rfl,?_⟩
   exact go t2 H (az.refl _) ⟨VR,e2,r2⟩
  ·subst h0
   cases r2
   refine ⟨_,rfl,p,C,dx,_,_,rfl,hp,T.cl,T.nN,bJ _ _,_,rfl,q,C,RP,_,_,rfl,hq,T.cl,T.nN,bJ _ _,_,_,rfl,rfl,?_⟩
   exact go t1 H (az.refl _) ⟨VS,e1,by rw [List.append_nil];exact r1⟩
  ·have sm:az H (upd H r (.tup (VS++VR))):=new hr'
   refine ⟨_,rfl,p,C,dx,_,_,rfl,sm _ _ hp,T.cl,T.nN,bJ _ _,_,rfl,q,C,RP,_,_,rfl,sm _ _ hq,T.cl,T.nN,bJ _ _,_,_,rfl,rfl,?_⟩
   exact go r _ sm ⟨_,ah,iR (r1.keep fun _ _ z=>sm _ _ z) (r2.keep fun _ _ z=>sm _ _ z)⟩
abbrev nB:Stmt:=inClass (top 5) 4
theorem ym:aG ["self","number"] ["self","number"] (aj nB):=⟨rfl,rfl,rfl,by decide +kernel,rfl,by decide +kernel,by decide +kernel⟩
theorem Ih {f C:Addr} {fd:FuncData} (F:cX K "times" "Sum.times" nB f fd) (T:Txt K mg C) (AK:Dn P w K mg base 3 "sum_of" ["pairs","number"] (oH C)):bu P w K mg base dX 4 f fd ["self","number"] (sO C):=by
 obtain ⟨Od,JP,lT,jm,jr,lO⟩:=AK
 refine F.ok ym (fun vs H Q E h=>?_) (fun cdv A outer s H vs Q E hr h=>?_)
 ·obtain ⟨p,a,n,kk,rfl,S,hz,hk,k⟩:=h
  rfl
 ·obtain ⟨p,a,n,kk,rfl,S,hz,hk,k⟩:=h
  have hu:=br hr
  rw [show av nB=[_] from rfl]
  refine ⟨_,(au (aI (aB lT (hr.mono (by first | decide | omega)) rfl jm jr lO .nil aD (aa (cB (bq ["thing","weight"] ["number"] [1] rfl (by decide +kernel) (by decide +kernel) (by with_unfolding_all rfl) (by exact ⟨rfl,trivial⟩) (by rfl) rfl (by rfl)) rfl (cZ (aY (pv 0) rfl)) (fun _ _ _ _=>(Dk (K:=K) (n:=2) rfl rfl (cN (aK (i:=0) (show List.Nodup (["thing","weight","number"]:List Str) by decide +kernel) rfl (Or.inl rfl) (Or.inr rfl)) (cN (aK (i:=1) (show List.Nodup (["thing","weight","number"]:List Str) by decide +kernel) rfl (Or.inl rfl) (Or.inr rfl)) jM)))) (fun _ _ _ _=>cA) (fun _ _ _ _=>(bG (aa (pv 0) (aa (bg fP (pv 1) (pv 2)) ai))))) (aa (bg fP (aY (pv 0) rfl) (pv 1)) ai))))),?_⟩
  obtain ⟨dx,t,hp,ht,hz'⟩:=id S
  have tz:=line _ (show a.length≤100000 by omega)
  refine ⟨_,rfl,p,C,dx,_,_,rfl,hp,T.cl,T.nT,bY _ _,t,rfl,ze ht (fun i ys H'=>az H H'∧zB H' ys ((a.take i).map fun q=>(q.1,q.2*kk))) ⟨az.refl _,.nil⟩ (fun i ys H' q=>Kp.of q.1) ?_ ?_⟩
  ·rintro i v pr ys H' hi ⟨b,rfl,hb⟩ ⟨sm,py⟩
   have hil:i < a.length:=(List.getElem?_eq_some_iff.mp hi).1
   refine ⟨b,_,rfl,aV.of hb,rfl,_,_,rfl,_,_,rfl,rfl,Ext.two,jw ⟨_,rfl,_,rfl,_,rfl,_,_,rfl,rfl,.inr hk,(szl 2),fun q hq=>⟨?_,az.new sm hq,?_⟩⟩⟩
   ·rw [dI py,List.length_map,List.length_take]
    omega
   ·rw [take_snoc hi,List.map_append]
    exact iR (py.keep fun _ _ z=>new hq _ _ z) (mz ⟨q,rfl,ah⟩)
  ·rintro ys H' ⟨sm,py⟩ q hq
   rw [List.take_length] at py
   have s1:az H (upd H' q (.lst ys)):=az.new sm hq
   refine ⟨_,rfl,p,C,dx,_,_,rfl,s1 _ _ hp,T.cl,T.nN,bJ _ _,_,rfl,_,_,rfl,rfl,.inr hk,?_⟩
   refine ⟨q,n*kk,_,rfl,.inl ⟨ys,ah,py.keep fun _ _ z=>new hq _ _ z⟩,by rw [List.length_map];exact hz,fun r ts H2 zz g l S2=>k r ts H2 (s1.trans zz) g (by rw [List.length_map] at l;exact l) S2⟩
abbrev ux:Stmt:=inClass (top 5) 3
theorem zR:aG ["self","other"] ["self","other"] (aj ux):=⟨rfl,rfl,rfl,by decide +kernel,rfl,by decide +kernel,by decide +kernel⟩
theorem LK {f C:Addr} {fd:FuncData} (F:cX K "less" "Sum.less" ux f fd) (T:Txt K mg C) (QL:Mt P w K mg base 4 C "plus" ["self","other"] (Bv C)) (zb:Mt P w K mg base 4 C "times" ["self","number"] (sO C)):bu P w K mg base dX 5 f fd ["self","other"] (tY C):=by
 obtain ⟨a5O,W3,CV,PF,CL⟩:=QL
 obtain ⟨MD,JO,lU,yI,lP⟩:=zb
 refine F.ok zR (fun vs H Q E h=>?_) (fun cdv A outer s H vs Q E hr h=>?_)
 ·obtain ⟨p,q,a,b,n,m,rfl,S1,S2,hz,k⟩:=h
  rfl
 ·obtain ⟨p,q,a,b,n,m,rfl,S1,S2,hz,k⟩:=h
  have hu:=br hr
  rw [show av ux=[_] from rfl]
  refine ⟨_,(au (aI (gA (pv 0) T.cl PF CV (hr.mono (by first | decide | omega)) CL .nil aD (aa (gA (pv 1) T.cl yI lU (hr.mono (by first | decide | omega)) lP .nil aD (aa (uD nh ak) ai)) ai)))),?_⟩
  obtain ⟨dx,t1,hp,ht1,z1⟩:=id S1
  obtain ⟨RP,t2,hq,N2,z2⟩:=id S2
  refine ⟨_,rfl,p,dx,_,rfl,hp,dM _ _ (by decide +kernel) (by decide +kernel),_,rfl,q,RP,_,rfl,hq,dM _ _ (by decide +kernel) (by decide +kernel),_,rfl,?_⟩
  refine ⟨q,b,m,-1,rfl,S2,by omega,⟨by decide,by decide⟩,fun r ts H1 g8 g1 l1 S1'=>?_⟩
  refine ⟨p,r,a,ts,n,m*-1,rfl,S1.same g8,S1',by omega,fun r2 ts2 H2 zz g2 l2 S2'=>?_⟩
  refine k r2 ts2 H2 (g8.trans zz) ⟨g2.1,fun f=>?_⟩ (by omega) ?_
  ·rw [g2.2,cE,cE,g1.2,uX,yP]
   omega
  ·have e:n+m*-1=n - m:=by omega
   rw [← e]
   exact S2'
abbrev nG:Stmt:=inClass (top 5) 5
theorem cY:aG ["self","sums","pairs","number","thing","weight","stands_in"] ["self","sums"] (aj nG):=⟨rfl,rfl,rfl,by decide +kernel,rfl,by decide +kernel,by decide +kernel⟩
theorem Ew {f C:Addr} {fd:FuncData} (F:cX K "put_in" "Sum.put_in" nG f fd) (T:Txt K mg C) (zb:Mt P w K mg base 4 C "times" ["self","number"] (sO C)) (AK:Dn P w K mg base 3 "sum_of" ["pairs","number"] (oH C)):bu P w K mg base dX 5 f fd ["self","sums"] (tX C):=by
 obtain ⟨MD,JO,lU,yI,lP⟩:=zb
 obtain ⟨Od,JP,lT,jm,jr,lO⟩:=AK
 refine F.ok cY (fun vs H Q E h=>?_) (fun cdv A outer s H vs Q E hr h=>?_)
 ·obtain ⟨p,d,ts,n,kvs,S,rfl,S0,rd,rl,h3,hf,k⟩:=h
  rfl
 ·obtain ⟨p,d,ts,n,kvs,S,rfl,S0,rd,rl,h3,hf,k⟩:=h
  have hu:=br hr
  rw [show av nG=[_,_,_,_] from rfl]
  refine ⟨_,(ao (aO (i:=2) cY.nd rfl (Or.inl rfl) (bB ai))
   (ao (aO (i:=3) cY.nd rfl (Or.inl rfl) (aY (pv 0) rfl))
   (ao (dP PassesOwn.never rfl (cZ (aY (pv 0) rfl)) (qK rfl (cN (aK (i:=4) cY.nd rfl (Or.inl rfl)) (cN (aK (i:=5) cY.nd rfl (Or.inl rfl)) jM))) (au (bS (O7 (Pe hu (pv 4) (pv 1))) (ao (aO (i:=6) cY.nd rfl (Or.inl rfl) (gA (mC hu (pv 1) (pv 4) (fun _ _=>rfl)) T.cl yI lU (hr.mono (by first | decide | omega)) lP .nil aD (aa (pv 5) ai)))
   (ao (cT (iS PySem.F.plainAttrs_list PySem.F.slot_list_extend PySem.F.type_list_extend BP (pv 2) (aa (aY (pv 6) rfl) ai)))
   (au (aO (i:=3) cY.nd rfl (Or.inl rfl) (bg dQ (pv 3) (aY (pv 6) rfl)))))) (au (cT (iS PySem.F.plainAttrs_list PySem.F.slot_list_append PySem.F.type_list_append eS (pv 2) (aa (bG (aa (pv 4) (aa (pv 5) ai))) ai)))))))
   (au (aI (aB lT (hr.mono (by first | decide | omega)) rfl jm jr lO .nil aD (aa (pv 2) (aa (pv 3) ai)))))))),?_⟩
  obtain ⟨dx,t,hp,ht,hz⟩:=id S0
  have two:2≤sizeLine:=Nat.le_of_lt (line 2 (by decide))
  have lz:=line 1000 (by decide)
  refine ⟨(Nat.zero_le _),fun P hP=>?_⟩
  have s1:az H (upd H P (.lst [])):=new hP
  refine ⟨_,rfl,p,C,dx,_,_,rfl,s1 _ _ hp,T.cl,T.nN,bJ _ _,?_⟩
  refine ⟨_,rfl,p,C,dx,_,_,rfl,s1 _ _ hp,T.cl,T.nT,bY _ _,t,rfl,DU (ht.same s1) (fun i σ H'=>∃ (m:Int) (qs:Ps) (a4 a5 a6:Option V),σ=[some (.ref p),some (.ref d),some (.ref P),some (.int m),a4,a5,a6]∧bI P (upd H P (.lst [])) H'∧Lp H' P qs∧(∀ f,bH qs f=bH (ni S (ts.take i)) f)∧qs.length≤20*i∧m=n+i0 S (ts.take i)) ⟨n,[],none,none,none,rfl,fun _ _ e _=>e,⟨[],ah,.nil⟩,fun _=>rfl,Nat.le_refl _,(by show n=n+0;omega)⟩ ?_ ?_ ?_⟩
  ·rintro i σ H' ⟨m,qs,a4,a5,a6,rfl,b,L,lq,ll,em⟩ c xs e
   exact b.tups ah _ _ e
  ·rintro i v pr σ H' hi ⟨c,rfl,hc⟩ ⟨m,qs,a4,a5,a6,rfl,b,L,lq,ll,em⟩
   have hil:i < ts.length:=(List.getElem?_eq_some_iff.mp hi).1
   have hsm:=(h3.2 pr (List.mem_of_getElem? hi)).w
   have sH:az H H':=fun b' o e=>b b' o (s1 _ _ e) (aq e hP)
   have rd':Rd H' d (.dK kvs):=rd.elim (fun z=>.inl (sH _ _ z)) fun ⟨o,z⟩=>.inr ⟨o,sH _ _ z⟩
   have rl':Rl (Ku C H') kvs S:=rl.mono fun u q z=>bO.same z sH
   obtain ⟨vs,eP,rP⟩:=id L
   have vl:=dI rP
   have ht3:=h3.1
   refine ⟨c,_,rfl,aV.of hc,rfl,_,_,rfl,_,_,rfl,rfl,?_⟩
   cases lk:look S pr.1 with
   | none =>
    refine ⟨_,rfl,_,rfl,d,none,rfl,.inl ⟨kvs,Sum.inr pr.1,rd',rfl,(rl'.none lk).symm⟩,_,rfl,wG ?_⟩
    refine ⟨_,rfl,.inl ⟨rfl,_,bx.of eP⟩,_,rfl,_,rfl,two,fun q hq=>?_⟩
    have eP1:=new (o:=.tup [.str pr.1,.int pr.2]) hq _ _ eP
    refine ⟨P,_,_,rfl,rfl,eP1,(by omega),?_⟩
    refine ⟨m,qs++[pr],_,_,_,rfl,(b.new hq).trans bI.upd,⟨_,ah,?_⟩,fun f=>?_,?_,?_⟩
    ·have kp:∀ b' xs,upd H' q (.tup [.str pr.1,.int pr.2]) b'=some (.tup xs)→upd (upd H' q (.tup [.str pr.1,.int pr.2])) P (.lst (vs++[.ref q])) b'=some (.tup xs):=fun b' xs e=>by
      rw [aA (mX e eP1 (by intro w;cases w))]
      exact e
     exact iR ((rP.keep fun _ _ z=>new hq _ _ z).keep kp) (mz ⟨q,rfl,kp _ _ ah⟩)
    ·have e:tS S pr=[pr]:=by unfold tS;rw [lk]
     rw [take_snoc hi,wO,cE,cE,lq,e]
    ·rw [List.length_append,List.length_singleton];omega
    ·have e:xW S pr=0:=by unfold xW;rw [lk]
     rw [take_snoc hi,wQ,e];omega
   | some sq =>
    obtain ⟨u,eu,Su⟩:=rl'.some lk
    have Su:bO C H' u sq.1 sq.2:=Su
    have sl:sq.1.length≤20:=hf _ (uW lk)
    obtain ⟨du,tu,JC,_⟩:=id Su
    have dg:rm H' d (.str pr.1) (some (.ref u)):=.inl ⟨kvs,Sum.inr pr.1,rd',rfl,eu.symm⟩
    refine ⟨_,rfl,_,rfl,d,some (.ref u),rfl,dg,_,rfl,vm ?_⟩
    refine ⟨_,rfl,_,rfl,d,_,rfl,dg,u,du,_,rfl,JC,dM _ _ (by decide +kernel) (by decide +kernel),_,rfl,u,sq.1,sq.2,pr.2,rfl,Su,by omega,hsm,fun r us H2 zz g l Sr=>?_⟩
    obtain ⟨dr,tr,er,⟨vr,etr,rr⟩,_⟩:=id Sr
    have X4:=zz _ _ eP
    have vrl:=dI rr
    refine ⟨_,rfl,.inl ⟨rfl,_,bx.of X4⟩,_,rfl,r,C,dr,_,_,rfl,er,T.cl,T.nT,bY _ _,P,tr,_,_,rfl,rfl,X4,aV.of etr,(by omega),?_⟩
    refine ⟨_,rfl,_,rfl,r,C,dr,_,_,rfl,(by rw [aA (mX er X4 (by intro w;cases w))];exact er),T.cl,T.nN,bJ _ _,_,_,rfl,rfl,?_⟩
    have kp:∀ b' xs,H2 b'=some (.tup xs)→upd H2 P (.lst (vs++vr)) b'=some (.tup xs):=fun b' xs e=>by
     rw [aA (mX e X4 (by intro w;cases w))]
     exact e
    refine ⟨m+sq.2*pr.2,qs++us,_,_,_,rfl,(b.trans (bI.of zz)).trans bI.upd,⟨_,ah,iR ((rP.keep fun _ _ z=>zz _ _ z).keep kp) (rr.keep kp)⟩,fun f=>?_,?_,?_⟩
    ·have e:tS S pr=sq.1.map fun x=>(x.1,pr.2*x.2):=by unfold tS;rw [lk]
     rw [take_snoc hi,wO,cE,cE,lq,e,g.2,uX,uZ,Int.mul_comm]
    ·rw [List.length_append];omega
    ·have e:xW S pr=pr.2*sq.2:=by unfold xW;rw [lk]
     rw [take_snoc hi,wQ,e,em,Int.mul_comm sq.2];omega
  ·rintro σ H' ⟨m,qs,a4,a5,a6,rfl,b,L,lq,ll,em⟩
   rw [List.take_length] at lq em
   have ht3:=h3.1
   have sH:az H H':=fun b' o e=>b b' o (s1 _ _ e) (aq e hP)
   refine ⟨_,rfl,_,rfl,P,m,qs,rfl,.inl L,by omega,fun r us H2 sm g l Sr=>?_⟩
   refine k r us H2 (sH.trans sm) ⟨g.1,fun f=>by rw [g.2,lq]⟩ ?_
   rw [← em]
   exact Sr
abbrev nE:Stmt:=inClass (top 5) 7
theorem zP:aG ["self"] ["self"] (aj nE):=⟨rfl,rfl,rfl,by decide +kernel,rfl,by decide +kernel,by decide +kernel⟩
theorem Ii {f:Addr} {fd:FuncData} {Z:Cz} {n:Nat} (F:cX K "told" "Sum.told" nE f fd) (T:Txt K mg Z.s) (U:gh K mg Z) :bu P w K mg base dX 1 f fd ["self"] (yb Z.s):=by
 refine F.ok zP (fun vs H Q E h=>?_) (fun cdv A outer s H vs Q E hr h=>?_)
 ·obtain ⟨p,ts,n,rfl,S0,k⟩:=h
  rfl
 ·obtain ⟨p,ts,n,rfl,S0,k⟩:=h
  have hu:=br hr
  rw [show av nE=[_] from rfl]
  refine ⟨_,(au (aI (bG (aa (aY (pv 0) rfl) (aa (aY (pv 0) rfl) ai))))),?_⟩
  obtain ⟨dx,t,hp,ht,hz⟩:=id S0
  exact ⟨_,rfl,p,Z.s,dx,_,_,rfl,hp,T.cl,T.nT,bY _ _,_,rfl,p,Z.s,dx,_,_,rfl,hp,T.cl,T.nN,bJ _ _,Nat.le_of_lt (line 2 (by decide)),fun r hr'=>k r _ (new hr') ⟨t,ah,ht.same (new hr')⟩⟩
abbrev jI:Stmt:=inClass (top 30) 0
theorem uh:aG ["self","kind","at","ahead","condition"] ["self","kind","at","ahead","condition"] (aj jI):=⟨rfl,rfl,rfl,by decide +kernel,rfl,by decide +kernel,by decide +kernel⟩
theorem EB {f:Addr} {fd:FuncData} {Z:Cz} {n:Nat} {TM W fT fW:Addr} {dY dS:List Value} (F:cX K "__init__" "Debt.__init__" jI f fd) (T:Txt K mg Z.s) (U:gh K mg Z) (XT:dW K mg TM W fT fW dY dS) {Db:Addr} (W:RT K mg Db) :bu P w K mg base dX 1 f fd ["self","kind","at","ahead","condition"] (GZ Db):=by
 refine F.ok uh (fun vs H Q E h=>?_) (fun cdv A outer s H vs Q E hr h=>?_)
 ·obtain ⟨p,dx,k0,a,h,c,rfl,hp,k⟩:=h
  rfl
 ·obtain ⟨p,dx,k0,a,h,c,rfl,hp,k⟩:=h
  have hu:=br hr
  rw [show av jI=[_,_,_,_] from rfl]
  refine ⟨_,(ao (gP (pv 0) (pv 1) rfl)
   (ao (gP (pv 0) (pv 2) rfl)
   (ao (gP (pv 0) (pv 3) rfl)
   (au (gP (pv 0) (pv 4) rfl))))),?_⟩
  refine ⟨_,rfl,_,rfl,p,_,dx,_,rfl,hp,W.cd,W.nd _ (by decide +kernel),(by show 0 < 1000;decide),?_⟩
  refine ⟨_,rfl,_,rfl,p,_,dx,_,rfl,ah,W.cd,W.nd _ (by decide +kernel),(by show 1 < 1000;decide),?_⟩
  refine ⟨_,rfl,_,rfl,p,_,dx,_,rfl,ah,W.cd,W.nd _ (by decide +kernel),(by show 2 < 1000;decide),?_⟩
  refine ⟨_,rfl,_,rfl,p,_,dx,_,rfl,ah,W.cd,W.nd _ (by decide +kernel),(by show 3 < 1000;decide),?_⟩
  exact k _ (((bI.upd.trans bI.upd).trans bI.upd).trans bI.upd) ah
abbrev nM:Stmt:=inClass (top 12) 0
theorem oS:aG ["self","one","sign","other"] ["self","one","sign","other"] (aj nM):=⟨rfl,rfl,rfl,by decide +kernel,rfl,by decide +kernel,by decide +kernel⟩
theorem IA {f:Addr} {fd:FuncData} {Z:Cz} {n:Nat} (F:cX K "__init__" "Compare.__init__" nM f fd) (T:Txt K mg Z.s) (U:gh K mg Z) :bu P w K mg base dX 1 f fd ["self","one","sign","other"] (iM Z):=by
 refine F.ok oS (fun vs H Q E h=>?_) (fun cdv A outer s H vs Q E hr h=>?_)
 ·obtain ⟨p,dx,u,w,s,rfl,hp,k⟩:=h
  rfl
 ·obtain ⟨p,dx,u,w,s,rfl,hp,k⟩:=h
  have hu:=br hr
  rw [show av nM=[_,_,_] from rfl]
  refine ⟨_,(ao (gP (pv 0) (pv 1) rfl)
   (ao (gP (pv 0) (pv 2) rfl)
   (au (gP (pv 0) (pv 3) rfl)))),?_⟩
  refine ⟨_,rfl,_,rfl,p,Z.c,dx,_,rfl,hp,U.cl 0 (by decide),U.n1,(by show 0 < 1000;decide),?_⟩
  refine ⟨_,rfl,_,rfl,p,Z.c,dx,_,rfl,ah,U.cl 0 (by decide),U.n2,(by show 1 < 1000;decide),?_⟩
  refine ⟨_,rfl,_,rfl,p,Z.c,dx,_,rfl,ah,U.cl 0 (by decide),U.n3,(by show 2 < 1000;decide),?_⟩
  exact k _ ((bI.upd.trans bI.upd).trans bI.upd) ah
abbrev nC:Stmt:=inClass (top 13) 0
theorem qF:aG ["self","condition"] ["self","condition"] (aj nC):=⟨rfl,rfl,rfl,by decide +kernel,rfl,by decide +kernel,by decide +kernel⟩
theorem Ig {f:Addr} {fd:FuncData} {Z:Cz} {n:Nat} (F:cX K "__init__" "Turned.__init__" nC f fd) (T:Txt K mg Z.s) (U:gh K mg Z) :bu P w K mg base dX 1 f fd ["self","condition"] (l0 Z):=by
 refine F.ok qF (fun vs H Q E h=>?_) (fun cdv A outer s H vs Q E hr h=>?_)
 ·obtain ⟨p,dx,u,rfl,hp,k⟩:=h
  rfl
 ·obtain ⟨p,dx,u,rfl,hp,k⟩:=h
  have hu:=br hr
  rw [show av nC=[_] from rfl]
  refine ⟨_,(au (gP (pv 0) (pv 1) rfl)),?_⟩
  refine ⟨_,rfl,_,rfl,p,Z.t,dx,_,rfl,hp,U.cl 1 (by decide),U.n4,(by show 0 < 1000;decide),?_⟩
  exact k _ bI.upd ah
abbrev gn:Stmt:=inClass (top 14) 0
theorem iO:aG ["self","conditions"] ["self","conditions"] (aj gn):=⟨rfl,rfl,rfl,by decide +kernel,rfl,by decide +kernel,by decide +kernel⟩
theorem Iw {f:Addr} {fd:FuncData} {Z:Cz} {n:Nat} (F:cX K "__init__" "Several.__init__" gn f fd) (T:Txt K mg Z.s) (U:gh K mg Z) :bu P w K mg base dX 1 f fd ["self","conditions"] (dD Z.e):=by
 refine F.ok iO (fun vs H Q E h=>?_) (fun cdv A outer s H vs Q E hr h=>?_)
 ·obtain ⟨p,dx,l,us,rfl,hp,hl,k⟩:=h
  rfl
 ·obtain ⟨p,dx,l,us,rfl,hp,hl,k⟩:=h
  have hu:=br hr
  rw [show av gn=[_] from rfl]
  refine ⟨_,(au (gP (pv 0) (bz bT (by rfl) T.tuple boot_tuple (aa (pv 1) ai)) rfl)),?_⟩
  refine ⟨_,rfl,l,_,rfl,.inl ⟨bx.of hl,fun t ht=>?_⟩⟩
  have LU:p≠t:=aq hp ht
  refine ⟨_,rfl,p,Z.e,dx,_,rfl,(by rw [aA LU];exact hp),U.cl 2 (by decide),U.n5,(by show 0 < 1000;decide),?_⟩
  exact k t _ ((bI.of (new ht)).trans bI.upd) ah (by rw [aA LU.symm];exact ah)
theorem Im {f:Addr} {fd:FuncData} {Z:Cz} {n:Nat} (F:cX K "__init__" "Several.__init__" gn f fd) (T:Txt K mg Z.s) (U:gh K mg Z) :bu P w K mg base dX 1 f fd ["self","conditions"] (dD Z.o):=by
 refine F.ok iO (fun vs H Q E h=>?_) (fun cdv A outer s H vs Q E hr h=>?_)
 ·obtain ⟨p,dx,l,us,rfl,hp,hl,k⟩:=h
  rfl
 ·obtain ⟨p,dx,l,us,rfl,hp,hl,k⟩:=h
  have hu:=br hr
  rw [show av gn=[_] from rfl]
  refine ⟨_,(au (gP (pv 0) (bz bT (by rfl) T.tuple boot_tuple (aa (pv 1) ai)) rfl)),?_⟩
  refine ⟨_,rfl,l,_,rfl,.inl ⟨bx.of hl,fun t ht=>?_⟩⟩
  have LU:p≠t:=aq hp ht
  refine ⟨_,rfl,p,Z.o,dx,_,rfl,(by rw [aA LU];exact hp),U.cl 3 (by decide),U.n6,(by show 0 < 1000;decide),?_⟩
  exact k t _ ((bI.of (new ht)).trans bI.upd) ah (by rw [aA LU.symm];exact ah)
abbrev kO:Stmt:=inClass (top 12) 4
theorem r9:aG ["self"] ["self"] (aj kO):=⟨rfl,rfl,rfl,by decide +kernel,rfl,by decide +kernel,by decide +kernel⟩
theorem Iz {f:Addr} {fd:FuncData} {Z:Cz} {n:Nat} (F:cX K "told" "Compare.told" kO f fd) (T:Txt K mg Z.s) (U:gh K mg Z) (CA:Mt P w K mg base 1 Z.s "told" ["self"] (yb Z.s)):bu P w K mg base dX (n+2) f fd ["self"] (fH Z (n+1) 0):=by
 obtain ⟨a5L,W2,vX,Ja,vS⟩:=CA
 refine F.ok r9 (fun vs H Q E h=>?_) (fun cdv A outer s H vs Q E hr h=>?_)
 ·obtain ⟨p,c,rfl,sj,hc,hd,k⟩:=h
  rfl
 ·obtain ⟨p,c,rfl,sj,hc,hd,k⟩:=h
  have hu:=br hr
  rw [show av kO=[_] from rfl]
  refine ⟨_,(au (aI (bG (aa aU (aa (z6 (aY (pv 0) rfl) T.cl Ja vX (hr.mono (by first | decide | omega)) vS .nil aD) (aa (aY (pv 0) rfl) (aa (z6 (aY (pv 0) rfl) T.cl Ja vX (hr.mono (by first | decide | omega)) vS .nil aD) ai))))))),?_⟩
  cases c with
  | neg c=>exact absurd sj (by show ¬ (1=0);decide)
  | con b cs=>cases b <;> exact absurd sj (by first | (show ¬ (2=0);decide) | (show ¬ (3=0);decide))
  | cmp a i s b m =>
  unfold aT at hc
  obtain ⟨q,dx,u,w,e,ep,s1,s2⟩:=hc
  cases e
  obtain ⟨du,tu,JC,_⟩:=id s1
  obtain ⟨dw,tw,Tq,_⟩:=id s2
  refine ⟨_,rfl,p,Z.c,dx,_,_,rfl,ep,U.cl 0 (by decide),U.n1,An _ _ _,u,du,_,rfl,JC,dM _ _ (by decide +kernel) (by decide +kernel),u,a,i,rfl,s1,fun r1 H1 g8 D1=>?_⟩
  refine ⟨_,rfl,p,Z.c,dx,_,_,rfl,g8 _ _ ep,U.cl 0 (by decide),U.n2,d9 _ _ _,?_⟩
  refine ⟨_,rfl,p,Z.c,dx,_,_,rfl,g8 _ _ ep,U.cl 0 (by decide),U.n3,Am _ _ _,w,dw,_,rfl,g8 _ _ Tq,dM _ _ (by decide +kernel) (by decide +kernel),w,b,m,rfl,s2.same g8,fun r2 H2 zz D2=>?_⟩
  refine ⟨Nat.le_of_lt (line 4 (by decide)),fun r hr'=>k (.ref r) _ ((g8.trans zz).trans (new hr')) ?_⟩
  unfold bf
  exact ⟨r,r1,r2,rfl,ah,(D1.same zz).same (new hr'),D2.same (new hr')⟩
abbrev kI:Stmt:=inClass (top 13) 4
theorem uf:aG ["self"] ["self"] (aj kI):=⟨rfl,rfl,rfl,by decide +kernel,rfl,by decide +kernel,by decide +kernel⟩
theorem Ie {f:Addr} {fd:FuncData} {Z:Cz} {n:Nat} (F:cX K "told" "Turned.told" kI f fd) (T:Txt K mg Z.s) (U:gh K mg Z) (j8:M4 P w K mg base (n+1) Z "told" ["self"] (fH Z n)):bu P w K mg base dX (n+2) f fd ["self"] (fH Z (n+1) 1):=by
 refine F.ok uf (fun vs H Q E h=>?_) (fun cdv A outer s H vs Q E hr h=>?_)
 ·obtain ⟨p,c,rfl,sj,hc,hd,k⟩:=h
  rfl
 ·obtain ⟨p,c,rfl,sj,hc,hd,k⟩:=h
  have hu:=br hr
  rw [show av kI=[_] from rfl]
  refine ⟨_,(au (aI (bG (aa aU (aa (kR (Z:=Z) (aY (pv 0) rfl) U.cl sU j8 (hr.mono (by first | decide | omega)) aD) ai))))),?_⟩
  cases c with
  | cmp a i s b m=>exact absurd sj (by show ¬ (0=1);decide)
  | con b cs=>cases b <;> exact absurd sj (by first | (show ¬ (2=1);decide) | (show ¬ (3=1);decide))
  | neg c =>
  unfold aT at hc
  obtain ⟨q,dx,u,e,ep,hc⟩:=hc
  cases e
  obtain ⟨pu,rfl⟩:=cu hc
  refine ⟨_,rfl,p,Z.t,dx,_,_,rfl,ep,U.cl 1 (by decide),U.n4,Ma _,pu,c,rfl,hc,pu,c,rfl,rfl,hc,(by unfold Cd.dep at hd;omega),fun v H1 sm d=>?_⟩
  refine ⟨Nat.le_of_lt (line 2 (by decide)),fun r hr'=>k (.ref r) _ (sm.trans (new hr')) ?_⟩
  unfold bf
  exact ⟨r,v,rfl,ah,d.aH (aE.of (new hr'))⟩
abbrev kN:Stmt:=inClass (top 15) 2
theorem wz:aG ["self"] ["self"] (aj kN):=⟨rfl,rfl,rfl,by decide +kernel,rfl,by decide +kernel,by decide +kernel⟩
theorem Iv {f:Addr} {fd:FuncData} {Z:Cz} {n:Nat} (F:cX K "told" "Every.told" kN f fd) (T:Txt K mg Z.s) (U:gh K mg Z) (j8:M4 P w K mg base (n+1) Z "told" ["self"] (fH Z n)):bu P w K mg base dX (n+2) f fd ["self"] (fH Z (n+1) 2):=by
 refine F.ok wz (fun vs H Q E h=>?_) (fun cdv A outer s H vs Q E hr h=>?_)
 ·obtain ⟨p,c,rfl,sj,hc,hd,k⟩:=h
  rfl
 ·obtain ⟨p,c,rfl,sj,hc,hd,k⟩:=h
  have hu:=br hr
  rw [show av kN=[_] from rfl]
  refine ⟨_,(au (aI (bg pC (bG (aa aU ai)) (bz bT (by rfl) T.tuple boot_tuple (aa (cB (bq ["condition"] [] [] rfl (by decide +kernel) (by decide +kernel) (by with_unfolding_all rfl) (by exact trivial) (by rfl) rfl (by rfl)) rfl (cZ (aY (pv 0) rfl)) (fun _ _ _ _=>(aK (i:=0) (show List.Nodup (["condition"]:List Str) by decide +kernel) rfl (Or.inl rfl) (Or.inr rfl))) (fun _ _ _ _=>cA) (fun _ _ _ _=>(kR (Z:=Z) (pv 0) U.cl sU j8 (hr.mono (by first | decide | omega)) aD))) ai))))),?_⟩
  cases c with
  | cmp a i s b m=>exact absurd sj (by show ¬ (0=2);decide)
  | neg c=>exact absurd sj (by show ¬ (1=2);decide)
  | con b cs =>
  cases b with
  | false=>exact absurd sj (by first | (show ¬ (2=2);decide) | (show ¬ (3=2);decide))
  | true =>
  unfold aT at hc
  obtain ⟨q,dx,t,us,e,ep,et,l,hcs⟩:=hc
  cases e
  have ep:H p=some (.ins Z.e dx (jg t)):=ep
  have vo:=aJ.mp hcs
  have qu:us.length=cs.length:=ay vo
  refine ⟨(szl 1),fun r1 hr1=>?_⟩
  have s1:=new (o:=.tup [.str (A7 true)]) hr1
  refine ⟨_,rfl,p,Z.e,dx,_,_,rfl,s1 _ _ ep,U.cl 2 (by decide),U.n5,Al _,t,rfl,⟨us,aV.of (s1 _ _ et)⟩,cF (xs:=us) (fun i ys H'=>az (upd H r1 (.tup [.str (A7 true)])) H'∧cj H' (cs.take i) ys) ⟨fun _ _ z=>z,(by unfold cj;rfl)⟩ (fun i ys H' _ q=>aV.of (q.1 _ _ (s1 _ _ et))) ?_ ?_⟩
  ·rintro i x ys H' hi ⟨sm,ht⟩
   obtain ⟨c,gC,pU⟩:=aW vo hi
   obtain ⟨pu,rfl⟩:=cu pU
   have iD:=pU.aH (aE.of (s1.trans sm))
   have PZ:=(List.getElem?_eq_some_iff.mp gC).1
   have w5:ys.length≤i:=by
    have z:=ay (bw.mp ht)
    rw [List.length_take] at z
    omega
   have dd:c.dep≤n:=by
    have z:=fh (List.mem_of_getElem? gC)
    unfold Cd.dep at hd
    omega
   refine ⟨Ext.one,jw ⟨_,rfl,pu,c,rfl,iD,pu,c,rfl,rfl,iD,dd,fun v H1 g8 d=>⟨line _ (by omega),sm.trans g8,?_⟩⟩⟩
   rw [take_snoc gC]
   exact bw.mpr (aS (bw.mp (ht.aH (aE.of g8))) d)
  ·rintro ys H' ⟨sm,ht⟩ q hq
   rw [qu,List.take_length] at ht
   have w5:ys.length=cs.length:=ay (bw.mp ht)
   refine ⟨q,_,rfl,.inl ⟨bx.of ah,fun r2 hr2=>?_⟩⟩
   have s3:az H' (upd (upd H' q (.lst ys)) r2 (.tup ys)):=az.new (new hq) hr2
   refine ⟨r1,r2,_,_,rfl,rfl,aV.of (s3 _ _ (sm _ _ ah)),aV.of ah,(by show 1+ys.length≤sizeLine;exact Nat.le_of_lt (line _ (by omega))),?_,?_,?_⟩
   ·intro z;cases z
   ·intro _ z
    subst z
    refine k _ _ ((s1.trans sm).trans s3) ?_
    unfold bf
    exact ⟨r1,[],rfl,s3 _ _ (sm _ _ ah),ht.aH (aE.of s3)⟩
   ·intro _ _ r hr'
    refine k _ _ (((s1.trans sm).trans s3).trans (new hr')) ?_
    unfold bf
    exact ⟨r,ys,rfl,ah,(ht.aH (aE.of s3)).aH (aE.of (new hr'))⟩
abbrev kK:Stmt:=inClass (top 16) 2
theorem yo:aG ["self"] ["self"] (aj kK):=⟨rfl,rfl,rfl,by decide +kernel,rfl,by decide +kernel,by decide +kernel⟩
theorem Il {f:Addr} {fd:FuncData} {Z:Cz} {n:Nat} (F:cX K "told" "Some.told" kK f fd) (T:Txt K mg Z.s) (U:gh K mg Z) (j8:M4 P w K mg base (n+1) Z "told" ["self"] (fH Z n)):bu P w K mg base dX (n+2) f fd ["self"] (fH Z (n+1) 3):=by
 refine F.ok yo (fun vs H Q E h=>?_) (fun cdv A outer s H vs Q E hr h=>?_)
 ·obtain ⟨p,c,rfl,sj,hc,hd,k⟩:=h
  rfl
 ·obtain ⟨p,c,rfl,sj,hc,hd,k⟩:=h
  have hu:=br hr
  rw [show av kK=[_] from rfl]
  refine ⟨_,(au (aI (bg pC (bG (aa aU ai)) (bz bT (by rfl) T.tuple boot_tuple (aa (cB (bq ["condition"] [] [] rfl (by decide +kernel) (by decide +kernel) (by with_unfolding_all rfl) (by exact trivial) (by rfl) rfl (by rfl)) rfl (cZ (aY (pv 0) rfl)) (fun _ _ _ _=>(aK (i:=0) (show List.Nodup (["condition"]:List Str) by decide +kernel) rfl (Or.inl rfl) (Or.inr rfl))) (fun _ _ _ _=>cA) (fun _ _ _ _=>(kR (Z:=Z) (pv 0) U.cl sU j8 (hr.mono (by first | decide | omega)) aD))) ai))))),?_⟩
  cases c with
  | cmp a i s b m=>exact absurd sj (by show ¬ (0=3);decide)
  | neg c=>exact absurd sj (by show ¬ (1=3);decide)
  | con b cs =>
  cases b with
  | true=>exact absurd sj (by first | (show ¬ (2=3);decide) | (show ¬ (3=3);decide))
  | false =>
  unfold aT at hc
  obtain ⟨q,dx,t,us,e,ep,et,l,hcs⟩:=hc
  cases e
  have ep:H p=some (.ins Z.o dx (jg t)):=ep
  have vo:=aJ.mp hcs
  have qu:us.length=cs.length:=ay vo
  refine ⟨(szl 1),fun r1 hr1=>?_⟩
  have s1:=new (o:=.tup [.str (A7 false)]) hr1
  refine ⟨_,rfl,p,Z.o,dx,_,_,rfl,s1 _ _ ep,U.cl 3 (by decide),U.n6,Al _,t,rfl,⟨us,aV.of (s1 _ _ et)⟩,cF (xs:=us) (fun i ys H'=>az (upd H r1 (.tup [.str (A7 false)])) H'∧cj H' (cs.take i) ys) ⟨fun _ _ z=>z,(by unfold cj;rfl)⟩ (fun i ys H' _ q=>aV.of (q.1 _ _ (s1 _ _ et))) ?_ ?_⟩
  ·rintro i x ys H' hi ⟨sm,ht⟩
   obtain ⟨c,gC,pU⟩:=aW vo hi
   obtain ⟨pu,rfl⟩:=cu pU
   have iD:=pU.aH (aE.of (s1.trans sm))
   have PZ:=(List.getElem?_eq_some_iff.mp gC).1
   have w5:ys.length≤i:=by
    have z:=ay (bw.mp ht)
    rw [List.length_take] at z
    omega
   have dd:c.dep≤n:=by
    have z:=fh (List.mem_of_getElem? gC)
    unfold Cd.dep at hd
    omega
   refine ⟨Ext.one,jw ⟨_,rfl,pu,c,rfl,iD,pu,c,rfl,rfl,iD,dd,fun v H1 g8 d=>⟨line _ (by omega),sm.trans g8,?_⟩⟩⟩
   rw [take_snoc gC]
   exact bw.mpr (aS (bw.mp (ht.aH (aE.of g8))) d)
  ·rintro ys H' ⟨sm,ht⟩ q hq
   rw [qu,List.take_length] at ht
   have w5:ys.length=cs.length:=ay (bw.mp ht)
   refine ⟨q,_,rfl,.inl ⟨bx.of ah,fun r2 hr2=>?_⟩⟩
   have s3:az H' (upd (upd H' q (.lst ys)) r2 (.tup ys)):=az.new (new hq) hr2
   refine ⟨r1,r2,_,_,rfl,rfl,aV.of (s3 _ _ (sm _ _ ah)),aV.of ah,(by show 1+ys.length≤sizeLine;exact Nat.le_of_lt (line _ (by omega))),?_,?_,?_⟩
   ·intro z;cases z
   ·intro _ z
    subst z
    refine k _ _ ((s1.trans sm).trans s3) ?_
    unfold bf
    exact ⟨r1,[],rfl,s3 _ _ (sm _ _ ah),ht.aH (aE.of s3)⟩
   ·intro _ _ r hr'
    refine k _ _ (((s1.trans sm).trans s3).trans (new hr')) ?_
    unfold bf
    exact ⟨r,ys,rfl,ah,(ht.aH (aE.of s3)).aH (aE.of (new hr'))⟩
abbrev rL:Stmt:=inClass (top 12) 3
theorem oQ:aG ["self","sums"] ["self","sums"] (aj rL):=⟨rfl,rfl,rfl,by decide +kernel,rfl,by decide +kernel,by decide +kernel⟩
theorem LP {f:Addr} {fd:FuncData} {Z:Cz} {n:Nat} (F:cX K "put_in" "Compare.put_in" rL f fd) (T:Txt K mg Z.s) (U:gh K mg Z) (lI:Mt P w K mg base 5 Z.s "put_in" ["self","sums"] (tX Z.s)) (fX:Mr P w K mg base 1 Z.c ["self","one","sign","other"] (iM Z)):bu P w K mg base dX (n+6) f fd ["self","sums"] (fJ Z (n+1) 0):=by
 obtain ⟨JS,EU,g7,pM,gZ⟩:=lI
 obtain ⟨Ui,Oc,eG,lQ,eg⟩:=fX
 refine F.ok oQ (fun vs H Q E h=>?_) (fun cdv A outer s H vs Q E hr h=>?_)
 ·obtain ⟨p,d,c,kvs,S,rfl,sj,hc,hd,h3,rd,rl,hf,k⟩:=h
  rfl
 ·obtain ⟨p,d,c,kvs,S,rfl,sj,hc,hd,h3,rd,rl,hf,k⟩:=h
  have hu:=br hr
  rw [show av rL=[_] from rfl]
  refine ⟨_,(au (aI (cO lQ eG (hr.mono (by first | decide | omega)) rfl U.mgC eg .nil aD (aa (gA (aY (pv 0) rfl) T.cl pM g7 (hr.mono (by first | decide | omega)) gZ .nil aD (aa (pv 1) ai)) (aa (aY (pv 0) rfl) (aa (gA (aY (pv 0) rfl) T.cl pM g7 (hr.mono (by first | decide | omega)) gZ .nil aD (aa (pv 1) ai)) ai)))))),?_⟩
  cases c with
  | neg c=>exact absurd sj (by show ¬ (1=0);decide)
  | con b cs=>cases b <;> exact absurd sj (by first | (show ¬ (2=0);decide) | (show ¬ (3=0);decide))
  | cmp a i s b m =>
  unfold aT at hc
  unfold Cd.l3 at h3
  obtain ⟨q,dx,u,w,e,ep,s1,s2⟩:=hc
  cases e
  obtain ⟨du,tu,JC,_⟩:=id s1
  obtain ⟨dw,tw,Tq,_⟩:=id s2
  refine ⟨_,rfl,p,Z.c,dx,_,_,rfl,ep,U.cl 0 (by decide),U.n1,An _ _ _,u,du,_,rfl,JC,dM _ _ (by decide +kernel) (by decide +kernel),_,rfl,u,d,a,i,kvs,S,rfl,s1,rd,rl,h3.1,hf,fun r1 VT H1 g8 g1 S1=>?_⟩
  refine ⟨_,rfl,p,Z.c,dx,_,_,rfl,g8 _ _ ep,U.cl 0 (by decide),U.n2,d9 _ _ _,?_⟩
  refine ⟨_,rfl,p,Z.c,dx,_,_,rfl,g8 _ _ ep,U.cl 0 (by decide),U.n3,Am _ _ _,w,dw,_,rfl,g8 _ _ Tq,dM _ _ (by decide +kernel) (by decide +kernel),_,rfl,w,d,b,m,kvs,S,rfl,s2.same g8,Rd.same rd g8,rl.mono (fun u q z=>bO.same z g8),h3.2,hf,fun r2 us2 H2 zz g2 S2=>?_⟩
  refine fun x mG hx hdx ne=>?_
  have h1:=bN (o:=.own x) (o':=.ins Z.c mG []) hx hdx
  refine ⟨x,mG,r1,r2,s,rfl,ah,fun H3 but e1=>⟨rfl,?_⟩⟩
  have s3:az H2 H3:=fun b' o z=>but b' o (h1 _ _ z) (aq z hx)
  refine k (.ref x) (.cmp VT (i+i0 S a) s us2 (m+i0 S b)) H3 ((g8.trans zz).trans s3) ?_ ?_
  ·unfold Pt;exact ⟨VT,us2,rfl,g1,g2⟩
  ·unfold aT
   exact ⟨x,mG,r1,r2,rfl,e1,(S1.same zz).same s3,S2.same s3⟩
abbrev rE:Stmt:=inClass (top 13) 3
theorem qE:aG ["self","sums"] ["self","sums"] (aj rE):=⟨rfl,rfl,rfl,by decide +kernel,rfl,by decide +kernel,by decide +kernel⟩
theorem Lx {f:Addr} {fd:FuncData} {Z:Cz} {n:Nat} (F:cX K "put_in" "Turned.put_in" rE f fd) (T:Txt K mg Z.s) (U:gh K mg Z) (fD:M4 P w K mg base (n+5) Z "put_in" ["self","sums"] (fJ Z n)) (jW:Mr P w K mg base 1 Z.t ["self","condition"] (l0 Z)):bu P w K mg base dX (n+6) f fd ["self","sums"] (fJ Z (n+1) 1):=by
 obtain ⟨a5M,TY,jd,zm,jc⟩:=jW
 refine F.ok qE (fun vs H Q E h=>?_) (fun cdv A outer s H vs Q E hr h=>?_)
 ·obtain ⟨p,d,c,kvs,S,rfl,sj,hc,hd,h3,rd,rl,hf,k⟩:=h
  rfl
 ·obtain ⟨p,d,c,kvs,S,rfl,sj,hc,hd,h3,rd,rl,hf,k⟩:=h
  have hu:=br hr
  rw [show av rE=[_] from rfl]
  refine ⟨_,(au (aI (cO zm jd (hr.mono (by first | decide | omega)) rfl U.mgT jc .nil aD (aa (z7 (Z:=Z) (aY (pv 0) rfl) U.cl jl fD (hr.mono (by first | decide | omega)) aD (aa (pv 1) ai)) ai)))),?_⟩
  cases c with
  | cmp a i s b m=>exact absurd sj (by show ¬ (0=1);decide)
  | con b cs=>cases b <;> exact absurd sj (by first | (show ¬ (2=1);decide) | (show ¬ (3=1);decide))
  | neg c =>
  unfold aT at hc
  unfold Cd.l3 at h3
  obtain ⟨q,dx,u,e,ep,hc⟩:=hc
  cases e
  obtain ⟨pu,rfl⟩:=cu hc
  refine ⟨_,rfl,p,Z.t,dx,_,_,rfl,ep,U.cl 1 (by decide),U.n4,Ma _,pu,c,rfl,hc,_,rfl,pu,d,c,kvs,S,rfl,rfl,hc,(by unfold Cd.dep at hd;omega),h3,rd,rl,hf,fun v c' H1 sm hp hv=>?_⟩
  refine fun x mG hx hdx ne=>?_
  have h1:=bN (o:=.own x) (o':=.ins Z.t mG []) hx hdx
  refine ⟨x,mG,v,rfl,ah,fun H3 but e1=>⟨rfl,?_⟩⟩
  have s3:az H1 H3:=fun b' o z=>but b' o (h1 _ _ z) (aq z hx)
  refine k (.ref x) (.neg c') H3 (sm.trans s3) ?_ ?_
  ·unfold Pt;exact ⟨c',rfl,hp⟩
  ·unfold aT
   exact ⟨x,mG,v,rfl,e1,hv.aH (aE.of s3)⟩
abbrev rJ:Stmt:=inClass (top 15) 1
theorem r8:aG ["self","sums"] ["self","sums"] (aj rJ):=⟨rfl,rfl,rfl,by decide +kernel,rfl,by decide +kernel,by decide +kernel⟩
theorem LN {f:Addr} {fd:FuncData} {Z:Cz} {n:Nat} (F:cX K "put_in" "Every.put_in" rJ f fd) (T:Txt K mg Z.s) (U:gh K mg Z) (fD:M4 P w K mg base (n+5) Z "put_in" ["self","sums"] (fJ Z n)) (fV:Mr P w K mg base 1 Z.e ["self","conditions"] (dD Z.e)):bu P w K mg base dX (n+6) f fd ["self","sums"] (fJ Z (n+1) 2):=by
 obtain ⟨Uh,Ob,gf,vU,fZ⟩:=fV
 refine F.ok r8 (fun vs H Q E h=>?_) (fun cdv A outer s H vs Q E hr h=>?_)
 ·obtain ⟨p,d,c,kvs,S,rfl,sj,hc,hd,h3,rd,rl,hf,k⟩:=h
  rfl
 ·obtain ⟨p,d,c,kvs,S,rfl,sj,hc,hd,h3,rd,rl,hf,k⟩:=h
  have hu:=br hr
  rw [show av rJ=[_] from rfl]
  refine ⟨_,(au (aI (cO vU gf (hr.mono (by first | decide | omega)) rfl U.mgE fZ .nil aD (aa (cB (bq ["condition"] ["sums"] [1] rfl (by decide +kernel) (by decide +kernel) (by with_unfolding_all rfl) (by exact ⟨rfl,trivial⟩) (by rfl) rfl (by rfl)) rfl (cZ (aY (pv 0) rfl)) (fun _ _ _ _=>(aK (i:=0) (show List.Nodup (["condition","sums"]:List Str) by decide +kernel) rfl (Or.inl rfl) (Or.inr rfl))) (fun _ _ _ _=>cA) (fun _ _ _ _=>(z7 (Z:=Z) (pv 0) U.cl jl fD (hr.mono (by first | decide | omega)) aD (aa (pv 1) ai)))) ai)))),?_⟩
  cases c with
  | cmp a i s b m=>exact absurd sj (by show ¬ (0=2);decide)
  | neg c=>exact absurd sj (by show ¬ (1=2);decide)
  | con b cs =>
  cases b with
  | false=>exact absurd sj (by first | (show ¬ (2=2);decide) | (show ¬ (3=2);decide))
  | true =>
  unfold aT at hc
  obtain ⟨q,dx,t,us,e,ep,et,l,hcs⟩:=hc
  cases e
  have ep:H p=some (.ins Z.e dx (jg t)):=ep
  have vo:=aJ.mp hcs
  have qu:us.length=cs.length:=ay vo
  unfold Cd.l3 at h3
  refine ⟨_,rfl,p,Z.e,dx,_,_,rfl,ep,U.cl 2 (by decide),U.n5,Al _,t,rfl,⟨us,aV.of et⟩,cF (xs:=us) (fun i ys H'=>az H H'∧∃ ds,zl S (cs.take i) ds∧ck Z H' ds ys) ⟨fun _ _ z=>z,[],(by unfold zl;rfl),(by unfold ck;rfl)⟩ (fun i ys H' _ q=>aV.of (q.1 _ _ et)) ?_ ?_⟩
  ·rintro i x ys H' hix ⟨sm,ds,hp,ht⟩
   obtain ⟨c,gC,pU⟩:=aW vo hix
   obtain ⟨pu,rfl⟩:=cu pU
   have iD:=pU.aH (aE.of sm)
   have PZ:=(List.getElem?_eq_some_iff.mp gC).1
   have jS:=List.mem_of_getElem? gC
   have dd:c.dep≤n:=by
    have z:=fh jS
    unfold Cd.dep at hd
    omega
   have w5:ys.length≤i:=by
    have z:=ay (aJ.mp ht)
    have z2:=ay (cM.mp hp)
    rw [List.length_take] at z2
    omega
   refine ⟨Ext.one,jw ⟨_,rfl,pu,c,rfl,iD,_,rfl,pu,d,c,kvs,S,rfl,rfl,iD,dd,yQ h3 jS,Rd.same rd sm,rl.mono (fun u q z=>bO.same z sm),hf,fun v c' H1 g8 hp1 hv=>⟨line _ (by omega),sm.trans g8,ds++[c'],?_,?_⟩⟩⟩
   ·rw [take_snoc gC]
    exact cM.mpr (aS (cM.mp hp) hp1)
   ·exact aJ.mpr (aS (aJ.mp (ht.aH (aE.of g8))) hv)
  ·rintro ys H' ⟨sm,ds,hp,ht⟩ q hq
   rw [qu,List.take_length] at hp
   have w5:ys.length=cs.length:=by
    have z:=ay (aJ.mp ht)
    have z2:=ay (cM.mp hp)
    omega
   refine fun x mG hx hdx ne=>?_
   have h1:=bN (o:=.own x) (o':=.ins Z.e mG []) hx hdx
   refine ⟨x,mG,q,ys,rfl,ah,h1 _ _ ah,fun t' H2 but e1 e2=>⟨rfl,?_⟩⟩
   have s2:az H' H2:=fun b' o z=>but b' o (h1 _ _ (new hq _ _ z)) (aq (new hq _ _ z) hx)
   refine k (.ref x) (.con true ds) H2 (sm.trans s2) ?_ ?_
   ·unfold Pt;exact ⟨ds,rfl,hp⟩
   ·unfold aT
    exact ⟨x,mG,t',ys,rfl,e1,e2,by omega,ht.aH (aE.of s2)⟩
abbrev rG:Stmt:=inClass (top 16) 1
theorem ug:aG ["self","sums"] ["self","sums"] (aj rG):=⟨rfl,rfl,rfl,by decide +kernel,rfl,by decide +kernel,by decide +kernel⟩
theorem LC {f:Addr} {fd:FuncData} {Z:Cz} {n:Nat} (F:cX K "put_in" "Some.put_in" rG f fd) (T:Txt K mg Z.s) (U:gh K mg Z) (fD:M4 P w K mg base (n+5) Z "put_in" ["self","sums"] (fJ Z n)) (fU:Mr P w K mg base 1 Z.o ["self","conditions"] (dD Z.o)):bu P w K mg base dX (n+6) f fd ["self","sums"] (fJ Z (n+1) 3):=by
 obtain ⟨Uc,N8,gM,AY,gI⟩:=fU
 refine F.ok ug (fun vs H Q E h=>?_) (fun cdv A outer s H vs Q E hr h=>?_)
 ·obtain ⟨p,d,c,kvs,S,rfl,sj,hc,hd,h3,rd,rl,hf,k⟩:=h
  rfl
 ·obtain ⟨p,d,c,kvs,S,rfl,sj,hc,hd,h3,rd,rl,hf,k⟩:=h
  have hu:=br hr
  rw [show av rG=[_] from rfl]
  refine ⟨_,(au (aI (cO AY gM (hr.mono (by first | decide | omega)) rfl U.mgO gI .nil aD (aa (cB (bq ["condition"] ["sums"] [1] rfl (by decide +kernel) (by decide +kernel) (by with_unfolding_all rfl) (by exact ⟨rfl,trivial⟩) (by rfl) rfl (by rfl)) rfl (cZ (aY (pv 0) rfl)) (fun _ _ _ _=>(aK (i:=0) (show List.Nodup (["condition","sums"]:List Str) by decide +kernel) rfl (Or.inl rfl) (Or.inr rfl))) (fun _ _ _ _=>cA) (fun _ _ _ _=>(z7 (Z:=Z) (pv 0) U.cl jl fD (hr.mono (by first | decide | omega)) aD (aa (pv 1) ai)))) ai)))),?_⟩
  cases c with
  | cmp a i s b m=>exact absurd sj (by show ¬ (0=3);decide)
  | neg c=>exact absurd sj (by show ¬ (1=3);decide)
  | con b cs =>
  cases b with
  | true=>exact absurd sj (by first | (show ¬ (2=3);decide) | (show ¬ (3=3);decide))
  | false =>
  unfold aT at hc
  obtain ⟨q,dx,t,us,e,ep,et,l,hcs⟩:=hc
  cases e
  have ep:H p=some (.ins Z.o dx (jg t)):=ep
  have vo:=aJ.mp hcs
  have qu:us.length=cs.length:=ay vo
  unfold Cd.l3 at h3
  refine ⟨_,rfl,p,Z.o,dx,_,_,rfl,ep,U.cl 3 (by decide),U.n6,Al _,t,rfl,⟨us,aV.of et⟩,cF (xs:=us) (fun i ys H'=>az H H'∧∃ ds,zl S (cs.take i) ds∧ck Z H' ds ys) ⟨fun _ _ z=>z,[],(by unfold zl;rfl),(by unfold ck;rfl)⟩ (fun i ys H' _ q=>aV.of (q.1 _ _ et)) ?_ ?_⟩
  ·rintro i x ys H' hix ⟨sm,ds,hp,ht⟩
   obtain ⟨c,gC,pU⟩:=aW vo hix
   obtain ⟨pu,rfl⟩:=cu pU
   have iD:=pU.aH (aE.of sm)
   have PZ:=(List.getElem?_eq_some_iff.mp gC).1
   have jS:=List.mem_of_getElem? gC
   have dd:c.dep≤n:=by
    have z:=fh jS
    unfold Cd.dep at hd
    omega
   have w5:ys.length≤i:=by
    have z:=ay (aJ.mp ht)
    have z2:=ay (cM.mp hp)
    rw [List.length_take] at z2
    omega
   refine ⟨Ext.one,jw ⟨_,rfl,pu,c,rfl,iD,_,rfl,pu,d,c,kvs,S,rfl,rfl,iD,dd,yQ h3 jS,Rd.same rd sm,rl.mono (fun u q z=>bO.same z sm),hf,fun v c' H1 g8 hp1 hv=>⟨line _ (by omega),sm.trans g8,ds++[c'],?_,?_⟩⟩⟩
   ·rw [take_snoc gC]
    exact cM.mpr (aS (cM.mp hp) hp1)
   ·exact aJ.mpr (aS (aJ.mp (ht.aH (aE.of g8))) hv)
  ·rintro ys H' ⟨sm,ds,hp,ht⟩ q hq
   rw [qu,List.take_length] at hp
   have w5:ys.length=cs.length:=by
    have z:=ay (aJ.mp ht)
    have z2:=ay (cM.mp hp)
    omega
   refine fun x mG hx hdx ne=>?_
   have h1:=bN (o:=.own x) (o':=.ins Z.o mG []) hx hdx
   refine ⟨x,mG,q,ys,rfl,ah,h1 _ _ ah,fun t' H2 but e1 e2=>⟨rfl,?_⟩⟩
   have s2:az H' H2:=fun b' o z=>but b' o (h1 _ _ (new hq _ _ z)) (aq (new hq _ _ z) hx)
   refine k (.ref x) (.con false ds) H2 (sm.trans s2) ?_ ?_
   ·unfold Pt;exact ⟨ds,rfl,hp⟩
   ·unfold aT
    exact ⟨x,mG,t',ys,rfl,e1,e2,by omega,ht.aH (aE.of s2)⟩
abbrev rM:Stmt:=inClass (top 12) 5
theorem mR:aG ["self"] ["self"] (aj rM):=⟨rfl,rfl,rfl,by decide +kernel,rfl,by decide +kernel,by decide +kernel⟩
theorem LQ {f:Addr} {fd:FuncData} {Z:Cz} {n:Nat} (F:cX K "opposite" "Compare.opposite" rM f fd) (T:Txt K mg Z.s) (U:gh K mg Z) (fX:Mr P w K mg base 1 Z.c ["self","one","sign","other"] (iM Z)) (CB:Nd P w K mg):bu P w K mg base dX (n+3) f fd ["self"] (gO Z (n+1) 0):=by
 obtain ⟨Ui,Oc,eG,lQ,eg⟩:=fX
 obtain ⟨D,mgD,kd⟩:=CB
 refine F.ok mR (fun vs H Q E h=>?_) (fun cdv A outer s H vs Q E hr h=>?_)
 ·obtain ⟨p,c,rfl,sj,hc,hd,ho,k⟩:=h
  rfl
 ·obtain ⟨p,c,rfl,sj,hc,hd,ho,k⟩:=h
  have hu:=br hr
  rw [show av rM=[_] from rfl]
  refine ⟨_,(au (aI (cO lQ eG (hr.mono (by first | decide | omega)) rfl U.mgC eg .nil aD (aa (aY (pv 0) rfl) (aa (Lo rfl mgD kd (aY (pv 0) rfl) (fun _ _=>rfl)) (aa (aY (pv 0) rfl) ai)))))),?_⟩
  cases c with
  | neg c=>exact absurd sj (by show ¬ (1=0);decide)
  | con b cs=>cases b <;> exact absurd sj (by first | (show ¬ (2=0);decide) | (show ¬ (3=0);decide))
  | cmp a i s b m =>
  unfold aT at hc
  unfold Cd.ok at ho
  unfold Cd.gi at k
  obtain ⟨q,dx,u,w,e,ep,s1,s2⟩:=hc
  cases e
  refine ⟨_,rfl,p,Z.c,dx,_,_,rfl,ep,U.cl 0 (by decide),U.n1,An _ _ _,?_⟩
  refine ⟨_,rfl,p,Z.c,dx,_,_,rfl,ep,U.cl 0 (by decide),U.n2,d9 _ _ _,Sum.inr s,_,rfl,Ls ho,?_⟩
  refine ⟨_,rfl,p,Z.c,dx,_,_,rfl,ep,U.cl 0 (by decide),U.n3,Am _ _ _,fun x mG hx hdx ne=>?_⟩
  have h1:=bN (o:=.own x) (o':=.ins Z.c mG []) hx hdx
  refine ⟨x,mG,u,w,gX s,rfl,ah,fun H3 but e1=>⟨rfl,?_⟩⟩
  have s3:az H H3:=fun b' o z=>but b' o (h1 _ _ z) (aq z hx)
  refine k (.ref x) H3 s3 ?_
  unfold aT
  exact ⟨x,mG,u,w,rfl,e1,s1.same s3,s2.same s3⟩
abbrev rF:Stmt:=inClass (top 13) 5
theorem nu:aG ["self"] ["self"] (aj rF):=⟨rfl,rfl,rfl,by decide +kernel,rfl,by decide +kernel,by decide +kernel⟩
theorem Ly {f:Addr} {fd:FuncData} {Z:Cz} {n:Nat} (F:cX K "opposite" "Turned.opposite" rF f fd) (T:Txt K mg Z.s) (U:gh K mg Z) :bu P w K mg base dX (n+3) f fd ["self"] (gO Z (n+1) 1):=by
 refine F.ok nu (fun vs H Q E h=>?_) (fun cdv A outer s H vs Q E hr h=>?_)
 ·obtain ⟨p,c,rfl,sj,hc,hd,ho,k⟩:=h
  rfl
 ·obtain ⟨p,c,rfl,sj,hc,hd,ho,k⟩:=h
  have hu:=br hr
  rw [show av rF=[_] from rfl]
  refine ⟨_,(au (aI (aY (pv 0) rfl))),?_⟩
  cases c with
  | cmp a i s b m=>exact absurd sj (by show ¬ (0=1);decide)
  | con b cs=>cases b <;> exact absurd sj (by first | (show ¬ (2=1);decide) | (show ¬ (3=1);decide))
  | neg c =>
  unfold aT at hc
  unfold Cd.gi at k
  obtain ⟨q,dx,u,e,ep,hc⟩:=hc
  cases e
  exact ⟨_,rfl,p,Z.t,dx,_,_,rfl,ep,U.cl 1 (by decide),U.n4,Ma _,k _ _ (fun _ _ z=>z) hc⟩
abbrev rK:Stmt:=inClass (top 15) 3
theorem oO:aG ["self"] ["self"] (aj rK):=⟨rfl,rfl,rfl,by decide +kernel,rfl,by decide +kernel,by decide +kernel⟩
theorem LO {f:Addr} {fd:FuncData} {Z:Cz} {n:Nat} (F:cX K "opposite" "Every.opposite" rK f fd) (T:Txt K mg Z.s) (U:gh K mg Z) (eE:M4 P w K mg base (n+2) Z "opposite" ["self"] (gO Z n)) (fU:Mr P w K mg base 1 Z.o ["self","conditions"] (dD Z.o)):bu P w K mg base dX (n+3) f fd ["self"] (gO Z (n+1) 2):=by
 obtain ⟨Uc,N8,gM,AY,gI⟩:=fU
 refine F.ok oO (fun vs H Q E h=>?_) (fun cdv A outer s H vs Q E hr h=>?_)
 ·obtain ⟨p,c,rfl,sj,hc,hd,ho,k⟩:=h
  rfl
 ·obtain ⟨p,c,rfl,sj,hc,hd,ho,k⟩:=h
  have hu:=br hr
  rw [show av rK=[_] from rfl]
  refine ⟨_,(au (aI (cO AY gM (hr.mono (by first | decide | omega)) rfl U.mgO gI .nil aD (aa (cB (bq ["condition"] [] [] rfl (by decide +kernel) (by decide +kernel) (by with_unfolding_all rfl) (by exact trivial) (by rfl) rfl (by rfl)) rfl (cZ (aY (pv 0) rfl)) (fun _ _ _ _=>(aK (i:=0) (show List.Nodup (["condition"]:List Str) by decide +kernel) rfl (Or.inl rfl) (Or.inr rfl))) (fun _ _ _ _=>cA) (fun _ _ _ _=>(kR (Z:=Z) (pv 0) U.cl iT eE (hr.mono (by first | decide | omega)) aD))) ai)))),?_⟩
  cases c with
  | cmp a i s b m=>exact absurd sj (by show ¬ (0=2);decide)
  | neg c=>exact absurd sj (by show ¬ (1=2);decide)
  | con b cs =>
  cases b with
  | false=>exact absurd sj (by first | (show ¬ (2=2);decide) | (show ¬ (3=2);decide))
  | true =>
  unfold aT at hc
  obtain ⟨q,dx,t,us,e,ep,et,l,hcs⟩:=hc
  cases e
  have ep:H p=some (.ins Z.e dx (jg t)):=ep
  have vo:=aJ.mp hcs
  have qu:us.length=cs.length:=ay vo
  unfold Cd.ok at ho
  unfold Cd.gi at k
  rw [pe] at k
  refine ⟨_,rfl,p,Z.e,dx,_,_,rfl,ep,U.cl 2 (by decide),U.n5,Al _,t,rfl,⟨us,aV.of et⟩,cF (xs:=us) (fun i ys H'=>az H H'∧ck Z H' ((cs.take i).map Cd.gi) ys) ⟨fun _ _ z=>z,(by unfold ck;rfl)⟩ (fun i ys H' _ q=>aV.of (q.1 _ _ et)) ?_ ?_⟩
  ·rintro i x ys H' hix ⟨sm,ht⟩
   obtain ⟨c,gC,pU⟩:=aW vo hix
   obtain ⟨pu,rfl⟩:=cu pU
   have iD:=pU.aH (aE.of sm)
   have PZ:=(List.getElem?_eq_some_iff.mp gC).1
   have jS:=List.mem_of_getElem? gC
   have dd:c.dep≤n:=by
    have z:=fh jS
    unfold Cd.dep at hd
    omega
   have w5:ys.length≤i:=by
    have z:=ay (aJ.mp ht)
    rw [List.length_map,List.length_take] at z
    omega
   refine ⟨Ext.one,jw ⟨_,rfl,pu,c,rfl,iD,pu,c,rfl,rfl,iD,dd,pG ho jS,fun v H1 g8 hv=>⟨line _ (by omega),sm.trans g8,?_⟩⟩⟩
   rw [take_snoc gC,List.map_append]
   exact aJ.mpr (aS (aJ.mp (ht.aH (aE.of g8))) hv)
  ·rintro ys H' ⟨sm,ht⟩ q hq
   rw [qu,List.take_length] at ht
   have w5:ys.length=cs.length:=by
    have z:=ay (aJ.mp ht)
    rw [List.length_map] at z
    exact z
   refine fun x mG hx hdx ne=>?_
   have h1:=bN (o:=.own x) (o':=.ins Z.o mG []) hx hdx
   refine ⟨x,mG,q,ys,rfl,ah,h1 _ _ ah,fun t' H2 but e1 e2=>⟨rfl,?_⟩⟩
   have s2:az H' H2:=fun b' o z=>but b' o (h1 _ _ (new hq _ _ z)) (aq (new hq _ _ z) hx)
   refine k (.ref x) H2 (sm.trans s2) ?_
   unfold aT
   exact ⟨x,mG,t',ys,rfl,e1,e2,by omega,ht.aH (aE.of s2)⟩
abbrev rH:Stmt:=inClass (top 16) 3
theorem qG:aG ["self"] ["self"] (aj rH):=⟨rfl,rfl,rfl,by decide +kernel,rfl,by decide +kernel,by decide +kernel⟩
theorem LD {f:Addr} {fd:FuncData} {Z:Cz} {n:Nat} (F:cX K "opposite" "Some.opposite" rH f fd) (T:Txt K mg Z.s) (U:gh K mg Z) (eE:M4 P w K mg base (n+2) Z "opposite" ["self"] (gO Z n)) (fV:Mr P w K mg base 1 Z.e ["self","conditions"] (dD Z.e)):bu P w K mg base dX (n+3) f fd ["self"] (gO Z (n+1) 3):=by
 obtain ⟨Uh,Ob,gf,vU,fZ⟩:=fV
 refine F.ok qG (fun vs H Q E h=>?_) (fun cdv A outer s H vs Q E hr h=>?_)
 ·obtain ⟨p,c,rfl,sj,hc,hd,ho,k⟩:=h
  rfl
 ·obtain ⟨p,c,rfl,sj,hc,hd,ho,k⟩:=h
  have hu:=br hr
  rw [show av rH=[_] from rfl]
  refine ⟨_,(au (aI (cO vU gf (hr.mono (by first | decide | omega)) rfl U.mgE fZ .nil aD (aa (cB (bq ["condition"] [] [] rfl (by decide +kernel) (by decide +kernel) (by with_unfolding_all rfl) (by exact trivial) (by rfl) rfl (by rfl)) rfl (cZ (aY (pv 0) rfl)) (fun _ _ _ _=>(aK (i:=0) (show List.Nodup (["condition"]:List Str) by decide +kernel) rfl (Or.inl rfl) (Or.inr rfl))) (fun _ _ _ _=>cA) (fun _ _ _ _=>(kR (Z:=Z) (pv 0) U.cl iT eE (hr.mono (by first | decide | omega)) aD))) ai)))),?_⟩
  cases c with
  | cmp a i s b m=>exact absurd sj (by show ¬ (0=3);decide)
  | neg c=>exact absurd sj (by show ¬ (1=3);decide)
  | con b cs =>
  cases b with
  | true=>exact absurd sj (by first | (show ¬ (2=3);decide) | (show ¬ (3=3);decide))
  | false =>
  unfold aT at hc
  obtain ⟨q,dx,t,us,e,ep,et,l,hcs⟩:=hc
  cases e
  have ep:H p=some (.ins Z.o dx (jg t)):=ep
  have vo:=aJ.mp hcs
  have qu:us.length=cs.length:=ay vo
  unfold Cd.ok at ho
  unfold Cd.gi at k
  rw [pe] at k
  refine ⟨_,rfl,p,Z.o,dx,_,_,rfl,ep,U.cl 3 (by decide),U.n6,Al _,t,rfl,⟨us,aV.of et⟩,cF (xs:=us) (fun i ys H'=>az H H'∧ck Z H' ((cs.take i).map Cd.gi) ys) ⟨fun _ _ z=>z,(by unfold ck;rfl)⟩ (fun i ys H' _ q=>aV.of (q.1 _ _ et)) ?_ ?_⟩
  ·rintro i x ys H' hix ⟨sm,ht⟩
   obtain ⟨c,gC,pU⟩:=aW vo hix
   obtain ⟨pu,rfl⟩:=cu pU
   have iD:=pU.aH (aE.of sm)
   have PZ:=(List.getElem?_eq_some_iff.mp gC).1
   have jS:=List.mem_of_getElem? gC
   have dd:c.dep≤n:=by
    have z:=fh jS
    unfold Cd.dep at hd
    omega
   have w5:ys.length≤i:=by
    have z:=ay (aJ.mp ht)
    rw [List.length_map,List.length_take] at z
    omega
   refine ⟨Ext.one,jw ⟨_,rfl,pu,c,rfl,iD,pu,c,rfl,rfl,iD,dd,pG ho jS,fun v H1 g8 hv=>⟨line _ (by omega),sm.trans g8,?_⟩⟩⟩
   rw [take_snoc gC,List.map_append]
   exact aJ.mpr (aS (aJ.mp (ht.aH (aE.of g8))) hv)
  ·rintro ys H' ⟨sm,ht⟩ q hq
   rw [qu,List.take_length] at ht
   have w5:ys.length=cs.length:=by
    have z:=ay (aJ.mp ht)
    rw [List.length_map] at z
    exact z
   refine fun x mG hx hdx ne=>?_
   have h1:=bN (o:=.own x) (o':=.ins Z.e mG []) hx hdx
   refine ⟨x,mG,q,ys,rfl,ah,h1 _ _ ah,fun t' H2 but e1 e2=>⟨rfl,?_⟩⟩
   have s2:az H' H2:=fun b' o z=>but b' o (h1 _ _ (new hq _ _ z)) (aq (new hq _ _ z) hx)
   refine k (.ref x) H2 (sm.trans s2) ?_
   unfold aT
   exact ⟨x,mG,t',ys,rfl,e1,e2,by omega,ht.aH (aE.of s2)⟩
abbrev zV:Stmt:=inClass (top 12) 6
theorem gm:aG ["self","rise","drop"] ["self"] (aj zV):=⟨rfl,rfl,rfl,by decide +kernel,rfl,by decide +kernel,by decide +kernel⟩
theorem Pp {f:Addr} {fd:FuncData} {Z:Cz} {n:Nat} {TM W fT fW:Addr} {dY dS:List Value} (F:cX K "cases" "Compare.cases" zV f fd) (T:Txt K mg Z.s) (U:gh K mg Z) (XT:dW K mg TM W fT fW dY dS) (vI:Mt P w K mg base 5 Z.s "less" ["self","other"] (tY Z.s)) (QO:Dn P w K mg base 6 "less_one" ["total"] (mh Z.s)):bu P w K mg base (zy P w TM) (n+7) f fd ["self"] (ud Z TM (n+1) 0):=by
 obtain ⟨Qt,MC,kc,yJ,jZ⟩:=vI
 obtain ⟨b5a,b1e,j9,iV,iW,jY⟩:=QO
 refine F.NT gm (fun vs H Q E h=>?_) (fun cdv A outer s H vs Q E hr h=>?_)
 ·obtain ⟨p,c,rfl,sj,hc,hd,ho,xr,hfu,mU,k1,k2⟩:=h
  rfl
 ·obtain ⟨p,c,rfl,sj,hc,hd,ho,xr,hfu,mU,k1,k2⟩:=h
  have hu:=br hr
  rw [show av zV=[_,_,_,_,_,_,_,_] from rfl]
  refine ⟨_,(ao (aO (i:=1) gm.nd rfl (Or.inl rfl) (gA (aY (pv 0) rfl) T.cl yJ kc (hr.mono (by first | decide | omega)) jZ .nil aD (aa (aY (pv 0) rfl) ai)))
   (ao (aO (i:=2) gm.nd rfl (Or.inl rfl) (gA (aY (pv 0) rfl) T.cl yJ kc (hr.mono (by first | decide | omega)) jZ .nil aD (aa (aY (pv 0) rfl) ai)))
   (ao (bS (aP bV (aY (pv 0) rfl) aU (aL _)) (au (aI (bB (aa (bG (aa (aB j9 (hr.mono (by first | decide | omega)) rfl iV iW jY .nil aD (aa (pv 1) ai)) ai)) ai)))) bE)
   (ao (bS (aP bV (aY (pv 0) rfl) aU (aL _)) (au (aI (bB (aa (bG (aa (pv 1) ai)) ai)))) bE)
   (ao (bS (aP bV (aY (pv 0) rfl) aU (aL _)) (au (aI (bB (aa (bG (aa (aB j9 (hr.mono (by first | decide | omega)) rfl iV iW jY .nil aD (aa (pv 2) ai)) ai)) ai)))) bE)
   (ao (bS (aP bV (aY (pv 0) rfl) aU (aL _)) (au (aI (bB (aa (bG (aa (pv 2) ai)) ai)))) bE)
   (ao (bS (aP bV (aY (pv 0) rfl) aU (aL _)) (au (aI (bB (aa (bG (aa (pv 1) (aa (pv 2) ai))) ai)))) bE)
   (au (aI (bB (aa (bG (aa (aB j9 (hr.mono (by first | decide | omega)) rfl iV iW jY .nil aD (aa (pv 1) ai)) ai)) (aa (bG (aa (aB j9 (hr.mono (by first | decide | omega)) rfl iV iW jY .nil aD (aa (pv 2) ai)) ai)) ai)))))))))))),?_⟩
  cases c with
  | neg c=>exact absurd sj (by show ¬ (1=0);decide)
  | con b cs=>cases b <;> exact absurd sj (by first | (show ¬ (2=0);decide) | (show ¬ (3=0);decide))
  | cmp a i s b m =>
  unfold aT at hc
  unfold Cd.ok at ho
  unfold Cd.kC at xr
  obtain ⟨q,dx,u,w,e,ep,s1,s2⟩:=hc
  cases e
  obtain ⟨du,tu,JC,_⟩:=id s1
  obtain ⟨dw,tw,Tq,_⟩:=id s2
  have l1:=xr.1
  have l2:=xr.2
  refine ⟨_,rfl,p,Z.c,dx,_,_,rfl,ep,U.cl 0 (by decide),U.n3,Am _ _ _,w,dw,_,rfl,Tq,dM _ _ (by decide +kernel) (by decide +kernel),_,rfl,p,Z.c,dx,_,_,rfl,ep,U.cl 0 (by decide),U.n1,An _ _ _,w,u,b,a,m,i,rfl,s2,s1,by omega,fun r1 tr H1 g8 g1 lr Sr=>?_⟩
  refine ⟨_,rfl,p,Z.c,dx,_,_,rfl,g8 _ _ ep,U.cl 0 (by decide),U.n1,An _ _ _,u,du,_,rfl,g8 _ _ JC,dM _ _ (by decide +kernel) (by decide +kernel),_,rfl,p,Z.c,dx,_,_,rfl,g8 _ _ ep,U.cl 0 (by decide),U.n3,Am _ _ _,u,w,a,b,i,m,rfl,s1.same g8,s2.same g8,by omega,fun r2 td H2 zz g2 ld Sd=>?_⟩
  have sA:=g8.trans zz
  have k:=k1 (by unfold Cd.cz;split <;> split <;> decide)
  have cr:Canon tr:=g1.1
  have cd:Canon td:=g2.1
  have Ry:∀ cs:Cs,cs=MX s (tr,m - i) (td,i - m)→mO (.cmp a i s b m) false cs:=fun cs e=>by unfold mO;exact ⟨tr,td,g1,g2,e⟩
  have Sr:=Sr.same zz
  simp only [signs,List.mem_cons,List.not_mem_nil,or_false] at ho
  rcases ho with hs | hs | hs | hs | hs | hs
  ·subst hs
   refine ⟨_,rfl,p,Z.c,dx,_,_,rfl,sA _ _ ep,U.cl 0 (by decide),U.n2,d9 _ _ _,rfl,_,rfl,bL rfl ?_⟩
   refine ⟨_,rfl,r1,tr,m - i,rfl,Sr,by omega,fun r3 t3 H3 s3 g3 S3=>?_⟩
   refine ⟨Nat.le_of_lt (line 1 (by decide)),fun q hq=>⟨Nat.le_of_lt (line 1 (by decide)),fun F hF=>?_⟩⟩
   have sB:=(s3.trans (new (o:=.tup [.ref r3]) hq)).trans (new (o:=.lst [.ref q]) hF)
   have sC:=(new (o:=.tup [.ref r3]) hq).trans (new (o:=.lst [.ref q]) hF)
   refine k F [[(t3,m - i - 1)]] _ (sA.trans sB) (((sA.trans s3).trans (new hq)).free hF) ⟨[.ref q],ah,.cons ⟨q,[.ref r3],rfl,new hF _ _ ah,.cons ⟨r3,rfl,S3.same sC⟩ .nil⟩ .nil⟩ ⟨?_,fun f=>?_,?_,fun xs hx=>?_⟩ (Ry _ ?_)
   ·unfold Cd.cz;rfl
   ·rw [L5,g3.2,gG g1 f]
    unfold Cd.holds
    have e:dG "<" (i+bH a f) (m+bH b f)=decide ((i+bH a f) < (m+bH b f)):=by unfold dG;rw [if_pos rfl]
    rw [e]
    exact decide_eq_decide.mpr (by constructor <;> intro h <;> omega)
   ·intro k0 hk0;rw [List.mem_singleton.mp hk0];unfold Cd.ff;show 1≤2*1;decide
   ·unfold dB at hx
    intro k0 hk0 z hz
    rw [List.mem_singleton.mp hk0] at hz
    rw [List.mem_singleton.mp hz]
    exact oi g3 (iY g1 hx.2 hx.1)
   ·rw [mF cr g3];rfl
  ·subst hs
   refine ⟨_,rfl,p,Z.c,dx,_,_,rfl,sA _ _ ep,U.cl 0 (by decide),U.n2,d9 _ _ _,rfl,_,rfl,aZ (bh (by decide +kernel)) ?_⟩
   refine ⟨_,rfl,p,Z.c,dx,_,_,rfl,sA _ _ ep,U.cl 0 (by decide),U.n2,d9 _ _ _,rfl,_,rfl,bL rfl ?_⟩
   refine ⟨_,rfl,Nat.le_of_lt (line 1 (by decide)),fun q hq=>⟨Nat.le_of_lt (line 1 (by decide)),fun F hF=>?_⟩⟩
   have sC:=(new (o:=.tup [.ref r1]) hq).trans (new (o:=.lst [.ref q]) hF)
   refine k F [[(tr,m - i)]] _ (sA.trans sC) ((sA.trans (new hq)).free hF) ⟨[.ref q],ah,.cons ⟨q,[.ref r1],rfl,new hF _ _ ah,.cons ⟨r1,rfl,Sr.same sC⟩ .nil⟩ .nil⟩ ⟨?_,fun f=>?_,?_,fun xs hx=>?_⟩ (Ry _ ?_)
   ·unfold Cd.cz;rfl
   ·rw [L5,gG g1 f]
    unfold Cd.holds
    have e:dG "<=" (i+bH a f) (m+bH b f)=decide ((i+bH a f)≤(m+bH b f)):=by unfold dG;rw [if_neg (by decide +kernel),if_pos rfl]
    rw [e]
    exact decide_eq_decide.mpr (by constructor <;> intro h <;> omega)
   ·intro k0 hk0;rw [List.mem_singleton.mp hk0];unfold Cd.ff;show 1≤2*1;decide
   ·unfold dB at hx
    intro k0 hk0 z hz
    rw [List.mem_singleton.mp hk0] at hz
    rw [List.mem_singleton.mp hz]
    exact iY g1 hx.2 hx.1
   ·rfl
  ·subst hs
   refine ⟨_,rfl,p,Z.c,dx,_,_,rfl,sA _ _ ep,U.cl 0 (by decide),U.n2,d9 _ _ _,rfl,_,rfl,aZ (bh (by decide +kernel)) ?_⟩
   refine ⟨_,rfl,p,Z.c,dx,_,_,rfl,sA _ _ ep,U.cl 0 (by decide),U.n2,d9 _ _ _,rfl,_,rfl,aZ (bh (by decide +kernel)) ?_⟩
   refine ⟨_,rfl,p,Z.c,dx,_,_,rfl,sA _ _ ep,U.cl 0 (by decide),U.n2,d9 _ _ _,rfl,_,rfl,aZ (bh (by decide +kernel)) ?_⟩
   refine ⟨_,rfl,p,Z.c,dx,_,_,rfl,sA _ _ ep,U.cl 0 (by decide),U.n2,d9 _ _ _,rfl,_,rfl,aZ (bh (by decide +kernel)) ?_⟩
   refine ⟨_,rfl,p,Z.c,dx,_,_,rfl,sA _ _ ep,U.cl 0 (by decide),U.n2,d9 _ _ _,rfl,_,rfl,bL rfl ?_⟩
   refine ⟨_,rfl,_,rfl,Nat.le_of_lt (line 2 (by decide)),fun q hq=>⟨Nat.le_of_lt (line 1 (by decide)),fun F hF=>?_⟩⟩
   have sC:=(new (o:=.tup [.ref r1,.ref r2]) hq).trans (new (o:=.lst [.ref q]) hF)
   refine k F [[(tr,m - i),(td,i - m)]] _ (sA.trans sC) ((sA.trans (new hq)).free hF) ⟨[.ref q],ah,.cons ⟨q,[.ref r1,.ref r2],rfl,new hF _ _ ah,.cons ⟨r1,rfl,Sr.same sC⟩ (.cons ⟨r2,rfl,Sd.same sC⟩ .nil)⟩ .nil⟩ ⟨?_,fun f=>?_,?_,fun xs hx=>?_⟩ (Ry _ ?_)
   ·unfold Cd.cz;rfl
   ·rw [a2C,gG g1 f,gG g2 f]
    unfold Cd.holds
    have e:dG "=" (i+bH a f) (m+bH b f)=decide ((i+bH a f)=(m+bH b f)):=by unfold dG;rw [if_neg (by decide +kernel),if_neg (by decide +kernel),if_pos rfl]
    rw [e,← Bool.decide_and]
    exact decide_eq_decide.mpr (by constructor <;> intro h <;> omega)
   ·intro k0 hk0;rw [List.mem_singleton.mp hk0];unfold Cd.ff;show 2≤2*1;decide
   ·unfold dB at hx
    intro k0 hk0 z hz
    rw [List.mem_singleton.mp hk0] at hz
    rcases List.mem_cons.mp hz with h | h
    ·rw [h];exact iY g1 hx.2 hx.1
    ·rw [List.mem_singleton.mp h];exact iY g2 hx.1 hx.2
   ·rfl
  ·subst hs
   refine ⟨_,rfl,p,Z.c,dx,_,_,rfl,sA _ _ ep,U.cl 0 (by decide),U.n2,d9 _ _ _,rfl,_,rfl,aZ (bh (by decide +kernel)) ?_⟩
   refine ⟨_,rfl,p,Z.c,dx,_,_,rfl,sA _ _ ep,U.cl 0 (by decide),U.n2,d9 _ _ _,rfl,_,rfl,aZ (bh (by decide +kernel)) ?_⟩
   refine ⟨_,rfl,p,Z.c,dx,_,_,rfl,sA _ _ ep,U.cl 0 (by decide),U.n2,d9 _ _ _,rfl,_,rfl,aZ (bh (by decide +kernel)) ?_⟩
   refine ⟨_,rfl,p,Z.c,dx,_,_,rfl,sA _ _ ep,U.cl 0 (by decide),U.n2,d9 _ _ _,rfl,_,rfl,aZ (bh (by decide +kernel)) ?_⟩
   refine ⟨_,rfl,p,Z.c,dx,_,_,rfl,sA _ _ ep,U.cl 0 (by decide),U.n2,d9 _ _ _,rfl,_,rfl,aZ (bh (by decide +kernel)) ?_⟩
   refine ⟨_,rfl,r1,tr,m - i,rfl,Sr,by omega,fun r3 t3 H3 s3 g3 S3=>⟨Nat.le_of_lt (line 1 (by decide)),fun q hq=>?_⟩⟩
   have s4:=s3.trans (new (o:=.tup [.ref r3]) hq)
   refine ⟨_,rfl,r2,td,i - m,rfl,Sd.same s4,by omega,fun r5 t5 H5 s5 g5 S5=>⟨Nat.le_of_lt (line 1 (by decide)),fun q2 hq2=>?_⟩⟩
   refine ⟨Nat.le_of_lt (line 2 (by decide)),fun F hF=>?_⟩
   have s6:=s5.trans (new (o:=.tup [.ref r5]) hq2)
   have sF:=new (o:=.lst [.ref q,.ref q2]) hF
   refine k F [[(t3,m - i - 1)],[(t5,i - m - 1)]] _ (((sA.trans s4).trans s6).trans sF) (((sA.trans s4).trans s6).free hF) ⟨[.ref q,.ref q2],ah,.cons ⟨q,[.ref r3],rfl,(s6.trans sF) _ _ ah,.cons ⟨r3,rfl,((S3.same (new hq)).same s6).same sF⟩ .nil⟩ (.cons ⟨q2,[.ref r5],rfl,sF _ _ ah,.cons ⟨r5,rfl,(S5.same (new hq2)).same sF⟩ .nil⟩ .nil)⟩ ⟨?_,fun f=>?_,?_,fun xs hx=>?_⟩ (Ry _ ?_)
   ·unfold Cd.cz;rfl
   ·rw [a2B,g3.2,g5.2,gG g1 f,gG g2 f]
    unfold Cd.holds
    have e:dG "!=" (i+bH a f) (m+bH b f)=!decide ((i+bH a f)=(m+bH b f)):=by unfold dG;rw [if_neg (by decide +kernel),if_neg (by decide +kernel),if_neg (by decide +kernel),if_pos rfl]
    rw [e,← Bool.decide_or,← decide_not]
    exact decide_eq_decide.mpr (by constructor <;> intro h <;> omega)
   ·intro k0 hk0
    unfold Cd.ff
    rcases List.mem_cons.mp hk0 with h | h
    ·rw [h];show 1≤2*1;decide
    ·rw [List.mem_singleton.mp h];show 1≤2*1;decide
   ·unfold dB at hx
    intro k0 hk0 z hz
    rcases List.mem_cons.mp hk0 with h | h
    ·rw [h] at hz
     rw [List.mem_singleton.mp hz]
     exact oi g3 (iY g1 hx.2 hx.1)
    ·rw [List.mem_singleton.mp h] at hz
     rw [List.mem_singleton.mp hz]
     exact oi g5 (iY g2 hx.1 hx.2)
   ·rw [mF cr g3,mF cd g5];rfl
  ·subst hs
   refine ⟨_,rfl,p,Z.c,dx,_,_,rfl,sA _ _ ep,U.cl 0 (by decide),U.n2,d9 _ _ _,rfl,_,rfl,aZ (bh (by decide +kernel)) ?_⟩
   refine ⟨_,rfl,p,Z.c,dx,_,_,rfl,sA _ _ ep,U.cl 0 (by decide),U.n2,d9 _ _ _,rfl,_,rfl,aZ (bh (by decide +kernel)) ?_⟩
   refine ⟨_,rfl,p,Z.c,dx,_,_,rfl,sA _ _ ep,U.cl 0 (by decide),U.n2,d9 _ _ _,rfl,_,rfl,aZ (bh (by decide +kernel)) ?_⟩
   refine ⟨_,rfl,p,Z.c,dx,_,_,rfl,sA _ _ ep,U.cl 0 (by decide),U.n2,d9 _ _ _,rfl,_,rfl,bL rfl ?_⟩
   refine ⟨_,rfl,Nat.le_of_lt (line 1 (by decide)),fun q hq=>⟨Nat.le_of_lt (line 1 (by decide)),fun F hF=>?_⟩⟩
   have sC:=(new (o:=.tup [.ref r2]) hq).trans (new (o:=.lst [.ref q]) hF)
   refine k F [[(td,i - m)]] _ (sA.trans sC) ((sA.trans (new hq)).free hF) ⟨[.ref q],ah,.cons ⟨q,[.ref r2],rfl,new hF _ _ ah,.cons ⟨r2,rfl,Sd.same sC⟩ .nil⟩ .nil⟩ ⟨?_,fun f=>?_,?_,fun xs hx=>?_⟩ (Ry _ ?_)
   ·unfold Cd.cz;rfl
   ·rw [L5,gG g2 f]
    unfold Cd.holds
    have e:dG ">=" (i+bH a f) (m+bH b f)=decide ((m+bH b f)≤(i+bH a f)):=by unfold dG;rw [if_neg (by decide +kernel),if_neg (by decide +kernel),if_neg (by decide +kernel),if_neg (by decide +kernel),if_pos rfl]
    rw [e]
    exact decide_eq_decide.mpr (by constructor <;> intro h <;> omega)
   ·intro k0 hk0;rw [List.mem_singleton.mp hk0];unfold Cd.ff;show 1≤2*1;decide
   ·unfold dB at hx
    intro k0 hk0 z hz
    rw [List.mem_singleton.mp hk0] at hz
    rw [List.mem_singleton.mp hz]
    exact iY g2 hx.1 hx.2
   ·rfl
  ·subst hs
   refine ⟨_,rfl,p,Z.c,dx,_,_,rfl,sA _ _ ep,U.cl 0 (by decide),U.n2,d9 _ _ _,rfl,_,rfl,aZ (bh (by decide +kernel)) ?_⟩
   refine ⟨_,rfl,p,Z.c,dx,_,_,rfl,sA _ _ ep,U.cl 0 (by decide),U.n2,d9 _ _ _,rfl,_,rfl,aZ (bh (by decide +kernel)) ?_⟩
   refine ⟨_,rfl,p,Z.c,dx,_,_,rfl,sA _ _ ep,U.cl 0 (by decide),U.n2,d9 _ _ _,rfl,_,rfl,bL rfl ?_⟩
   refine ⟨_,rfl,r2,td,i - m,rfl,Sd,by omega,fun r3 t3 H3 s3 g3 S3=>?_⟩
   refine ⟨Nat.le_of_lt (line 1 (by decide)),fun q hq=>⟨Nat.le_of_lt (line 1 (by decide)),fun F hF=>?_⟩⟩
   have sB:=(s3.trans (new (o:=.tup [.ref r3]) hq)).trans (new (o:=.lst [.ref q]) hF)
   have sC:=(new (o:=.tup [.ref r3]) hq).trans (new (o:=.lst [.ref q]) hF)
   refine k F [[(t3,i - m - 1)]] _ (sA.trans sB) (((sA.trans s3).trans (new hq)).free hF) ⟨[.ref q],ah,.cons ⟨q,[.ref r3],rfl,new hF _ _ ah,.cons ⟨r3,rfl,S3.same sC⟩ .nil⟩ .nil⟩ ⟨?_,fun f=>?_,?_,fun xs hx=>?_⟩ (Ry _ ?_)
   ·unfold Cd.cz;rfl
   ·rw [L5,g3.2,gG g2 f]
    unfold Cd.holds
    have e:dG ">" (i+bH a f) (m+bH b f)=decide ((m+bH b f) < (i+bH a f)):=by unfold dG;rw [if_neg (by decide +kernel),if_neg (by decide +kernel),if_neg (by decide +kernel),if_neg (by decide +kernel),if_neg (by decide +kernel)]
    rw [e]
    exact decide_eq_decide.mpr (by constructor <;> intro h <;> omega)
   ·intro k0 hk0;rw [List.mem_singleton.mp hk0];unfold Cd.ff;show 1≤2*1;decide
   ·unfold dB at hx
    intro k0 hk0 z hz
    rw [List.mem_singleton.mp hk0] at hz
    rw [List.mem_singleton.mp hz]
    exact oi g3 (iY g2 hx.1 hx.2)
   ·rw [mF cd g3];rfl
abbrev zS:Stmt:=inClass (top 13) 6
theorem rZ:aG ["self"] ["self"] (aj zS):=⟨rfl,rfl,rfl,by decide +kernel,rfl,by decide +kernel,by decide +kernel⟩
theorem Pj {f:Addr} {fd:FuncData} {Z:Cz} {n:Nat} {TM W fT fW:Addr} {dY dS:List Value} (F:cX K "cases" "Turned.cases" zS f fd) (T:Txt K mg Z.s) (U:gh K mg Z) (XT:dW K mg TM W fT fW dY dS) (eE:M4 P w K mg base (n+2) Z "opposite" ["self"] (gO Z n)) (iH:Oq P w K mg base TM (n+6) Z "cases" ["self"] (ud Z TM n)):bu P w K mg base (zy P w TM) (n+7) f fd ["self"] (ud Z TM (n+1) 1):=by
 refine F.NT rZ (fun vs H Q E h=>?_) (fun cdv A outer s H vs Q E hr h=>?_)
 ·obtain ⟨p,c,rfl,sj,hc,hd,ho,xr,hfu,mU,k1,k2⟩:=h
  rfl
 ·obtain ⟨p,c,rfl,sj,hc,hd,ho,xr,hfu,mU,k1,k2⟩:=h
  have hu:=br hr
  rw [show av zS=[_] from rfl]
  refine ⟨_,(au (aI (yw (Z:=Z) (kR (Z:=Z) (aY (pv 0) rfl) U.cl iT eE (hr.mono (by first | decide | omega)) aD) U.cl pH iH (hr.mono (by first | decide | omega)) mW))),?_⟩
  cases c with
  | cmp a i s b m=>exact absurd sj (by show ¬ (0=1);decide)
  | con b cs=>cases b <;> exact absurd sj (by first | (show ¬ (2=1);decide) | (show ¬ (3=1);decide))
  | neg c =>
  unfold aT at hc
  unfold Cd.ok at ho
  unfold Cd.kC at xr
  unfold Cd.full at hfu
  unfold Cd.ff at mU
  unfold Cd.dep at hd
  obtain ⟨q,dx,u,e,ep,hc⟩:=hc
  cases e
  obtain ⟨pu,rfl⟩:=cu hc
  obtain ⟨a1,a2,a3,a4,a5,a6⟩:=oZ ho xr hfu
  refine ⟨_,rfl,p,Z.t,dx,_,_,rfl,ep,U.cl 1 (by decide),U.n4,Ma _,pu,c,rfl,hc,pu,c,rfl,rfl,hc,by omega,ho,fun v H1 sm hv=>?_⟩
  obtain ⟨pv',rfl⟩:=cu hv
  have en:c.gi.cz false=(Cd.neg c).cz false:=by
   rw [sV c false ho]
   conv=>rhs;unfold Cd.cz
  rw [← en] at k1 k2
  refine ⟨pv',c.gi,rfl,hv,pv',c.gi,rfl,rfl,hv,by omega,a1,a2,a3,by omega,fun h64 r cs H2 s2 fr hcs ok ce=>?_,fun h64 H2 s2=>k2 h64 H2 (sm.trans s2)⟩
  exact k1 h64 r cs H2 (sm.trans s2) (sm.free fr) hcs (ok.gi ho xr hfu) (by unfold mO;exact mO.gi ho ce)
abbrev zU:Stmt:=inClass (top 15) 4
theorem fO:aG ["self","found","condition"] ["self"] (aj zU):=⟨rfl,rfl,rfl,by decide +kernel,rfl,by decide +kernel,by decide +kernel⟩
theorem Po {f:Addr} {fd:FuncData} {Z:Cz} {n:Nat} {TM W fT fW:Addr} {dY dS:List Value} (F:cX K "cases" "Every.cases" zU f fd) (T:Txt K mg Z.s) (U:gh K mg Z) (XT:dW K mg TM W fT fW dY dS) (iH:Oq P w K mg base TM (n+6) Z "cases" ["self"] (ud Z TM n)) (p8:FI P w K mg base TM 5 "cases_of_both" ["ones","others"] (oJ Z TM)):bu P w K mg base (zy P w TM) (n+7) f fd ["self"] (ud Z TM (n+1) 2):=by
 obtain ⟨a5S,Ua,gT,gq,gr,gS⟩:=p8
 refine F.NT fO (fun vs H Q E h=>?_) (fun cdv A outer s H vs Q E hr h=>?_)
 ·obtain ⟨p,c,rfl,sj,hc,hd,ho,xr,hfu,mU,k1,k2⟩:=h
  rfl
 ·obtain ⟨p,c,rfl,sj,hc,hd,ho,xr,hfu,mU,k1,k2⟩:=h
  have hu:=br hr
  rw [show av zU=[_,_,_] from rfl]
  refine ⟨_,(ao (aO (i:=1) fO.nd rfl (Or.inl rfl) (bB (aa (bG ai) ai)))
   (ao (dP PassesOwn.leaving rfl (cZ (aY (pv 0) rfl)) (aK (i:=2) fO.nd rfl (Or.inl rfl)) (au (aO (i:=1) fO.nd rfl (Or.inl rfl) (aB gT (hr.mono (by first | decide | omega)) rfl gq gr gS .nil mW (aa (pv 1) (aa (yw (Z:=Z) (pv 2) U.cl pH iH (hr.mono (by first | decide | omega)) mW) ai))))))
   (au (aI (pv 1))))),?_⟩
  cases c with
  | cmp a i s b m=>exact absurd sj (by show ¬ (0=2);decide)
  | neg c=>exact absurd sj (by show ¬ (1=2);decide)
  | con b cs =>
  cases b with
  | false=>exact absurd sj (by first | (show ¬ (2=2);decide) | (show ¬ (3=2);decide))
  | true =>
  unfold aT at hc
  obtain ⟨q,dx,t,us,e,ep,et,l,hcs⟩:=hc
  cases e
  have ep:H p=some (.ins Z.e dx (jg t)):=ep
  have vo:=aJ.mp hcs
  have qu:us.length=cs.length:=ay vo
  unfold Cd.ok at ho
  unfold Cd.kC at xr
  unfold Cd.full at hfu
  unfold Cd.ff at mU
  unfold Cd.dep at hd
  have eN:(Cd.con true cs).cz false=kj cs false:=by
   conv=>lhs;unfold Cd.cz
   rfl
  rw [eN] at k1 k2
  refine ⟨(Nat.zero_le _),fun q0 sE=>⟨Nat.le_of_lt (line 1 (by decide)),fun F0 DO=>?_⟩⟩
  have s0:=(new (o:=.tup []) sE).trans (new (o:=.lst [.ref q0]) DO)
  have e0:upd (upd H q0 (.tup [])) F0 (.lst [.ref q0]) q0=some (.tup []):=new DO _ _ ah
  refine ⟨_,rfl,p,Z.e,dx,_,_,rfl,s0 _ _ ep,U.cl 2 (by decide),U.n5,Al _,t,rfl,⟨us,aV.of (s0 _ _ et)⟩,pY (xs:=us) (fun i σ H'=>∃ (a2:Option V) (F:Addr) (A1:Cs),σ=[some (.ref p),some (.ref F),a2]∧az (upd (upd H q0 (.tup [])) F0 (.lst [.ref q0])) H'∧cQ Z H' F A1∧Ny (cs.take i) A1∧lV (cs.take i) false true A1∧A1.length≤64∧H F=none) ⟨none,F0,[[]],rfl,fun _ _ z=>z,⟨[.ref q0],ah,.cons ⟨q0,[],rfl,e0,.nil⟩ .nil⟩,Ny.nil,(by rw [List.take_zero];unfold lV;rfl),(by show 1≤64;decide),(new sE).free DO⟩ ?_ ?_ ?_⟩
  ·rintro i σ H' _ ⟨a2,F,A1,rfl,sm,hF,pA,fA,lA,fF⟩
   exact aV.of (sm _ _ (s0 _ _ et))
  ·rintro i x σ H' hix ⟨a2,F,A1,rfl,sm,hF,pA,fA,lA,fF⟩
   obtain ⟨c,gC,pU⟩:=aW vo hix
   obtain ⟨pu,rfl⟩:=cu pU
   have jS:=List.mem_of_getElem? gC
   have dd:c.dep≤n:=by
    have z:=fh jS
    omega
   have V5:=pN (i+1) cs
   rw [take_snoc gC,jq] at V5
   have ft1:=jU (i+1) hfu.2
   rw [take_snoc gC] at ft1
   have sA:=s0.trans sm
   have iD:=pU.aH (aE.of sA)
   have nm:=LX (o:=false) hfu.2 gC
   have eA:=pA.len
   have two:c.cz false≤kj cs false:=by
    have:=Nat.le_mul_of_pos_left (c.cz false) nm.2
    omega
   have lv8:=pN i cs
   refine ⟨_,rfl,_,rfl,pu,c,rfl,iD,pu,c,rfl,rfl,iD,dd,pG ho jS,vd xr jS,ju hfu.2 jS,by omega,fun h64 r B H2 s2 fr hB Rv eB=>?_,fun h64 H2 s2=>k2 (by omega) H2 (sA.trans s2)⟩
   have pAB:=pA.snoc Rv
   have lB:=Rv.len
   obtain ⟨yF,eF,pF⟩:=id hF
   refine ⟨F,r,A1,B,rfl,⟨yF,s2 _ _ eF,L2.Paired.dh pF fun _ _ z=>z.aH (aE.of s2)⟩,hB,lA,by omega,(fun a ha=>by have:=pA.wg a ha;omega),(fun b hb=>by have:=Rv.wg b hb;omega),fun hle r2 H3 s3 JN hC=>?_,fun hgt H3 s3=>k2 (by rw [eA,lB] at hgt;omega) H3 ((sA.trans s2).trans s3)⟩
   refine ⟨some (.ref pu),r2,bC A1 B,rfl,(sm.trans s2).trans s3,hC,?_,?_,by rw [iG];exact hle,(sA.trans s2).free JN⟩
   ·rw [take_snoc gC]
    exact pAB
   ·rw [take_snoc gC]
    exact lV.snoc eB fA
  ·rintro σ H' ⟨a2,F,A1,rfl,sm,hF,pA,fA,lA,fF⟩
   rw [qu,List.take_length] at pA fA
   have eA:=pA.len
   exact ⟨_,rfl,k1 (by omega) F A1 H' (s0.trans sm) fF hF pA.ok fA.con⟩
abbrev zT:Stmt:=inClass (top 16) 4
theorem ja:aG ["self","found","condition"] ["self"] (aj zT):=⟨rfl,rfl,rfl,by decide +kernel,rfl,by decide +kernel,by decide +kernel⟩
theorem Pk {f:Addr} {fd:FuncData} {Z:Cz} {n:Nat} {TM W fT fW:Addr} {dY dS:List Value} (F:cX K "cases" "Some.cases" zT f fd) (T:Txt K mg Z.s) (U:gh K mg Z) (XT:dW K mg TM W fT fW dY dS) (iH:Oq P w K mg base TM (n+6) Z "cases" ["self"] (ud Z TM n)) (vF:FI P w K mg base TM 4 "refuse_too_many" ["count"] (tV TM)):bu P w K mg base (zy P w TM) (n+7) f fd ["self"] (ud Z TM (n+1) 3):=by
 obtain ⟨a5N,TZ,gb,fk,fq,fY⟩:=vF
 refine F.NT ja (fun vs H Q E h=>?_) (fun cdv A outer s H vs Q E hr h=>?_)
 ·obtain ⟨p,c,rfl,sj,hc,hd,ho,xr,hfu,mU,k1,k2⟩:=h
  rfl
 ·obtain ⟨p,c,rfl,sj,hc,hd,ho,xr,hfu,mU,k1,k2⟩:=h
  have hu:=br hr
  rw [show av zT=[_,_,_] from rfl]
  refine ⟨_,(ao (aO (i:=1) ja.nd rfl (Or.inl rfl) (bB ai))
   (ao (dP PassesOwn.leaving rfl (cZ (aY (pv 0) rfl)) (aK (i:=2) ja.nd rfl (Or.inl rfl)) (ao (cT (iS PySem.F.plainAttrs_list PySem.F.slot_list_extend PySem.F.type_list_extend w4 (pv 1) (aa (yw (Z:=Z) (pv 2) U.cl pH iH (hr.mono (by first | decide | omega)) mW) ai)))
   (au (cT (aB gb (hr.mono (by first | decide | omega)) rfl fk fq fY .nil mW (aa (bU bX (by rfl) T.len PySem.boot_len (aa (pv 1) ai)) ai))))))
   (au (aI (pv 1))))),?_⟩
  cases c with
  | cmp a i s b m=>exact absurd sj (by show ¬ (0=3);decide)
  | neg c=>exact absurd sj (by show ¬ (1=3);decide)
  | con b cs =>
  cases b with
  | true=>exact absurd sj (by first | (show ¬ (2=3);decide) | (show ¬ (3=3);decide))
  | false =>
  unfold aT at hc
  obtain ⟨q,dx,t,us,e,ep,et,l,hcs⟩:=hc
  cases e
  have ep:H p=some (.ins Z.o dx (jg t)):=ep
  have vo:=aJ.mp hcs
  have qu:us.length=cs.length:=ay vo
  unfold Cd.ok at ho
  unfold Cd.kC at xr
  unfold Cd.full at hfu
  unfold Cd.ff at mU
  unfold Cd.dep at hd
  have eN:(Cd.con false cs).cz false=kg cs false:=by
   conv=>lhs;unfold Cd.cz
   rfl
  rw [eN] at k1 k2
  refine ⟨(Nat.zero_le _),fun F DO=>?_⟩
  have s0:=new (o:=.lst []) DO
  refine ⟨_,rfl,p,Z.o,dx,_,_,rfl,s0 _ _ ep,U.cl 3 (by decide),U.n6,Al _,t,rfl,⟨us,aV.of (s0 _ _ et)⟩,pY (xs:=us) (fun i σ H'=>∃ (a2:Option V) (ys:List V) (A1:Cs),σ=[some (.ref p),some (.ref F),a2]∧bI F (upd H F (.lst [])) H'∧H' F=some (.lst ys)∧Paired (jf Z H') ys A1∧Nx (cs.take i) A1∧lV (cs.take i) false false A1∧A1.length≤64) ⟨none,[],[],rfl,fun _ _ z _=>z,ah,.nil,Nx.nil,(by rw [List.take_zero];unfold lV;rfl),(by show 0≤64;decide)⟩ ?_ ?_ ?_⟩
  ·rintro i σ H' _ ⟨a2,ys,A1,rfl,but,eF,pr,pA,fA,lA⟩
   exact aV.of (but _ _ (s0 _ _ et) (aq et DO))
  ·rintro i x σ H' hix ⟨a2,ys,A1,rfl,but,eF,pr,pA,fA,lA⟩
   obtain ⟨c,gC,pU⟩:=aW vo hix
   obtain ⟨pu,rfl⟩:=cu pU
   have jS:=List.mem_of_getElem? gC
   have dd:c.dep≤n:=by
    have z:=fh jS
    omega
   have V5:=pN (i+1) cs
   rw [take_snoc gC,jq] at V5
   have ft1:=jU (i+1) hfu.2
   rw [take_snoc gC] at ft1
   have sA:az H H':=fun b' o' e=>but b' o' (s0 _ _ e) (aq e DO)
   have iD:=pU.aH (aE.of sA)
   have nm:=LW (o:=false) gC
   have eA:=pA.len
   refine ⟨_,rfl,.inl ⟨rfl,_,bx.of eF⟩,_,rfl,pu,c,rfl,iD,pu,c,rfl,rfl,iD,dd,pG ho jS,vd xr jS,ju hfu.2 jS,by omega,fun h64 r B H2 s2 fr hB Rv eB=>?_,fun h64 H2 s2=>k2 (by omega) H2 (sA.trans s2)⟩
   have pAB:=pA.snoc Rv
   have lB:=Rv.len
   obtain ⟨zs,ez,pz⟩:=id hB
   have l1:=ay pr
   have l2:=ay pz
   have X5:=s2 _ _ eF
   refine ⟨F,r,ys,zs,rfl,rfl,X5,ez,Nat.le_of_lt (line _ (by omega)),?_⟩
   have b3:bI F H2 (upd H2 F (.lst (ys++zs))):=bI.upd
   have Mw:aE H2 (upd H2 F (.lst (ys++zs))):=aE.soft b3 X5 fK
   have sF:az H (upd H2 F (.lst (ys++zs))):=fun b' o' e=>b3 b' o' (s2 _ _ (sA _ _ e)) (aq e DO)
   refine ⟨_,rfl,F,_,rfl,.inl (bx.of ah),(ys++zs).length,rfl,fun hle=>?_,fun hgt H3 s3=>k2 (by rw [List.length_append] at hgt;omega) H3 (sF.trans s3)⟩
   refine ⟨some (.ref pu),ys++zs,A1++B,rfl,(but.trans (bI.of s2)).trans b3,ah,?_,?_,?_,?_⟩
   ·exact iz (L2.Paired.dh pr fun _ _ z=>(z.aH (aE.of s2)).aH Mw) (L2.Paired.dh pz fun _ _ z=>z.aH Mw)
   ·rw [take_snoc gC]
    exact pAB
   ·rw [take_snoc gC]
    exact lV.snoc eB fA
   ·rw [List.length_append] at hle ⊢
    omega
  ·rintro σ H' ⟨a2,ys,A1,rfl,but,eF,pr,pA,fA,lA⟩
   have sA:az H H':=fun b' o' e=>but b' o' (s0 _ _ e) (aq e DO)
   rw [qu,List.take_length] at pA fA
   have eA:=pA.len
   exact ⟨_,rfl,k1 (by omega) F A1 H' sA DO ⟨ys,eF,pr⟩ pA.ok fA.con⟩
abbrev nD:Stmt:=top 7
theorem mq:aG ["pairs","number","weights","thing","weight"] ["pairs","number"] (aj nD):=⟨rfl,rfl,rfl,by decide +kernel,rfl,by decide +kernel,by decide +kernel⟩
theorem Eu {f C:Addr} {fd:FuncData} (F:cX K "sum_of" "sum_of" nD f fd) (T:Txt K mg C) (d_init:Mr P w K mg base 1 C ["self","terms","number"] (kG C)):bu P w K mg base dX 3 f fd ["pairs","number"] (oH C):=by
 obtain ⟨yX,tF,dm,M,di⟩:=d_init
 refine F.ok mq (fun vs H Q E h=>?_) (fun cdv A outer s H vs Q E hr h=>?_)
 ·obtain ⟨a,n,ps,rfl,hs,hz,k⟩:=h
  rfl
 ·obtain ⟨a,n,ps,rfl,hs,hz,k⟩:=h
  have hu:=br hr
  rw [show av nD=[_,_,_] from rfl]
  refine ⟨_,(ao (aO (i:=2) mq.nd rfl (Or.inr rfl) kQ)
   (ao (dP PassesOwn.never rfl (HE (pv 0)) (qK rfl (cN (aK (i:=3) mq.nd rfl (Or.inl rfl)) (cN (aK (i:=4) mq.nd rfl (Or.inl rfl)) jM))) (au (jL hu (pv 2) (pv 3) (bg dQ (HP hu (pv 2) (pv 3) ak ⟨rfl,rfl,rfl,rfl⟩) (pv 4)) rfl)))
   (au (aI (cO M dm (hr.mono (by first | decide | omega)) rfl T.n8 di .nil aD (aa (cB (bq ["thing"] ["weights"] [2] rfl (by decide +kernel) (by decide +kernel) (by with_unfolding_all rfl) (by exact ⟨rfl,trivial⟩) (by rfl) rfl (by rfl)) rfl (eZ (bU (qe rfl) (by rfl) T.sorted boot_sorted (aa (pv 2) ai))) (fun _ _ _ _=>(aK (i:=0) (show List.Nodup (["thing","weights"]:List Str) by decide +kernel) rfl (Or.inl rfl) (Or.inr rfl))) (fun _ _ _ _=>(jK (aP Ds (mC hu (pv 1) (pv 0) (fun _ _=>rfl)) ak (aL _)))) (fun _ _ _ _=>(bG (aa (pv 0) (aa (mC hu (pv 1) (pv 0) (fun _ _=>rfl)) ai))))) (aa (pv 1) ai))))))),?_⟩
  intro d hd
  have lz:=line ps.length (by omega)
  refine ⟨_,rfl,a,rfl,Qm (hs.same (new hd)) (fun i σ H'=>∃ e t w,σ=[some (.ref a),some (.int n),some (.ref d),t,w]∧H'=upd H d (.dK (enc e))∧Tab (ps.take i) e) ⟨[],none,none,rfl,rfl,Tab.nil⟩ ?_ ?_ ?_⟩
  ·rintro i σ H' ⟨e,t,w,rfl,rfl,tab⟩
   exact Kp.dict
  ·rintro i v pr σ H' hi ⟨a',rfl,ha'⟩ ⟨e,t,w,rfl,rfl,tab⟩
   have he:(enc e).length < sizeLine:=by
    have h1:=tab.len
    rw [List.length_take] at h1
    rw [jV]
    omega
   refine ⟨a',_,rfl,aV.of ha',rfl,_,_,rfl,_,_,rfl,rfl,?_⟩
   refine ⟨_,rfl,d,rfl,.inl ⟨_,.inl ah⟩,_,rfl,_,rm.k (k:=Sum.inr pr.1) ah,_,rfl,_,_,J2 e pr.1,rfl,_,rfl,_,rfl,d,_,rfl,we.k (k:=Sum.inr pr.1) ah he,?_⟩
   refine ⟨step e pr,_,_,rfl,?_,?_⟩
   ·rw [C6,p7]
    rfl
   ·rw [take_snoc hi]
    exact tab.step pr
  ·rintro σ H' ⟨e,t,w,rfl,rfl,tab⟩
   rw [List.take_length] at tab
   have el:(enc e).length < 64:=by have:=tab.len;rw [jV];omega
   refine ⟨_,rfl,d,_,keys e,rfl,ah,AH e,el,fun l ys hl hp hso=>⟨l,rfl,⟨_,bx.of ah⟩,?_⟩⟩
   have yl:ys.length≤ps.length:=by
    rw [hp.length_eq]
    unfold keys
    rw [List.length_map]
    exact tab.len
   refine gy (xs:=ys.map V.str) (fun i out H'=>az (upd (upd H d (.dK (enc e))) l (.lst (ys.map V.str))) H'∧zB H' out (outs e (ys.take i))) ⟨az.refl _,.nil⟩ (fun i out H' _ q=>bx.of (q.1 _ _ ah)) ?_ ?_
   ·rintro i v out H' hi ⟨sm,pr⟩
    obtain ⟨y,hy,rfl⟩:∃ y,ys[i]?=some y∧v=V.str y:=by
     rw [List.getElem?_map] at hi
     cases q:ys[i]? with
     | none=>rw [q] at hi;cases hi
     | some y=>rw [q] at hi;cases hi;exact ⟨y,rfl,rfl⟩
    have hm:y∈keys e:=hp.mem_iff.mp (List.mem_of_getElem? hy)
    have WY:H' d=some (.dK (enc e)):=sm _ _ (by rw [aA (aq ah hl)];exact ah)
    have ol:out.length < sizeLine:=by
     rw [dI pr]
     have:=uG e (ys.take i)
     rw [List.length_take] at this
     omega
    refine ⟨Ext.one,_,rfl,_,rfl,d,_,rfl,kX WY hm,rfl,_,rfl,?_⟩
    dsimp only
    by_cases g0:get e y=0
    ·rw [if_neg (by simp [g0])]
     refine ⟨sm,?_⟩
     rw [take_snoc hy,wX,if_pos g0,List.append_nil]
     exact pr
    ·rw [if_pos (by simp [g0])]
     refine ⟨_,rfl,_,rfl,_,rfl,d,_,rfl,kX WY hm,(szl 2),fun q hq=>⟨ol,az.new sm hq,?_⟩⟩
     rw [take_snoc hy,wX,if_neg g0]
     exact iR (pr.keep fun _ _ z=>new hq _ _ z) (mz ⟨q,rfl,ah⟩)
   ·rintro out H' ⟨sm,pr⟩ q hq
    rw [List.length_map,List.take_length] at pr
    have s0:az H H':=fun b o z=>sm b o (az.new (new hd) hl b o z)
    refine ⟨_,rfl,fun x dx hx hdx ne=>?_⟩
    have h1:az (upd H' q (.lst out)) (upd (upd (upd H' q (.lst out)) dx (.own x)) x (.ins C dx [])):=fun b o z=>by
     rw [aA (aq z hx),aA (aq z hdx)]
     exact z
    refine ⟨x,dx,q,n,outs e ys,rfl,ah,.inl ⟨out,h1 _ _ ah,pr.keep fun _ _ z=>h1 _ _ (new hq _ _ z)⟩,?_,fun H2 but S=>⟨rfl,?_⟩⟩
    ·have:=uG e ys
     omega
    ·refine k x (outs e ys) H2 (fun b o z=>but b o (h1 _ _ (az.new s0 hq b o z)) (aq (az.new s0 hq b o z) hx)) (tab.gat hp hso) ?_ S
     have:=uG e ys
     omega
abbrev nI:Stmt:=top 33
theorem oK:aG ["_law_cell","_law_k","_law_mix"] ["_law_cell","_law_k"] (aj nI):=⟨rfl,rfl,rfl,by decide +kernel,rfl,by decide +kernel,by decide +kernel⟩
theorem Ip {f C:Addr} {fd:FuncData} (F:cX K "_law_mixed" "_law_mixed" nI f fd) (T:Txt K mg C) :bu P w K mg base dX 1 f fd ["_law_cell","_law_k"] sQ:=by
 refine F.ok oK (fun vs H Q E h=>?_) (fun cdv A outer s H vs Q E hr h=>?_)
 ·obtain ⟨c,kk,rfl,k⟩:=h
  rfl
 ·obtain ⟨c,kk,rfl,k⟩:=h
  have hu:=br hr
  rw [show av nI=[_,_] from rfl]
  refine ⟨_,(ao (aO (i:=2) oK.nd rfl (Or.inl rfl) (bg iA (bg fP (bg dQ (bg dQ (pv 0) (bg fP ak (pv 1))) ak) ak) ak))
   (au (aI (bg iA (bg dQ (bg fP (pv 2) (pv 2)) (bg fP ak (pv 2))) ak)))),?_⟩
  refine ⟨_,rfl,_,rfl,_,_,rfl,rfl,.inl ⟨by decide,by decide⟩,_,_,rfl,rfl,_,_,rfl,rfl,_,_,rfl,rfl,.inr ⟨by decide,by decide⟩,_,_,rfl,rfl,(by show (0:Int) < 2147483647;decide),?_⟩
  have h0:=Int.emod_nonneg ((c+7919*kk+11)*48271) (show (2147483647:Int)≠0 by decide)
  have h1:=Int.emod_lt_of_pos ((c+7919*kk+11)*48271) (show (0:Int) < 2147483647 by decide)
  generalize (c+7919*kk+11)*48271 % 2147483647=mx at h0 h1
  refine ⟨_,rfl,_,rfl,_,_,rfl,rfl,.inl ⟨by omega,by omega⟩,_,rfl,_,_,rfl,rfl,.inl ⟨by decide,by decide⟩,_,_,rfl,rfl,_,_,rfl,rfl,(by show (0:Int) < 2147483399;decide),?_⟩
  exact k _ (Int.emod_nonneg _ (by decide)) (Int.emod_lt_of_pos _ (by decide))
abbrev jJ:Stmt:=top 32
theorem ie:aG ["_law_script","_law_k","_law_cell"] ["_law_script","_law_k"] (aj jJ):=⟨rfl,rfl,rfl,by decide +kernel,rfl,by decide +kernel,by decide +kernel⟩
theorem BK {f C:Addr} {fd:FuncData} (F:cX K "_law_cell_at" "_law_cell_at" jJ f fd) (T:Txt K mg C) (zc:Dn P w K mg base 1 "_law_mixed" ["_law_cell","_law_k"] sQ):bu P w K mg base dX 2 f fd ["_law_script","_law_k"] (Bx K):=by
 obtain ⟨ME,JQ,zo,uT,vf,zf⟩:=zc
 refine F.ok ie (fun vs H Q E h=>?_) (fun cdv A outer s H vs Q E hr h=>?_)
 ·obtain ⟨a,ns,kk,rfl,hS,k⟩:=h
  rfl
 ·obtain ⟨a,ns,kk,rfl,hS,k⟩:=h
  have hu:=br hr
  rw [show av jJ=[_,_,_] from rfl]
  refine ⟨_,(ao (aO (i:=2) ie.nd rfl (Or.inl rfl) ak)
   (ao (bS (aP uH (pv 1) (bU bX (by rfl) T.len PySem.boot_len (aa (pv 0) ai)) (aL _)) (au (aO (i:=2) ie.nd rfl (Or.inl rfl) (aM bZ (pv 0) (pv 1) (fun _ _=>rfl)))) bE)
   (au (aI (aB zo (hr.mono (by first | decide | omega)) rfl uT vf zf .nil aD (aa (pv 2) (aa (bg dQ ak (pv 1)) ai))))))),?_⟩
  refine ⟨_,rfl,_,rfl,a,_,rfl,.inl hS,_,_,rfl,rfl,_,rfl,?_⟩
  refine Av (fun hc=>?_) (fun hc=>?_)
  ·have hc:=of_decide_eq_true hc
   rw [List.length_map] at hc
   have hk:(ns.map V.int)[kk]?=some (V.int (ns[kk]'(by omega))):=by rw [List.getElem?_map,List.getElem?_eq_getElem (by omega)];rfl
   refine ⟨_,rfl,_,rfl,a,_,_,_,rfl,rfl,hS,dJ hk,?_⟩
   exact ⟨_,rfl,_,rfl,_,_,rfl,rfl,_,_,rfl,fun r _ _=>k r⟩
  ·exact ⟨_,rfl,_,rfl,_,_,rfl,rfl,_,_,rfl,fun r _ _=>k r⟩
abbrev uw:Stmt:=top 34
theorem zN:aG ["_law_draw","_law_size"] ["_law_draw","_law_size"] (aj uw):=⟨rfl,rfl,rfl,by decide +kernel,rfl,by decide +kernel,by decide +kernel⟩
theorem LG {f C:Addr} {fd:FuncData} (F:cX K "_law_next" "_law_next" uw f fd) (T:Txt K mg C) (zc:Dn P w K mg base 1 "_law_mixed" ["_law_cell","_law_k"] sQ):bu P w K mg base dX 2 f fd ["_law_draw","_law_size"] jB:=by
 obtain ⟨ME,JQ,zo,uT,vf,zf⟩:=zc
 refine F.ok zN (fun vs H Q E h=>?_) (fun cdv A outer s H vs Q E hr h=>?_)
 ·obtain ⟨d,n,rfl,hd,hn,k⟩:=h
  rfl
 ·obtain ⟨d,n,rfl,hd,hn,k⟩:=h
  have hu:=br hr
  rw [show av uw=[_,_] from rfl]
  refine ⟨_,(ao (Lk (pv 0) ak JM ak BZ set_list)
   (au (aI (bg iA (bg Dt (aB zo (hr.mono (by first | decide | omega)) rfl uT vf zf .nil aD (aa (aM bZ (pv 0) ak (fun _ _=>rfl)) (aa (aM bZ (pv 0) ak (fun _ _=>rfl)) ai))) ak) (pv 1))))),?_⟩
  obtain ⟨x,y,hd⟩:=hd
  refine ⟨_,rfl,d,_,1,_,rfl,rfl,bx.of hd,rfl,_,_,rfl,rfl,d,_,_,1,rfl,rfl,hd,rfl,?_⟩
  refine ⟨_,rfl,d,_,_,_,rfl,rfl,bx.of ah,rfl,_,rfl,d,_,_,_,rfl,rfl,bx.of ah,rfl,_,_,rfl,fun r h0 h1=>?_⟩
  refine ⟨_,_,rfl,rfl,⟨by decide,by decide⟩,_,rfl,_,_,rfl,rfl,hn,?_⟩
  have e0:=Int.emod_nonneg (r / 7) (Int.ne_of_gt hn)
  have e1:=Int.emod_lt_of_pos (r / 7) hn
  have e:=Int.toNat_of_nonneg e0
  rw [← e] at e1
  show Q (V.int (r / 7 % n)) _
  rw [← e]
  exact k _ _ e1 bI.upd ⟨_,_,ah⟩
abbrev oU:Stmt:=top 36
theorem rD:aG ["_law_words"] [] (aj oU):=⟨rfl,rfl,rfl,by decide +kernel,rfl,by decide +kernel,by decide +kernel⟩
abbrev eA:Expr:=VC ((av oU).getD 0 (.Pass ⟨0,0,0,0⟩))
abbrev eB:Expr:=OY (Zw ((av oU).getD 1 (.Pass ⟨0,0,0,0⟩)))
theorem kA1:Ak eA=some Jr:=rfl
theorem kB1:Ak eB=some Jq:=rfl
theorem LL {f C:Addr} {fd:FuncData} (F:cX K "_law_kept" "_law_kept" oU f fd) (T:Txt K mg C) :bu P w K mg base dX 1 f fd [] yi:=by
 refine F.ok rD (fun vs H Q E h=>?_) (fun cdv A outer s H vs Q E hr h=>?_)
 ·obtain ⟨rfl,k⟩:=h
  rfl
 ·obtain ⟨rfl,k⟩:=h
  have hu:=br hr
  have ha:=kA1
  have hb:=kB1
  rw [show av oU=[.Assign [.Name "_law_words" _] eA _,.Return (some (.BinOp (.Name "_law_words" _) .Add eB _)) _] from rfl]
  generalize eA=qa at ha ⊢
  generalize eB=qb at hb ⊢
  refine ⟨_,(ao (aO (i:=0) rD.nd rfl (Or.inl rfl) (yu ha) (Dd ha))
   (au (aI (bg uI (pv 0) (yu hb))))),?_⟩
  refine ⟨(szl 13),fun l1 n1=>?_⟩
  refine ⟨_,rfl,(szl 8),fun l2 n2=>?_⟩
  have ne:l1≠l2:=aq ah n2
  refine ⟨l1,l2,_,_,rfl,rfl,(by rw [aA ne];exact ah),ah,(by show 13+8≤sizeLine;exact Nat.le_of_lt (line 21 (by decide))),fun p hp=>?_⟩
  refine k p _ (az.new (az.new (new n1) n2) hp) ((az.new (new n1) n2).free hp) ?_
  rw [ah]
  rw [show eW.map V.str=Jr.map V.str++Jq.map V.str from List.map_append]
abbrev kL:Stmt:=top 35
theorem bD:aG ["_law_draw","_law_many","_law_some","_law_size","_law_place","_law_base","_law_shift","_law_kept_here","_law_alike","_law_names_here","_law_k","_law_word","_law_turn"] ["_law_draw","_law_many"] (aj kL):=⟨rfl,rfl,rfl,by decide +kernel,rfl,by decide +kernel,by decide +kernel⟩
abbrev eH:Expr:=VC ((av kL).getD 5 (.Pass ⟨0,0,0,0⟩))
theorem kH1:Ak eH=some ki:=rfl
theorem Io {f C:Addr} {fd:FuncData} (F:cX K "_law_names" "_law_names" kL f fd) (T:Txt K mg C) (gw:Dn P w K mg base 2 "_law_next" ["_law_draw","_law_size"] jB) (QT:Dn P w K mg base 1 "_law_kept" [] yi):bu P w K mg base dX 3 f fd ["_law_draw","_law_many"] ye:=by
 obtain ⟨vB,pZ,cK,bQ,bR,cJ⟩:=gw
 obtain ⟨a5R,W6,Rf,L3,Mg,Q2⟩:=QT
 refine F.ok bD (fun vs H Q E h=>?_) (fun cdv A outer s H vs Q E hr h=>?_)
 ·obtain ⟨d,m,rfl,hd,hm,k⟩:=h
  rfl
 ·obtain ⟨d,m,rfl,hd,hm,k⟩:=h
  have hu:=br hr
  have hh:=kH1
  rw [show av kL=[_,_,_,_,_,.Assign [.Name "_law_kept_here" _] eH _,_,_,_,_] from rfl]
  generalize eH=qh at hh ⊢
  refine ⟨_,(ao (aO (i:=2) bD.nd rfl (Or.inr rfl) aU)
   (ao (aO (i:=3) bD.nd rfl (Or.inl rfl) (bg dQ ak (aB cK (hr.mono (by first | decide | omega)) rfl bQ bR cJ .nil aD (aa (pv 0) (aa ak ai)))))
   (ao (aO (i:=4) bD.nd rfl (Or.inl rfl) (aB cK (hr.mono (by first | decide | omega)) rfl bQ bR cJ .nil aD (aa (pv 0) (aa (pv 3) ai))))
   (ao (mw (i:=5) bD.nd rfl (Or.inl rfl) (bq ["_law_k"] ["_law_some","_law_draw"] [2,0] rfl (by decide +kernel) (by decide +kernel) (by with_unfolding_all rfl) (by exact ⟨rfl,rfl,trivial⟩) (by rfl) rfl (by rfl)) rfl (eO rfl T.range (aa (pv 3) ai)) (fun _ _ _ _=>(aK (i:=0) (show List.Nodup (["_law_k","_law_some","_law_draw"]:List Str) by decide +kernel) rfl (Or.inl rfl) (Or.inr rfl))) (fun _ _ _ _=>cA) (fun _ _ _ _=>(aM yR (pv 1) (aB cK (hr.mono (by first | decide | omega)) rfl bQ bR cJ .nil aD (aa (pv 2) (aa ak ai))) (fun _ _=>rfl))))
   (ao (aO (i:=6) bD.nd rfl (Or.inl rfl) (aB cK (hr.mono (by first | decide | omega)) rfl bQ bR cJ .nil aD (aa (pv 0) (aa ak ai))))
   (ao (aO (i:=7) bD.nd rfl (Or.inl rfl) (yu hh) (Dd hh))
   (ao (aO (i:=8) bD.nd rfl (Or.inl rfl) (bK bV (aB cK (hr.mono (by first | decide | omega)) rfl bQ bR cJ .nil aD (aa (pv 0) (aa ak ai))) ak (aL _)))
   (ao (aO (i:=9) bD.nd rfl (Or.inl rfl) (bB ai))
   (ao (dP PassesOwn.never rfl (eO rfl T.range (aa (pv 1) ai)) (aK (i:=10) bD.nd rfl (Or.inl rfl)) (ao (BD (aM yR (pv 2) (bg iA (bg dQ (pv 6) (bg fP ak (pv 10))) ak) (fun _ _=>rfl)) (Pb (pv 5) (pv 4) set_list))
   (ao (aO (i:=11) bD.nd rfl (Or.inl rfl) (iS PySem.F.plainAttrs_str PySem.F.slot_str_join PySem.F.type_str_join LZ aU (aa (pv 5) ai)))
   (ao (bS (PW.pt (O5 (nR (pv 8)) (Lg (aP uH (pv 10) ak (aL _))))) (au (aO (i:=11) bD.nd rfl (Or.inl rfl) (aM bZ (pv 7) (bg iA (bg dQ (pv 10) (pv 6)) ak) (fun _ _=>rfl)))) bE)
   (ao (aO (i:=12) bD.nd rfl (Or.inl rfl) ak)
   (ao (Hl PassesOwn.never (PW.pt (uB (aP jk (pv 11) (pv 9) (by rfl)) (nQ (aP jk (pv 11) (HR Rf (hr.mono (by first | decide | omega)) rfl L3 Mg Q2 .nil aD) (by rfl))))) (ao (Hr (i:=12) bD.nd rfl (Or.inl rfl) ak BZ)
   (au (aO (i:=11) bD.nd rfl (Or.inl rfl) (bg jO (bg jO aU (aM yR (pv 2) (bg iA (pv 12) ak) (fun _ _=>rfl))) (aM yR (pv 2) (bg iA (bg dQ (pv 10) (pv 12)) ak) (fun _ _=>rfl)))))))
   (au (cT (iS PySem.F.plainAttrs_list PySem.F.slot_list_append PySem.F.type_list_append eS (pv 9) (aa (pv 11) ai))))))))))
   (au (aI (pv 9)))))))))))),?_⟩
  refine ⟨_,rfl,d,8,rfl,hd,(by decide),fun r1 H1 h1 b1 d1=>⟨_,_,rfl,rfl,?_⟩⟩
  refine ⟨_,rfl,_,rfl,d,_,rfl,d1,(by omega),fun r2 H2 h2 b2 d2=>?_⟩
  refine ⟨_,rfl,_,rfl,(by omega),(by omega),om (n:=(1+(r1:Int)).toNat) (fun i ys H'=>bI d H2 H'∧Dr H' d∧∃ ss:List Str,ys=ss.map V.str∧ss.length=i∧∀ x∈ss,x.length=1) ⟨fun _ _ e _=>e,d2,[],rfl,rfl,fun _ h=>nomatch h⟩ ?_ ?_⟩
  ·rintro i ys H' hi ⟨b,dr,ss,rfl,hl,hs⟩
   refine ⟨Ext.one,jw ⟨_,rfl,_,rfl,d,26,rfl,dr,(by decide),fun r3 H3 h3 b3 d3=>⟨wm,_,_,rfl,rfl,dU,Kr (by omega),?_,b.trans b3,d3,ss++[CG (97+r3)],?_,?_,?_⟩⟩⟩
   ·rw [List.length_map,hl]
    exact line _ (by omega)
   ·rw [List.map_append]
    rfl
   ·rw [List.length_append,hl]
    rfl
   ·intro x hx
    rcases List.mem_append.mp hx with h | h
    ·exact hs x h
    ·rw [List.mem_singleton.mp h]
     rfl
  rintro ys H3 ⟨b3,d3,ss,rfl,hl,hs⟩ B hB
  have d4:Dr (upd H3 B (.lst (ss.map V.str))) d:=d3.same (new hB)
  refine ⟨_,rfl,d,26,rfl,d4,(by decide),fun r4 H5 h4 b5 d5=>?_⟩
  refine ⟨(by rw [List.length_map];exact Nat.le_of_lt (line _ (by decide))),fun kl WX=>?_⟩
  have d6:Dr (upd H5 kl (.lst (ki.map V.str))) d:=d5.same (new WX)
  refine ⟨_,rfl,d,3,rfl,d6,(by decide),fun r5 H7 h5 b7 d7=>⟨rfl,?_⟩⟩
  generalize decide (V.int (r5:Int)=V.int 1)=al
  refine ⟨(Nat.zero_le _),fun nl hnl=>?_⟩
  have nBd:B≠d:=d3.ne hB
  have LV:kl≠d:=d5.ne WX
  have V0:nl≠d:=d7.ne hnl
  have f3:bI d H H3:=(b1.trans b2).trans b3
  have f7:bI d H H7:=((f3.new hB).trans b5 |>.new WX).trans b7
  have f8:bI d H (upd H7 nl (.lst [])):=f7.new hnl
  have hB5:H5 B=some (.lst (ss.map V.str)):=b5 _ _ ah nBd
  have nBk:B≠kl:=aq hB5 WX
  have hB7:H7 B=some (.lst (ss.map V.str)):=b7 _ _ (by rw [aA nBk];exact hB5) nBd
  have TF:H7 kl=some (.lst (ki.map V.str)):=b7 _ _ ah LV
  have Tc:B≠nl:=aq hB7 hnl
  have V1:kl≠nl:=aq TF hnl
  have sz:(1+(r1:Int)).toNat≤8:=by omega
  have pl:r2 < (1+(r1:Int)).toNat:=by omega
  clear hd d1 b1 d2 b2 b3 d3 d4 d6 b5 d5 b7 hB5
  refine ⟨_,rfl,_,rfl,(by omega),(by omega),g9 (n:=(m:Int).toNat) (fun i σ H'=>∃ (xs bs:List Str) (kk w t:Option V),σ=[some (.ref d),some (.int m),some (.str wm),some (.int (1+r1)),some (.int r2),some (.ref B),some (.int r4),some (.ref kl),some (.bl al),some (.ref nl),kk,w,t]∧VQ B nl (upd H7 nl (.lst [])) H'∧H' B=some (.lst (bs.map V.str))∧bs.length=(1+(r1:Int)).toNat∧(∀ x∈bs,x.length=1)∧H' nl=some (.lst (xs.map V.str))∧xs.length=i∧∀ x∈xs,x.length≤8)
   ⟨[],ss,none,none,none,rfl,fun _ _ e _ _=>e,(by rw [aA Tc];exact hB7),hl,hs,ah,rfl,fun _ h=>nomatch h⟩ ?_ ?_⟩
  ·rintro i σ H' hi ⟨xs,bs,kk,w,t,rfl,bt,eB,lB,sB,eN,lN,sN⟩
   have im:i < 12:=by omega
   refine ⟨_,rfl,_,rfl,_,rfl,_,_,rfl,rfl,.inl ⟨by decide,by decide⟩,_,_,rfl,rfl,_,_,rfl,rfl,(by show (0:Int) < 26;decide),wm,_,_,rfl,rfl,dU,eV _,_,rfl,_,rfl,B,_,_,r2,rfl,rfl,eB,Mm (by rw [List.length_map,lB];exact pl),?_⟩
   generalize (97+(((r4:Int)+5*(0+(i:Int))) % 26).toNat)=c
   have RO:upd H' B (.lst ((bs.map V.str).set r2 (V.str ⟨#[c]⟩))) B=some (.lst ((bs.set r2 (CG c)).map V.str)):=by rw [ah,List.map_set]
   have QI:upd H' B (.lst ((bs.map V.str).set r2 (V.str ⟨#[c]⟩))) nl=some (.lst (xs.map V.str)):=by rw [aA Tc.symm];exact eN
   have Rz:(bs.set r2 (CG c)).length=(1+(r1:Int)).toNat:=by rw [List.length_set];exact lB
   have sB':∀ x∈bs.set r2 (CG c),x.length=1:=fun x hx=>by
    rcases List.mem_or_eq_of_mem_set hx with h | h
    ·exact sB x h
    ·rw [h]
     rfl
   have Vy:VQ B nl (upd H7 nl (.lst [])) (upd H' B (.lst ((bs.map V.str).set r2 (V.str ⟨#[c]⟩)))):=fun b o e n1 n2=>by
    rw [aA n1]
    exact bt b o e n1 n2
   have hk':upd H' B (.lst ((bs.map V.str).set r2 (V.str ⟨#[c]⟩))) kl=some (.lst (ki.map V.str)):=Vy _ _ (by rw [aA V1];exact TF) nBk.symm V1
   generalize bs.set r2 (CG c)=cs at RO Rz sB'
   refine ⟨rfl,_,rfl,_,B,cs,rfl,rfl,RO,?_,?_⟩
   ·rw [zJ cs sB',Rz]
    show _+_*0≤_
    omega
   generalize upd H' B (.lst ((bs.map V.str).set r2 (V.str ⟨#[c]⟩)))=Hb at RO QI Vy hk'
   have hw0:(Txt.join (Str.ofString "") cs).length≤8:=by rw [JA cs sB',Rz];exact sz
   generalize Txt.join (Str.ofString "") cs=w0 at hw0
   obtain ⟨kx,jb,kat⟩:=EI (0+(i:Int)+r4)
   refine ⟨_,rfl,_,rfl,?_⟩
   cases al
   ·refine wG (wG ?_)
    refine tN (fun σ H2=>∃ (t:Nat) (wd:Str),σ=[some (.ref d),some (.int m),some (.str wm),some (.int (1+r1)),some (.int r2),some (.ref B),some (.int r4),some (.ref kl),some (.bl false),some (.ref nl), some (.int (0+(i:Int))),some (.str wd),some (.int (t:Int))]∧wd.length≤8∧(1≤t→wd=zt (0+(i:Int)) t)∧(∀ s,s+1 < t→zt (0+(i:Int)) (s+1)∈xs)∧t≤14∧az Hb H2) Pz ⟨0,_,rfl,(by first | exact hw0 | exact lG _ jb),fun h=>absurd h (by decide),fun s h=>absurd h (by omega),by decide,az.refl _⟩ ?_ (yG (mD (fQ _) (fQ _)) (mD (fQ _) qP))
    rintro σ H2 ⟨t,wd,rfl,hw,e1,e2,e3,sm⟩
    have turn:∀ H3,az H2 H3→(wd∈xs∨wd∈eW)→t+1≤14∧∀ s,s+1 < t+1→zt (0+(i:Int)) (s+1)∈xs:=fun H3 s3 hc=>by
     have q:∀ s,s < t→zt (0+(i:Int)) (s+1)∈xs:=fun s hs=>by
      by_cases hs':s+1 < t
      ·exact e2 s hs'
      ·have e:t=s+1:=by omega
       have e':=e1 (by omega)
       rw [e] at e'
       rw [← e']
       rcases hc with h | h
       ·exact h
       ·exact absurd (e' ▸ h) (nc _ _)
     have:=Bc (by omega) q
     exact ⟨by omega,fun s hs=>q s (by omega)⟩
    have i1:(if false=true then !m8 (.str wd) (xs.map V.str) else m8 (.str wd) (xs.map V.str))=decide (wd∈xs):=dR wd xs
    have i2:(if false=true then !m8 (.str wd) (eW.map V.str) else m8 (.str wd) (eW.map V.str))=decide (wd∈eW):=dR wd eW
    refine ⟨_,rfl,_,rfl,nl,_,rfl,.inl (bx.of (sm _ _ QI)),rfl,dO _,decide (wd∈xs),congrArg V.bl i1,?_⟩
    refine Av (fun hc=>?_) (fun hc=>?_)
    ·obtain ⟨t1,t2⟩:=turn H2 (az.refl _) (.inl (of_decide_eq_true hc))
     refine vm ?_
     refine ⟨_,rfl,_,_,rfl,rfl,?_⟩
     refine ⟨_,rfl,_,rfl,_,_,rfl,rfl,(by show (0:Int) < 26;decide),wm,_,_,rfl,rfl,dU,eV _,_,_,rfl,rfl,(by show 1+1≤sizeLine;exact Nat.le_of_lt (line 2 (by decide))),?_⟩
     refine ⟨_,rfl,_,rfl,_,rfl,_,_,rfl,rfl,_,_,rfl,rfl,(by show (0:Int) < 26;decide),wm,_,_,rfl,rfl,dU,eV _,_,_,rfl,rfl,(by rw [iZ];show 1+1+1≤sizeLine;exact Nat.le_of_lt (line 3 (by decide))),?_⟩
     refine ⟨⟨t+1,zt (0+(i:Int)) (t+1),rfl,(by unfold zt;rw [qv];decide),fun _=>rfl,t2,t1,sm.trans (az.refl _)⟩,?_⟩
     show 20 - (((t:Int)+1).toNat) < 20 - ((t:Int)).toNat
     omega
    refine ⟨_,rfl,rfl,fun l H3 s3 n3 Uy=>⟨l,_,rfl,.inl (bx.of Uy),rfl,dO _,decide (wd∈eW),congrArg V.bl i2,?_⟩⟩
    refine Av (fun hc2=>?_) (fun hc2=>?_)
    ·obtain ⟨t1,t2⟩:=turn H3 s3 (.inr (of_decide_eq_true hc2))
     refine ⟨_,rfl,_,_,rfl,rfl,?_⟩
     refine ⟨_,rfl,_,rfl,_,_,rfl,rfl,(by show (0:Int) < 26;decide),wm,_,_,rfl,rfl,dU,eV _,_,_,rfl,rfl,(by show 1+1≤sizeLine;exact Nat.le_of_lt (line 2 (by decide))),?_⟩
     refine ⟨_,rfl,_,rfl,_,rfl,_,_,rfl,rfl,_,_,rfl,rfl,(by show (0:Int) < 26;decide),wm,_,_,rfl,rfl,dU,eV _,_,_,rfl,rfl,(by rw [iZ];show 1+1+1≤sizeLine;exact Nat.le_of_lt (line 3 (by decide))),?_⟩
     refine ⟨⟨t+1,zt (0+(i:Int)) (t+1),rfl,(by unfold zt;rw [qv];decide),fun _=>rfl,t2,t1,sm.trans (s3)⟩,?_⟩
     show 20 - (((t:Int)+1).toNat) < 20 - ((t:Int)).toNat
     omega
    have Of:H3 nl=some (.lst (xs.map V.str)):=s3 _ _ (sm _ _ QI)
    refine ⟨_,rfl,.inl ⟨rfl,_,bx.of Of⟩,_,rfl,nl,_,_,rfl,rfl,Of,(by rw [List.length_map,lN];exact line _ (by omega)),?_⟩
    refine ⟨xs++[wd],cs,_,_,_,rfl,fun b o e n1 n2=>by rw [aA n2];exact s3 _ _ (sm _ _ (Vy b o e n1 n2)),(by rw [aA Tc];exact s3 _ _ (sm _ _ RO)),Rz,sB',(by rw [ah,List.map_append];rfl),(by rw [List.length_append,lN];rfl),fun x hx=>?_⟩
    rcases List.mem_append.mp hx with h | h
    ·exact sN x h
    ·rw [List.mem_singleton.mp h]
     exact hw
   ·refine vm ⟨_,rfl,_,_,rfl,rfl,_,rfl,Av (fun hk=>?_) fun hk=>?_⟩
    ·refine ⟨_,rfl,_,rfl,_,rfl,_,_,rfl,rfl,_,_,rfl,rfl,(by show (0:Int) < 12;decide),kl,_,_,_,rfl,rfl,bx.of hk',kat,?_⟩
     refine tN (fun σ H2=>∃ (t:Nat) (wd:Str),σ=[some (.ref d),some (.int m),some (.str wm),some (.int (1+r1)),some (.int r2),some (.ref B),some (.int r4),some (.ref kl),some (.bl true),some (.ref nl), some (.int (0+(i:Int))),some (.str wd),some (.int (t:Int))]∧wd.length≤8∧(1≤t→wd=zt (0+(i:Int)) t)∧(∀ s,s+1 < t→zt (0+(i:Int)) (s+1)∈xs)∧t≤14∧az Hb H2) Pz ⟨0,_,rfl,(by first | exact hw0 | exact lG _ jb),fun h=>absurd h (by decide),fun s h=>absurd h (by omega),by decide,az.refl _⟩ ?_ (yG (mD (fQ _) (fQ _)) (mD (fQ _) qP))
     rintro σ H2 ⟨t,wd,rfl,hw,e1,e2,e3,sm⟩
     have turn:∀ H3,az H2 H3→(wd∈xs∨wd∈eW)→t+1≤14∧∀ s,s+1 < t+1→zt (0+(i:Int)) (s+1)∈xs:=fun H3 s3 hc=>by
      have q:∀ s,s < t→zt (0+(i:Int)) (s+1)∈xs:=fun s hs=>by
       by_cases hs':s+1 < t
       ·exact e2 s hs'
       ·have e:t=s+1:=by omega
        have e':=e1 (by omega)
        rw [e] at e'
        rw [← e']
        rcases hc with h | h
        ·exact h
        ·exact absurd (e' ▸ h) (nc _ _)
      have:=Bc (by omega) q
      exact ⟨by omega,fun s hs=>q s (by omega)⟩
     have i1:(if false=true then !m8 (.str wd) (xs.map V.str) else m8 (.str wd) (xs.map V.str))=decide (wd∈xs):=dR wd xs
     have i2:(if false=true then !m8 (.str wd) (eW.map V.str) else m8 (.str wd) (eW.map V.str))=decide (wd∈eW):=dR wd eW
     refine ⟨_,rfl,_,rfl,nl,_,rfl,.inl (bx.of (sm _ _ QI)),rfl,dO _,decide (wd∈xs),congrArg V.bl i1,?_⟩
     refine Av (fun hc=>?_) (fun hc=>?_)
     ·obtain ⟨t1,t2⟩:=turn H2 (az.refl _) (.inl (of_decide_eq_true hc))
      refine vm ?_
      refine ⟨_,rfl,_,_,rfl,rfl,?_⟩
      refine ⟨_,rfl,_,rfl,_,_,rfl,rfl,(by show (0:Int) < 26;decide),wm,_,_,rfl,rfl,dU,eV _,_,_,rfl,rfl,(by show 1+1≤sizeLine;exact Nat.le_of_lt (line 2 (by decide))),?_⟩
      refine ⟨_,rfl,_,rfl,_,rfl,_,_,rfl,rfl,_,_,rfl,rfl,(by show (0:Int) < 26;decide),wm,_,_,rfl,rfl,dU,eV _,_,_,rfl,rfl,(by rw [iZ];show 1+1+1≤sizeLine;exact Nat.le_of_lt (line 3 (by decide))),?_⟩
      refine ⟨⟨t+1,zt (0+(i:Int)) (t+1),rfl,(by unfold zt;rw [qv];decide),fun _=>rfl,t2,t1,sm.trans (az.refl _)⟩,?_⟩
      show 20 - (((t:Int)+1).toNat) < 20 - ((t:Int)).toNat
      omega
     refine ⟨_,rfl,rfl,fun l H3 s3 n3 Uy=>⟨l,_,rfl,.inl (bx.of Uy),rfl,dO _,decide (wd∈eW),congrArg V.bl i2,?_⟩⟩
     refine Av (fun hc2=>?_) (fun hc2=>?_)
     ·obtain ⟨t1,t2⟩:=turn H3 s3 (.inr (of_decide_eq_true hc2))
      refine ⟨_,rfl,_,_,rfl,rfl,?_⟩
      refine ⟨_,rfl,_,rfl,_,_,rfl,rfl,(by show (0:Int) < 26;decide),wm,_,_,rfl,rfl,dU,eV _,_,_,rfl,rfl,(by show 1+1≤sizeLine;exact Nat.le_of_lt (line 2 (by decide))),?_⟩
      refine ⟨_,rfl,_,rfl,_,rfl,_,_,rfl,rfl,_,_,rfl,rfl,(by show (0:Int) < 26;decide),wm,_,_,rfl,rfl,dU,eV _,_,_,rfl,rfl,(by rw [iZ];show 1+1+1≤sizeLine;exact Nat.le_of_lt (line 3 (by decide))),?_⟩
      refine ⟨⟨t+1,zt (0+(i:Int)) (t+1),rfl,(by unfold zt;rw [qv];decide),fun _=>rfl,t2,t1,sm.trans (s3)⟩,?_⟩
      show 20 - (((t:Int)+1).toNat) < 20 - ((t:Int)).toNat
      omega
     have Of:H3 nl=some (.lst (xs.map V.str)):=s3 _ _ (sm _ _ QI)
     refine ⟨_,rfl,.inl ⟨rfl,_,bx.of Of⟩,_,rfl,nl,_,_,rfl,rfl,Of,(by rw [List.length_map,lN];exact line _ (by omega)),?_⟩
     refine ⟨xs++[wd],cs,_,_,_,rfl,fun b o e n1 n2=>by rw [aA n2];exact s3 _ _ (sm _ _ (Vy b o e n1 n2)),(by rw [aA Tc];exact s3 _ _ (sm _ _ RO)),Rz,sB',(by rw [ah,List.map_append];rfl),(by rw [List.length_append,lN];rfl),fun x hx=>?_⟩
     rcases List.mem_append.mp hx with h | h
     ·exact sN x h
     ·rw [List.mem_singleton.mp h]
      exact hw
    ·refine tN (fun σ H2=>∃ (t:Nat) (wd:Str),σ=[some (.ref d),some (.int m),some (.str wm),some (.int (1+r1)),some (.int r2),some (.ref B),some (.int r4),some (.ref kl),some (.bl true),some (.ref nl), some (.int (0+(i:Int))),some (.str wd),some (.int (t:Int))]∧wd.length≤8∧(1≤t→wd=zt (0+(i:Int)) t)∧(∀ s,s+1 < t→zt (0+(i:Int)) (s+1)∈xs)∧t≤14∧az Hb H2) Pz ⟨0,_,rfl,(by first | exact hw0 | exact lG _ jb),fun h=>absurd h (by decide),fun s h=>absurd h (by omega),by decide,az.refl _⟩ ?_ (yG (mD (fQ _) (fQ _)) (mD (fQ _) qP))
     rintro σ H2 ⟨t,wd,rfl,hw,e1,e2,e3,sm⟩
     have turn:∀ H3,az H2 H3→(wd∈xs∨wd∈eW)→t+1≤14∧∀ s,s+1 < t+1→zt (0+(i:Int)) (s+1)∈xs:=fun H3 s3 hc=>by
      have q:∀ s,s < t→zt (0+(i:Int)) (s+1)∈xs:=fun s hs=>by
       by_cases hs':s+1 < t
       ·exact e2 s hs'
       ·have e:t=s+1:=by omega
        have e':=e1 (by omega)
        rw [e] at e'
        rw [← e']
        rcases hc with h | h
        ·exact h
        ·exact absurd (e' ▸ h) (nc _ _)
      have:=Bc (by omega) q
      exact ⟨by omega,fun s hs=>q s (by omega)⟩
     have i1:(if false=true then !m8 (.str wd) (xs.map V.str) else m8 (.str wd) (xs.map V.str))=decide (wd∈xs):=dR wd xs
     have i2:(if false=true then !m8 (.str wd) (eW.map V.str) else m8 (.str wd) (eW.map V.str))=decide (wd∈eW):=dR wd eW
     refine ⟨_,rfl,_,rfl,nl,_,rfl,.inl (bx.of (sm _ _ QI)),rfl,dO _,decide (wd∈xs),congrArg V.bl i1,?_⟩
     refine Av (fun hc=>?_) (fun hc=>?_)
     ·obtain ⟨t1,t2⟩:=turn H2 (az.refl _) (.inl (of_decide_eq_true hc))
      refine vm ?_
      refine ⟨_,rfl,_,_,rfl,rfl,?_⟩
      refine ⟨_,rfl,_,rfl,_,_,rfl,rfl,(by show (0:Int) < 26;decide),wm,_,_,rfl,rfl,dU,eV _,_,_,rfl,rfl,(by show 1+1≤sizeLine;exact Nat.le_of_lt (line 2 (by decide))),?_⟩
      refine ⟨_,rfl,_,rfl,_,rfl,_,_,rfl,rfl,_,_,rfl,rfl,(by show (0:Int) < 26;decide),wm,_,_,rfl,rfl,dU,eV _,_,_,rfl,rfl,(by rw [iZ];show 1+1+1≤sizeLine;exact Nat.le_of_lt (line 3 (by decide))),?_⟩
      refine ⟨⟨t+1,zt (0+(i:Int)) (t+1),rfl,(by unfold zt;rw [qv];decide),fun _=>rfl,t2,t1,sm.trans (az.refl _)⟩,?_⟩
      show 20 - (((t:Int)+1).toNat) < 20 - ((t:Int)).toNat
      omega
     refine ⟨_,rfl,rfl,fun l H3 s3 n3 Uy=>⟨l,_,rfl,.inl (bx.of Uy),rfl,dO _,decide (wd∈eW),congrArg V.bl i2,?_⟩⟩
     refine Av (fun hc2=>?_) (fun hc2=>?_)
     ·obtain ⟨t1,t2⟩:=turn H3 s3 (.inr (of_decide_eq_true hc2))
      refine ⟨_,rfl,_,_,rfl,rfl,?_⟩
      refine ⟨_,rfl,_,rfl,_,_,rfl,rfl,(by show (0:Int) < 26;decide),wm,_,_,rfl,rfl,dU,eV _,_,_,rfl,rfl,(by show 1+1≤sizeLine;exact Nat.le_of_lt (line 2 (by decide))),?_⟩
      refine ⟨_,rfl,_,rfl,_,rfl,_,_,rfl,rfl,_,_,rfl,rfl,(by show (0:Int) < 26;decide),wm,_,_,rfl,rfl,dU,eV _,_,_,rfl,rfl,(by rw [iZ];show 1+1+1≤sizeLine;exact Nat.le_of_lt (line 3 (by decide))),?_⟩
      refine ⟨⟨t+1,zt (0+(i:Int)) (t+1),rfl,(by unfold zt;rw [qv];decide),fun _=>rfl,t2,t1,sm.trans (s3)⟩,?_⟩
      show 20 - (((t:Int)+1).toNat) < 20 - ((t:Int)).toNat
      omega
     have Of:H3 nl=some (.lst (xs.map V.str)):=s3 _ _ (sm _ _ QI)
     refine ⟨_,rfl,.inl ⟨rfl,_,bx.of Of⟩,_,rfl,nl,_,_,rfl,rfl,Of,(by rw [List.length_map,lN];exact line _ (by omega)),?_⟩
     refine ⟨xs++[wd],cs,_,_,_,rfl,fun b o e n1 n2=>by rw [aA n2];exact s3 _ _ (sm _ _ (Vy b o e n1 n2)),(by rw [aA Tc];exact s3 _ _ (sm _ _ RO)),Rz,sB',(by rw [ah,List.map_append];rfl),(by rw [List.length_append,lN];rfl),fun x hx=>?_⟩
     rcases List.mem_append.mp hx with h | h
     ·exact sN x h
     ·rw [List.mem_singleton.mp h]
      exact hw
  ·rintro σ H' ⟨xs,bs,kk,w,t,rfl,bt,eB,lB,sB,eN,lN,sN⟩
   obtain ⟨x7,y7,e7⟩:=d7
   refine ⟨_,rfl,k nl xs H' (fun b o e n=>bt b o (f8 b o e n) (aq (f3 b o e n) hB) (aq (f7 b o e n) hnl)) ⟨x7,y7,bt d _ (by rw [aA V0.symm];exact e7) nBd.symm V0.symm⟩ (f7.free hnl V0) eN (by rw [lN];rfl) sN⟩
abbrev iu:Stmt:=top 18
theorem zL:aG ["total"] ["total"] (aj iu):=⟨rfl,rfl,rfl,by decide +kernel,rfl,by decide +kernel,by decide +kernel⟩
theorem BJ {f:Addr} {fd:FuncData} {Z:Cz} {n:Nat} (F:cX K "less_one" "less_one" iu f fd) (T:Txt K mg Z.s) (U:gh K mg Z) (d_init:Mr P w K mg base 1 Z.s ["self","terms","number"] (kG Z.s)) (vI:Mt P w K mg base 5 Z.s "less" ["self","other"] (tY Z.s)):bu P w K mg base dX 6 f fd ["total"] (mh Z.s):=by
 obtain ⟨yX,tF,dm,M,di⟩:=d_init
 obtain ⟨Qt,MC,kc,yJ,jZ⟩:=vI
 refine F.ok zL (fun vs H Q E h=>?_) (fun cdv A outer s H vs Q E hr h=>?_)
 ·obtain ⟨p,a,m,rfl,S0,hl,k⟩:=h
  rfl
 ·obtain ⟨p,a,m,rfl,S0,hl,k⟩:=h
  have hu:=br hr
  rw [show av iu=[_] from rfl]
  refine ⟨_,(au (aI (gA (pv 0) T.cl yJ kc (hr.mono (by first | decide | omega)) jZ .nil aD (aa (cO M dm (hr.mono (by first | decide | omega)) rfl T.n8 di .nil aD (aa (bG ai) (aa ak ai))) ai)))),?_⟩
  obtain ⟨dx,t,hp,_⟩:=id S0
  refine ⟨_,rfl,p,dx,_,rfl,hp,dM _ _ (by decide +kernel) (by decide +kernel),?_⟩
  refine ⟨(Nat.zero_le _),fun q hq=>?_⟩
  refine fun x mG hx hdx ne=>?_
  have h1:=bN (o:=.own x) (o':=.ins Z.s mG []) hx hdx
  have sq:=new (o:=.tup []) hq
  refine ⟨x,mG,q,1,[],rfl,ah,.inr ⟨[],h1 _ _ ah,.nil⟩,(by show 0≤1000;decide),fun H1 but S1=>⟨rfl,?_⟩⟩
  have s1:az H H1:=fun b' o z=>but b' o (h1 _ _ (sq _ _ z)) (aq (sq _ _ z) hx)
  refine ⟨p,x,a,[],m,1,rfl,S0.same s1,S1,(by show a.length+0 < 64;omega),fun r ts H2 s2 g l Sr=>?_⟩
  refine k r ts H2 (s1.trans s2) ?_ Sr
  have e:a++([]:Ps).map (fun p=>(p.1,-p.2))=a:=List.append_nil a
  rw [e] at g
  exact g
abbrev nO:Stmt:=top 19
theorem gk:aG ["ones","others","found","one"] ["ones","others"] (aj nO):=⟨rfl,rfl,rfl,by decide +kernel,rfl,by decide +kernel,by decide +kernel⟩
theorem IB {f:Addr} {fd:FuncData} {Z:Cz} {n:Nat} {TM W fT fW:Addr} {dY dS:List Value} (F:cX K "cases_of_both" "cases_of_both" nO f fd) (T:Txt K mg Z.s) (U:gh K mg Z) (XT:dW K mg TM W fT fW dY dS) (vF:FI P w K mg base TM 4 "refuse_too_many" ["count"] (tV TM)):bu P w K mg base (zy P w TM) 5 f fd ["ones","others"] (oJ Z TM):=by
 obtain ⟨a5N,TZ,gb,fk,fq,fY⟩:=vF
 refine F.NT gk (fun vs H Q E h=>?_) (fun cdv A outer s H vs Q E hr h=>?_)
 ·obtain ⟨o,u,A0,B,rfl,hA,hB,lA,lB,wA,wB,k1,k2⟩:=h
  rfl
 ·obtain ⟨o,u,A0,B,rfl,hA,hB,lA,lB,wA,wB,k1,k2⟩:=h
  have hu:=br hr
  rw [show av nO=[_,_,_,_] from rfl]
  refine ⟨_,(ao (cT (aB gb (hr.mono (by first | decide | omega)) rfl fk fq fY .nil mW (aa (bg fP (bU bX (by rfl) T.len PySem.boot_len (aa (pv 0) ai)) (bU bX (by rfl) T.len PySem.boot_len (aa (pv 1) ai))) ai)))
   (ao (aO (i:=2) gk.nd rfl (Or.inl rfl) (bB ai))
   (ao (dP PassesOwn.leaving rfl (eZ (pv 0)) (aK (i:=3) gk.nd rfl (Or.inr rfl)) (au (cT (iS PySem.F.plainAttrs_list PySem.F.slot_list_extend PySem.F.type_list_extend w4 (pv 2) (aa (cB (bq ["other"] ["one"] [3] rfl (by decide +kernel) (by decide +kernel) (by with_unfolding_all rfl) (by exact ⟨rfl,trivial⟩) (by rfl) rfl (by rfl)) rfl (eZ (pv 1)) (fun _ _ _ _=>(aK (i:=0) (show List.Nodup (["other","one"]:List Str) by decide +kernel) rfl (Or.inl rfl) (Or.inr rfl))) (fun _ _ _ _=>cA) (fun _ _ _ _=>(bg (HX (K:=K) rfl) (pv 1) (pv 0)))) ai)))))
   (au (aI (pv 2)))))),?_⟩
  obtain ⟨uo,eo,po⟩:=id hA
  obtain ⟨uu,eu,pu⟩:=id hB
  have lo:=ay po
  have lu:=ay pu
  refine ⟨_,rfl,o,_,rfl,.inl (bx.of eo),_,rfl,u,_,rfl,.inl (bx.of eu),_,_,rfl,rfl,.inl ⟨by omega,by omega⟩,A0.length*B.length,?_,fun hle=>?_,k2⟩
  ·show [V.int ((uo.length:Int)*(uu.length:Int))]=_
   rw [lo,lu,Int.natCast_mul]
  have k:=k1 hle
  refine ⟨(Nat.zero_le _),fun F hF=>?_⟩
  have s1:=new (o:=.lst []) hF
  refine ⟨_,rfl,o,rfl,⟨uo,bx.of (s1 _ _ eo)⟩,fS (xs:=uo) (fun i σ H'=>∃ (a3:Option V) (ys:List V),σ=[some (.ref o),some (.ref u),some (.ref F),a3]∧bI F (upd H F (.lst [])) H'∧H' F=some (.lst ys)∧Paired (jf Z H') ys (bC (A0.take i) B)) ⟨none,[],rfl,fun _ _ e _=>e,ah,.nil⟩ ?_ ?_ ?_⟩
  ·rintro i σ H' _ ⟨a3,ys,rfl,but,eF,pr⟩
   exact bx.of (but _ _ (s1 _ _ eo) (aq eo hF))
  ·rintro i x σ H' hi ⟨a3,ys,rfl,but,eF,pr⟩
   have sH:az H H':=fun b' o' e=>but b' o' (s1 _ _ e) (aq e hF)
   obtain ⟨a,hai,hx⟩:=aW po hi
   obtain ⟨ra,va,rfl,era,pa⟩:=hx.aH (aE.of sH)
   have lva:va.length≤1000:=by rw [ay pa];exact wA _ (List.mem_of_getElem? hai)
   have w5:ys.length≤64*64:=by
    rw [ay pr,iG]
    exact Nat.mul_le_mul (by rw [List.length_take];omega) lB
   refine ⟨_,rfl,.inl ⟨rfl,_,bx.of eF⟩,_,rfl,u,rfl,⟨uu,bx.of (sH _ _ eu)⟩,gy (xs:=uu) (fun j zs H2=>az H' H2∧Paired (jf Z H2) zs ((B.take j).map (a++·))) ⟨fun _ _ z=>z,.nil⟩ (fun j zs H2 _ q=>bx.of (q.1 _ _ (sH _ _ eu))) ?_ ?_⟩
   ·rintro j y zs H2 hj ⟨sm,pz⟩
    obtain ⟨b,hbj,hy⟩:=aW pu hj
    obtain ⟨rb,vb,rfl,erb,pb⟩:=hy.aH (aE.of (sH.trans sm))
    have pa2:=L2.Paired.dh pa fun _ _ ⟨q,e,s⟩=>(⟨q,e,s.same sm⟩:∃ p,_=V.ref p∧bO Z.s H2 p _ _)
    have Ur:=sm _ _ era
    have lvb:vb.length≤1000:=by rw [ay pb];exact wB _ (List.mem_of_getElem? hbj)
    have lzs:zs.length≤64:=by
     rw [ay pz,List.length_map,List.length_take]
     omega
    have step:∀ (v:V) (H3:Hp),az H2 H3→jf Z H3 v (a++b)→(zs.length < sizeLine∧az H' H3∧Paired (jf Z H3) (zs++[v]) ((B.take (j+1)).map (a++·))):=fun v H3 s3 hc=>by
     refine ⟨line _ (by omega),sm.trans s3,?_⟩
     rw [take_snoc hbj,List.map_append]
     exact aS (L2.Paired.dh pz fun _ _ z=>z.aH (aE.of s3)) hc
    refine ⟨Ext.one,jw ⟨_,rfl,_,rfl,ra,rb,_,_,rfl,rfl,aV.of Ur,aV.of erb,Nat.le_of_lt (line _ (by omega)),?_,?_,?_⟩⟩
    ·intro z
     subst z
     have ea:a=[]:=by cases pa2;rfl
     subst ea
     exact step _ _ (fun _ _ z=>z) ⟨rb,vb,rfl,erb,pb⟩
    ·intro _ z
     subst z
     have eb:b=[]:=by cases pb;rfl
     subst eb
     exact step _ _ (fun _ _ z=>z) ⟨ra,va,rfl,Ur,by rw [List.append_nil];exact pa2⟩
    ·intro _ _ q hq
     refine step _ _ (new hq) ⟨q,va++vb,rfl,ah,?_⟩
     exact iz (L2.Paired.dh pa2 fun _ _ ⟨q',e,s⟩=>⟨q',e,s.same (new hq)⟩) (L2.Paired.dh pb fun _ _ ⟨q',e,s⟩=>⟨q',e,s.same (new hq)⟩)
   ·rintro zs H2 ⟨sm,pz⟩ q hq
    have lzs:zs.length≤64:=by
     rw [ay pz,List.length_map,List.length_take]
     omega
    have X5:=new (o:=.lst zs) hq _ _ (sm _ _ eF)
    rw [lu,List.take_length] at pz
    refine ⟨F,q,ys,zs,rfl,rfl,X5,ah,Nat.le_of_lt (line _ (by omega)),?_⟩
    have b2:bI F H' (upd (upd H2 q (.lst zs)) F (.lst (ys++zs))):=((bI.of (sm.trans (new hq))).trans bI.upd)
    have hd2:aE H' (upd (upd H2 q (.lst zs)) F (.lst (ys++zs))):=aE.soft b2 eF fK
    have b3:bI F H2 (upd (upd H2 q (.lst zs)) F (.lst (ys++zs))):=(bI.of (new hq)).trans bI.upd
    have Mw:aE H2 (upd (upd H2 q (.lst zs)) F (.lst (ys++zs))):=aE.soft b3 (sm _ _ eF) fK
    refine ⟨some (.ref ra),ys++zs,rfl,but.trans b2,ah,?_⟩
    rw [take_snoc hai,E9]
    exact iz (L2.Paired.dh pr fun _ _ z=>z.aH hd2) (L2.Paired.dh pz fun _ _ z=>z.aH Mw)
  ·rintro σ H' ⟨a3,ys,rfl,but,eF,pr⟩
   have sH:az H H':=fun b' o' e=>but b' o' (s1 _ _ e) (aq e hF)
   rw [lo,List.take_length] at pr
   exact ⟨_,rfl,k F H' sH hF ⟨ys,eF,pr⟩⟩
abbrev um:Stmt:=top 20
theorem nk:aG ["count"] ["count"] (aj um):=⟨rfl,rfl,rfl,by decide +kernel,rfl,by decide +kernel,by decide +kernel⟩
theorem Lz {f:Addr} {fd:FuncData} {Z:Cz} {n:Nat} {TM W fT fW:Addr} {dY dS:List Value} (F:cX K "refuse_too_many" "refuse_too_many" um f fd) (T:Txt K mg Z.s) (U:gh K mg Z) (XT:dW K mg TM W fT fW dY dS) (QN:∃ t,mg "MOST_CASES"=some (.int 64 t)) (J6:∃ fd,bu P w K mg base dX 2 fT fd ["self","words"] (lZ TM)∧Binds K fd ["self","words"] []):bu P w K mg base (zy P w TM) 4 f fd ["count"] (tV TM):=by
 obtain ⟨tM,mgM⟩:=QN
 obtain ⟨b4Z,Ky,Kl⟩:=J6
 refine F.NT nk (fun vs H Q E h=>?_) (fun cdv A outer s H vs Q E hr h=>?_)
 ·obtain ⟨k0,rfl,k1,k2⟩:=h
  rfl
 ·obtain ⟨k0,rfl,k1,k2⟩:=h
  have hu:=br hr
  rw [show av um=[_] from rfl]
  refine ⟨_,(au (bS (aP Ac (pv 0) (yv (v:=.int 64) rfl mgM ⟨_,rfl⟩) (aL _)) (au (Hq XT.ct Ky (hr.mono (by decide)) rfl XT.mgT Kl O0 (aa (Lq (HA (O9 (yv (v:=.int 64) rfl mgM ⟨_,rfl⟩) (HA Pa)))) ai))) bE)),?_⟩
  refine ⟨_,rfl,_,_,rfl,rfl,_,rfl,?_⟩
  by_cases hk:k0≤64
  ·exact aZ (by omega) (k1 hk)
  ·refine bL (by omega) ?_
   have L:∀ z:Str,z.length≤100000→z.length≤sizeLine:=fun z h=>Nat.le_of_lt (line _ h)
   refine ⟨L _ (by decide +kernel),.inl ⟨64,rfl,by decide +kernel,L _ (by decide +kernel),L _ (by decide +kernel),L _ (by decide +kernel),?_⟩⟩
   refine ⟨(szl 1),fun a ha=>⟨a,_,rfl,ah,rfl,ah,?_⟩⟩
   rw [MM ha]
   exact k2 (by omega) _ fun _ _ z=>z
abbrev uq:Stmt:=top 37
theorem jD:aG ["_law_draw","_law_things","_law_found","_law_k","_law_number"] ["_law_draw","_law_things"] (aj uq):=⟨rfl,rfl,rfl,by decide +kernel,rfl,by decide +kernel,by decide +kernel⟩
theorem LA {f:Addr} {fd:FuncData} {Z:Cz} {n:Nat} {TM W fT fW:Addr} {dY dS:List Value} (F:cX K "_law_sum" "_law_sum" uq f fd) (T:Txt K mg Z.s) (U:gh K mg Z) (XT:dW K mg TM W fT fW dY dS) (gw:Dn P w K mg base 2 "_law_next" ["_law_draw","_law_size"] jB):bu P w K mg base dX 3 f fd ["_law_draw","_law_things"] tW:=by
 obtain ⟨vB,pZ,cK,bQ,bR,cJ⟩:=gw
 refine F.ok jD (fun vs H Q E h=>?_) (fun cdv A outer s H vs Q E hr h=>?_)
 ·obtain ⟨d,l,xs,rfl,hd,hl,hx,EL,k⟩:=h
  rfl
 ·obtain ⟨d,l,xs,rfl,hd,hl,hx,EL,k⟩:=h
  have hu:=br hr
  rw [show av uq=[_,_,_,_] from rfl]
  refine ⟨_,(ao (aO (i:=2) jD.nd rfl (Or.inr rfl) kQ)
   (ao (dP PassesOwn.never rfl (eO rfl T.range (aa (bg fP (aM bZ (bB (aa ak (aa ak (aa ak (aa ak (aa ak (aa ak (aa ak ai)))))))) (aB cK (hr.mono (by first | decide | omega)) rfl bQ bR cJ .nil aD (aa (pv 0) (aa ak ai))) (fun _ _=>rfl)) (bz fz (by rfl) T.int boot_int (aa (bK (pB (uN hr)) (pv 1) (bB ai) (aL _)) ai))) ai)) (aK (i:=3) jD.nd rfl (Or.inl rfl)) (au (jL hu (pv 2) (aM bZ (pv 1) (aB cK (hr.mono (by first | decide | omega)) rfl bQ bR cJ .nil aD (aa (pv 0) (aa (bU bX (by rfl) T.len PySem.boot_len (aa (pv 1) ai)) ai))) (fun _ _=>rfl)) (aM bZ (bB (aa ak (aa ak (aa ak (aa (uD nh ak) (aa (uD nh ak) (aa ak (aa (uD nh ak) (aa ak ai))))))))) (aB cK (hr.mono (by first | decide | omega)) rfl bQ bR cJ .nil aD (aa (pv 0) (aa ak ai))) (fun _ _=>rfl)) rfl)))
   (ao (aO (i:=4) jD.nd rfl (Or.inl rfl) (aM bZ (bB (aa ak (aa ak (aa ak (aa (uD nh ak) (aa (bg yz (aB cK (hr.mono (by first | decide | omega)) rfl bQ bR cJ .nil aD (aa (pv 0) (aa ak ai))) ak) (aa (aB cK (hr.mono (by first | decide | omega)) rfl bQ bR cJ .nil aD (aa (pv 0) (aa ak ai))) ai))))))) (bg iA (aB cK (hr.mono (by first | decide | omega)) rfl bQ bR cJ .nil aD (aa (pv 0) (aa ak ai))) ak) (fun _ _=>rfl)))
   (au (aI (bG (aa (bz bT (by rfl) T.tuple boot_tuple (aa (cB (bq ["_law_thing"] ["_law_found"] [2] rfl (by decide +kernel) (by decide +kernel) (by with_unfolding_all rfl) (by exact ⟨rfl,trivial⟩) (by rfl) rfl (by rfl)) rfl (eZ (bU (qe rfl) (by rfl) T.sorted boot_sorted (aa (pv 2) ai))) (fun _ _ _ _=>(aK (i:=0) (show List.Nodup (["_law_thing","_law_found"]:List Str) by decide +kernel) rfl (Or.inl rfl) (Or.inr rfl))) (fun _ _ _ _=>cA) (fun _ _ _ _=>(bG (aa (pv 0) (aa (mC hu (pv 1) (pv 0) (fun _ _=>rfl)) ai))))) ai)) (aa (pv 4) ai)))))))),?_⟩
  have two:2≤sizeLine:=Nat.le_of_lt (line 2 (by decide))
  have BL:l≠d:=by
   obtain ⟨x,y,ed⟩:=hd
   refine mX hl ed fun z=>?_
   cases xs with
   | nil=>cases z
   | cons a b=>cases z
  intro fd hfd
  have Px:fd≠d:=hd.ne hfd
  have d1:Dr (upd H fd (.dK [])) d:=hd.same (new hfd)
  refine ⟨(szl 7),fun q0 sE=>?_⟩
  have SV:q0≠d:=d1.ne sE
  refine ⟨_,rfl,d,7,rfl,d1.same (new sE),(by decide),fun r0 H1 h0 b1 d2=>?_⟩
  obtain ⟨w0,hw0,w1,w2⟩:=OV (r:=r0) (by omega)
  refine ⟨q0,_,_,_,rfl,rfl,bx.of (b1 _ _ ah SV),dJ hw0,?_⟩
  have QG:H1 l=some (.lst (xs.map V.str)):=b1 _ _ (new sE _ _ (new hfd _ _ hl)) BL
  have ef1:H1 fd=some (.dK (enc [])):=b1 _ _ (new sE _ _ ah) Px
  have F1:bI d H H1:=(((bI.of (new hfd)).new sE).trans b1)
  refine ⟨_,rfl,(Nat.zero_le _),fun e0 Fy=>?_⟩
  refine ⟨l,e0,_,rfl,rfl,bx.of (new Fy _ _ QG),bx.of ah,?_⟩
  generalize hb:(!decide (xs.map V.str=[]))=bb
  refine .inr ⟨bb,rfl,_,_,rfl,rfl,.inl ⟨by omega,by omega⟩,?_⟩
  obtain ⟨w9,e01,w9a,w9b,w9c⟩:∃ w9:Int,w0*(if bb=true then 1 else 0)=w9∧0≤w9∧w9≤3∧(0 < w9→1≤xs.length):=by
   cases bb
   ·exact ⟨0,by simp,by decide,by decide,fun h=>absurd h (by decide)⟩
   ·refine ⟨w0,by simp,by omega,by omega,fun _=>?_⟩
    cases xs with
    | nil=>cases hb
    | cons a b=>show 1≤b.length+1;omega
  refine ⟨w9,congrArg (fun z=>[V.int z]) e01,by omega,by omega,g9 (n:=w9.toNat) (fun i σ H'=>∃ (e:Ps) (k:Option V),σ=[some (.ref d),some (.ref l),some (.ref fd),k,none]∧bI d H H'∧Dr H' d∧H' l=some (.lst (xs.map V.str))∧H' fd=some (.dK (enc e))∧e.length≤i∧Tb e∧∀ p∈e,p.1∈xs) ⟨[],none,rfl,F1.new Fy,d2.same (new Fy),new Fy _ _ QG,new Fy _ _ ef1,Nat.le_refl _,Tb.nil,fun _ h=>nomatch h⟩ ?_ ?_⟩
  ·rintro i σ H3 hi ⟨e,k3,rfl,F,D,en,ef,el,tb,em⟩
   have lz:(xs.map V.str).length=xs.length:=List.length_map ..
   have hx1:1≤xs.length:=w9c (by omega)
   refine ⟨_,rfl,_,rfl,_,rfl,(szl 8),fun q2 hq2=>?_⟩
   have nq2:q2≠d:=D.ne hq2
   refine ⟨_,rfl,d,8,rfl,D.same (new hq2),(by decide),fun r2 H5 h2 b5 d5=>?_⟩
   obtain ⟨w,hw,w0',ws⟩:=QH (r:=r2) (by omega)
   refine ⟨q2,_,_,_,rfl,rfl,bx.of (b5 _ _ ah nq2),dJ hw,?_⟩
   have el5:H5 l=some (.lst (xs.map V.str)):=b5 _ _ (new hq2 _ _ en) BL
   have ef5:H5 fd=some (.dK (enc e)):=b5 _ _ (new hq2 _ _ ef) Px
   refine ⟨_,rfl,_,rfl,_,rfl,_,rfl,l,_,rfl,.inl (bx.of el5),d,_,rfl,d5,(by rw [lz];omega),fun r3 H6 h3 b6 d6=>?_⟩
   have hr3:r3 < xs.length:=by omega
   have el6:H6 l=some (.lst (xs.map V.str)):=b6 _ _ el5 BL
   have ef6:H6 fd=some (.dK (enc e)):=b6 _ _ ef5 Px
   have hmx:xs[r3]∈xs:=List.getElem_mem hr3
   refine ⟨l,_,_,_,rfl,rfl,bx.of el6,dJ (K5 hr3),fd,_,rfl,we.k (k:=Sum.inr xs[r3]) ef6 (by rw [jV];exact line _ (by omega)),?_⟩
   have F6:bI d H H6:=((F.new hq2).trans b5).trans b6
   have hlx:xs[r3].length≤100:=EL _ hmx
   refine ⟨put e xs[r3] w,_,rfl,fun b o z n=>?_,?_,?_,?_,?_,tb.put w0' ws hlx,fun p hp=>(Di hp).elim (em p) fun z=>z ▸ hmx⟩
   ·rw [aA (aq z hfd)]
    exact F6 b o z n
   ·obtain ⟨x5,y5,e5⟩:=d6
    exact ⟨x5,y5,by rw [aA Px.symm];exact e5⟩
   ·rw [aA (mX el6 ef6 (by intro w;cases w))]
    exact el6
   ·rw [ah]
    exact congrArg (fun z=>some (HO.dK z)) (p7 e _ _)
   ·have:=s9 e xs[r3] w
    omega
  rintro σ H3 ⟨e,k3,rfl,F,D,en,ef,el,tb,em⟩
  have Ut:e.length≤3:=by omega
  refine ⟨_,rfl,_,rfl,d,19,rfl,D,(by decide),fun r4 H4 h4 b4 d4=>⟨_,_,rfl,rfl,?_⟩⟩
  refine ⟨_,rfl,d,999999999,rfl,d4,(by decide),fun r5 H5 h5 b5 d5=>⟨(szl 6),fun q hq=>?_⟩⟩
  have nq:q≠d:=d5.ne hq
  refine ⟨_,rfl,d,12,rfl,d5.same (new hq),(by decide),fun r6 H6 h6 b6 d6=>⟨_,_,rfl,rfl,(by show (0:Int) < 6;decide),?_⟩⟩
  obtain ⟨z,hz,zs⟩:=Zo (a:=(r4:Int) - 9) (b:=(r5:Int)) ⟨by omega,by omega⟩ ⟨by omega,by omega⟩ (r6:Int)
  refine ⟨q,_,_,_,rfl,rfl,bx.of (b6 _ _ ah nq),hz,?_⟩
  have ef4:H6 fd=some (.dK (enc e)):=b6 _ _ (new hq _ _ (b5 _ _ (b4 _ _ ef Px) Px)) Px
  have F4:bI d H H6:=(((F.trans b4).trans b5).new hq).trans b6
  refine ⟨_,rfl,fd,_,keys e,rfl,ef4,AH e,(by rw [jV];omega),fun ll ys hll hp hso=>⟨ll,rfl,⟨_,bx.of ah⟩,?_⟩⟩
  have yl:ys.length≤3:=by
   rw [hp.length_eq]
   unfold keys
   rw [List.length_map]
   exact Ut
  refine gy (xs:=ys.map V.str) (fun i out H'=>az (upd H6 ll (.lst (ys.map V.str))) H'∧zB H' out ((ys.take i).map fun t=>(t,get e t))) ⟨az.refl _,.nil⟩ (fun i out H' _ q=>bx.of (q.1 _ _ ah)) ?_ ?_
  ·rintro i v out H' hi ⟨sm,pr⟩
   obtain ⟨y,hy,rfl⟩:∃ y,ys[i]?=some y∧v=V.str y:=by
    rw [List.getElem?_map] at hi
    cases q:ys[i]? with
    | none=>rw [q] at hi;cases hi
    | some y=>rw [q] at hi;cases hi;exact ⟨y,rfl,rfl⟩
   have hil:i < ys.length:=(List.getElem?_eq_some_iff.mp hy).1
   have hm:y∈keys e:=hp.mem_iff.mp (List.mem_of_getElem? hy)
   have WY:H' fd=some (.dK (enc e)):=sm _ _ (new hll _ _ ef4)
   refine ⟨Ext.one,jw ⟨_,rfl,_,rfl,_,rfl,fd,_,rfl,kX WY hm,two,fun q hq=>⟨?_,az.new sm hq,?_⟩⟩⟩
   ·rw [dI pr,List.length_map,List.length_take]
    exact line _ (by omega)
   ·rw [take_snoc hy,List.map_append]
    exact iR (pr.keep fun _ _ z=>new hq _ _ z) (mz ⟨q,rfl,ah⟩)
  rintro out H' ⟨sm,pr⟩ q' hq'
  rw [List.length_map,List.take_length] at pr
  refine ⟨q',_,rfl,.inl ⟨bx.of ah,fun t ht=>?_⟩⟩
  refine ⟨_,rfl,two,fun r hr'=>?_⟩
  have s0:az H6 H':=fun b o z=>sm b o (new hll b o z)
  have s1:=az.new (o:=.lst out) s0 hq'
  have s2:=az.new (o:=.tup out) s1 ht
  have s3:=az.new (o:=.tup [.ref t,.int z]) s2 hr'
  have sh:=tb.short hp (by omega)
  refine k r (ys.map fun t=>(t,get e t)) z _ (F4.trans (bI.of s3)) (d6.same s3) ⟨t,ah,out,?_,pr.keep fun _ _ z=>new hr' _ _ (new ht _ _ (new hq' _ _ z))⟩ (tb.canon hp hso) ⟨by rw [List.length_map];exact yl,fun p RC=>(sh.2 p RC).1⟩ (fun p RC=>?_) zs
  ·rw [aA (aq ah hr')]
   exact ah
  ·obtain ⟨y,hy,rfl⟩:=List.mem_map.mp RC
   exact em _ (get_mem (hp.mem_iff.mp hy))
abbrev kJ:Stmt:=top 38
theorem eK:aG ["_law_draw","_law_things","_law_deep","_law_kind","_law_sign","_law_parts"] ["_law_draw","_law_things","_law_deep"] (aj kJ):=⟨rfl,rfl,rfl,by decide +kernel,rfl,by decide +kernel,by decide +kernel⟩
theorem Ij {f:Addr} {fd:FuncData} {Z:Cz} {n:Nat} {TM W fT fW:Addr} {dY dS:List Value} (F:cX K "_law_condition" "_law_condition" kJ f fd) (T:Txt K mg Z.s) (U:gh K mg Z) (XT:dW K mg TM W fT fW dY dS) (gw:Dn P w K mg base 2 "_law_next" ["_law_draw","_law_size"] jB) (vH:Dn P w K mg base 3 "_law_sum" ["_law_draw","_law_things"] tW) (gH:Dn P w K mg base (n+3) "_law_condition" ["_law_draw","_law_things","_law_deep"] (jA n)):bu P w K mg base dX (n+4) f fd ["_law_draw","_law_things","_law_deep"] (jA (n+1)):=by
 obtain ⟨vB,pZ,cK,bQ,bR,cJ⟩:=gw
 obtain ⟨Qq,MA,AZ,uS,ve,AS⟩:=vH
 obtain ⟨rV,p6,fE,eT,eU,fB⟩:=gH
 refine F.ok eK (fun vs H Q E h=>?_) (fun cdv A outer s H vs Q E hr h=>?_)
 ·obtain ⟨d,l,k0,xs,rfl,hk,hd,hl,hx,EL,k⟩:=h
  rfl
 ·obtain ⟨d,l,k0,xs,rfl,hk,hd,hl,hx,EL,k⟩:=h
  have hu:=br hr
  rw [show av kJ=[_,_,_,_,_] from rfl]
  refine ⟨_,(ao (aO (i:=3) eK.nd rfl (Or.inl rfl) (aB cK (hr.mono (by first | decide | omega)) rfl bQ bR cJ .nil aD (aa (pv 0) (aa ak ai))))
   (ao (bS (PW.pt (uB (aP bV (pv 2) ak (aL _)) (nQ (aP uH (pv 3) ak (aL _))))) (ao (aO (i:=4) eK.nd rfl (Or.inl rfl) (aM bZ (bB (yy (xs:=["<","<=","=","!=",">=",">"]) rfl)) (aB cK (hr.mono (by first | decide | omega)) rfl bQ bR cJ .nil aD (aa (pv 0) (aa ak ai))) (fun _ _=>rfl)))
   (au (aI (bG (aa aU (aa (aB AZ (hr.mono (by first | decide | omega)) rfl uS ve AS .nil aD (aa (pv 0) (aa (pv 1) ai))) (aa (pv 4) (aa (aB AZ (hr.mono (by first | decide | omega)) rfl uS ve AS .nil aD (aa (pv 0) (aa (pv 1) ai))) ai)))))))) bE)
   (ao (bS (aP bV (pv 3) ak (aL _)) (au (aI (bG (aa aU (aa (aB fE (hr.mono (by first | decide | omega)) rfl eT eU fB .nil aD (aa (pv 0) (aa (pv 1) (aa (bg yz (pv 2) ak) ai)))) ai))))) bE)
   (ao (mw (i:=5) eK.nd rfl (Or.inl rfl) (bq ["_law_k"] ["_law_draw","_law_things","_law_deep"] [0,1,2] rfl (by decide +kernel) (by decide +kernel) (by with_unfolding_all rfl) (by exact ⟨rfl,rfl,rfl,trivial⟩) (by rfl) rfl (by rfl)) rfl (eO rfl T.range (aa (bg dQ ak (bg fP (bg Dt (aB cK (hr.mono (by first | decide | omega)) rfl bQ bR cJ .nil aD (aa (pv 0) (aa ak ai))) ak) (bz fz (by rfl) T.int boot_int (aa (bK bV (pv 2) ak (aL _)) ai)))) ai)) (fun _ _ _ _=>(aK (i:=0) (show List.Nodup (["_law_k","_law_draw","_law_things","_law_deep"]:List Str) by decide +kernel) rfl (Or.inl rfl) (Or.inr rfl))) (fun _ _ _ _=>cA) (fun _ _ _ _=>(aB fE (hr.mono (by first | decide | omega)) rfl eT eU fB .nil aD (aa (pv 1) (aa (pv 2) (aa (bg yz (pv 3) ak) ai))))))
   (au (aI (bg pC (bG (aa (aM bZ (bB (aa aU (aa aU ai))) (bg iA (pv 3) ak) (fun _ _=>rfl)) ai)) (bz bT (by rfl) T.tuple boot_tuple (aa (pv 5) ai))))))))),?_⟩
  have BL:l≠d:=by
   obtain ⟨x,y,ed⟩:=hd
   refine mX hl ed fun z=>?_
   cases xs with
   | nil=>cases z
   | cons a b=>cases z
  refine ⟨_,rfl,d,8,rfl,hd,(by decide),fun r0 H1 h0 b1 d1=>?_⟩
  have QG:H1 l=some (.lst (xs.map V.str)):=b1 _ _ hl BL
  by_cases hz:k0=0
  ·refine ⟨_,rfl,rfl,_,rfl,bL (by rw [hz];rfl) (vm ?_)⟩
   refine ⟨(szl 6),fun q0 sE=>?_⟩
   have SV:q0≠d:=d1.ne sE
   refine ⟨_,rfl,d,6,rfl,d1.same (new sE),(by decide),fun r2 H2 h2 b2 d2=>?_⟩
   obtain ⟨sg,hsg,hs⟩:=signs_at (r:=r2) (by omega)
   refine ⟨q0,_,_,_,rfl,rfl,bx.of (b2 _ _ ah SV),dJ hsg,?_⟩
   have QF:H2 l=some (.lst (xs.map V.str)):=b2 _ _ (new sE _ _ QG) BL
   refine ⟨_,rfl,_,rfl,d,l,xs,rfl,d2,QF,hx,EL,fun ra a n1 H3 b3 d3 Da Ca La Ia Sa=>?_⟩
   have Ut:H3 l=some (.lst (xs.map V.str)):=b3 _ _ QF BL
   refine ⟨_,rfl,_,rfl,_,rfl,d,l,xs,rfl,d3,Ut,hx,EL,fun rb b m1 H4 b4 d4 Db Cb Lb Ib Sb=>?_⟩
   refine ⟨(szl 4),fun r hr'=>?_⟩
   refine k (.ref r) (.cmp a n1 sg b m1) _ (((((b1.new sE).trans b2).trans b3).trans b4).new hr') (d4.same (new hr')) ?_ (by unfold Cd.dep;omega) (by unfold Gd;exact ⟨⟨Ca,La,Ia,Sa⟩,hs,⟨Cb,Lb,Ib,Sb⟩⟩) (by unfold Cd.full;trivial) (by unfold Cd.ff;exact sY _)
   unfold bf
   exact ⟨r,ra,rb,rfl,ah,(Da.aH (d3.soft b4)).aH (aE.of (new hr')),Db.aH (aE.of (new hr'))⟩
  refine ⟨_,rfl,rfl,_,rfl,aZ (fun e=>hz (by have:=V.int.inj e;omega)) ?_⟩
  by_cases h5:r0 < 5
  ·refine ⟨_,rfl,_,_,rfl,rfl,_,rfl,bL (by omega) ?_⟩
   refine ⟨(szl 6),fun q0 sE=>?_⟩
   have SV:q0≠d:=d1.ne sE
   refine ⟨_,rfl,d,6,rfl,d1.same (new sE),(by decide),fun r2 H2 h2 b2 d2=>?_⟩
   obtain ⟨sg,hsg,hs⟩:=signs_at (r:=r2) (by omega)
   refine ⟨q0,_,_,_,rfl,rfl,bx.of (b2 _ _ ah SV),dJ hsg,?_⟩
   have QF:H2 l=some (.lst (xs.map V.str)):=b2 _ _ (new sE _ _ QG) BL
   refine ⟨_,rfl,_,rfl,d,l,xs,rfl,d2,QF,hx,EL,fun ra a n1 H3 b3 d3 Da Ca La Ia Sa=>?_⟩
   have Ut:H3 l=some (.lst (xs.map V.str)):=b3 _ _ QF BL
   refine ⟨_,rfl,_,rfl,_,rfl,d,l,xs,rfl,d3,Ut,hx,EL,fun rb b m1 H4 b4 d4 Db Cb Lb Ib Sb=>?_⟩
   refine ⟨(szl 4),fun r hr'=>?_⟩
   refine k (.ref r) (.cmp a n1 sg b m1) _ (((((b1.new sE).trans b2).trans b3).trans b4).new hr') (d4.same (new hr')) ?_ (by unfold Cd.dep;omega) (by unfold Gd;exact ⟨⟨Ca,La,Ia,Sa⟩,hs,⟨Cb,Lb,Ib,Sb⟩⟩) (by unfold Cd.full;trivial) (by unfold Cd.ff;exact sY _)
   unfold bf
   exact ⟨r,ra,rb,rfl,ah,(Da.aH (d3.soft b4)).aH (aE.of (new hr')),Db.aH (aE.of (new hr'))⟩
  refine ⟨_,rfl,_,_,rfl,rfl,_,rfl,aZ (by omega) ?_⟩
  have ek:∀ j:Int,j=(k0:Int) - 1→[V.ref d,V.ref l,V.int j]=[V.ref d,V.ref l,V.int ((k0 - 1:Nat):Int)]:=fun j e=>by rw [e,show ((k0:Int) - 1)=((k0 - 1:Nat):Int) by omega]
  by_cases h6:r0=5
  ·refine ⟨_,rfl,rfl,_,rfl,bL (by rw [h6];rfl) ?_⟩
   refine ⟨_,rfl,_,rfl,_,rfl,_,_,rfl,rfl,d,l,k0 - 1,xs,ek _ rfl,by omega,d1,QG,hx,EL,fun v c H2 b2 d2 ht KP hg hfu mU=>?_⟩
   refine ⟨(szl 2),fun r hr'=>?_⟩
   refine k (.ref r) (.neg c) _ ((b1.trans b2).new hr') (d2.same (new hr')) ?_ (by unfold Cd.dep;omega) (by unfold Gd;exact hg) (by unfold Cd.full;exact hfu) (by unfold Cd.ff;have z:=PK (k0 - 1);rw [show k0 - 1+1=k0 by omega] at z;omega)
   unfold bf
   exact ⟨r,v,rfl,ah,ht.aH (aE.of (new hr'))⟩
  refine ⟨_,rfl,rfl,_,rfl,aZ (fun e=>h6 (by have:=V.int.inj e;omega)) ?_⟩
  refine ⟨_,rfl,d,4,rfl,d1,(by decide),fun r3 H2 h3 b2 d2=>⟨_,_,rfl,rfl,⟨by decide,by decide⟩,?_⟩⟩
  refine ⟨_,rfl,rfl,.inr ⟨decide (V.int (k0:Int)=V.int 1),rfl,_,_,rfl,rfl,.inl ⟨by omega,by omega⟩,?_⟩⟩
  have QF:H2 l=some (.lst (xs.map V.str)):=b2 _ _ QG BL
  refine ⟨_,_,rfl,rfl,?_⟩
  obtain ⟨m,em,m1,m2,m3⟩:∃ m:Nat,(2:Int)+(r3:Int) / 3*(if decide (V.int (k0:Int)=V.int 1)=true then 1 else 0)=(m:Int)∧1≤m∧m≤3∧(k0=1∨m≤2):=by
   by_cases q:decide (V.int (k0:Int)=V.int 1)=true
   ·rw [if_pos q]
    exact ⟨(2+(r3:Int) / 3*1).toNat,by omega,by omega,by omega,.inl (by have:=V.int.inj (of_decide_eq_true q);omega)⟩
   ·rw [if_neg q]
    exact ⟨2,by omega,by omega,by omega,.inr (by omega)⟩
  refine ⟨(m:Int),congrArg (fun z=>[V.int z]) em,by omega,by omega,om (n:=(m:Int).toNat) (fun i ys H'=>bI d H H'∧Dr H' d∧H' l=some (.lst (xs.map V.str))∧∃ cs,cj H' cs ys∧cs.length=i∧jv cs≤k0∧Fj xs cs∧bW cs∧mZ cs≤i*ED (k0 - 1)) ⟨b1.trans b2,d2,QF,[],(by unfold cj;rfl),rfl,Nat.zero_le _,(by unfold Fj;trivial),(by unfold bW;trivial),(by unfold mZ;exact Nat.zero_le _)⟩ ?_ ?_⟩
  ·rintro i ys H' hi ⟨F,D,en,cs,ht,lc,dc,gc,fc,vc⟩
   have w5:ys.length=i:=by rw [ay (bw.mp ht),lc]
   refine ⟨Ext.one,jw ⟨_,rfl,_,rfl,_,rfl,_,_,rfl,rfl,d,l,k0 - 1,xs,ek _ rfl,by omega,D,en,hx,EL,fun v c H5 b5 d5 ht5 KP hg hfu mU=>⟨line _ (by omega),F.trans b5,d5,b5 _ _ en BL,cs++[c],?_,?_,?_,AD gc hg,vv fc hfu,(by rw [jq,Nat.succ_mul];omega)⟩⟩⟩
   ·exact bw.mpr (aS (bw.mp (ht.aH (D.soft b5))) ht5)
   ·rw [List.length_append,lc];rfl
   ·rw [xy];omega
  rintro ys H' ⟨F,D,en,cs,ht,lc,dc,gc,fc,vc⟩ q hq
  have w5:ys.length=cs.length:=ay (bw.mp ht)
  have lc3:cs.length≤3:=by omega
  have two:2≤sizeLine:=Nat.le_of_lt (line 2 (by decide))
  have Ye:(m:Int).toNat*ED (k0 - 1)≤ED k0:=by
   rw [show (m:Int).toNat=m by omega]
   match k0,hz,m3 with
   | 1,_,_=>show m*1≤3;omega
   | j+2,_,h =>
    have h2:m≤2:=h.elim (fun z=>absurd z (by omega)) id
    show m*ED (j+1)≤2*ED (j+1)
    exact Nat.mul_le_mul_right _ h2
  refine ⟨two,fun q1 hq1=>?_⟩
  obtain ⟨b,hb⟩:=Pg (r0:Int)
  refine ⟨_,rfl,_,_,rfl,rfl,(by show (0:Int) < 2;decide),q1,_,_,_,rfl,rfl,bx.of ah,hb,Nat.le_of_lt (line 1 (by decide)),fun r1 hr1=>?_⟩
  have s1:=(new (o:=.lst ys) hq).trans ((new (o:=.lst [V.str "and",.str "or"]) hq1).trans (new (o:=.tup [V.str (A7 b)]) hr1))
  have eq':upd (upd (upd H' q (.lst ys)) q1 (.lst [V.str "and",.str "or"])) r1 (.tup [V.str (A7 b)]) q=some (.lst ys):=new hr1 _ _ (new hq1 _ _ ah)
  refine ⟨_,rfl,q,_,rfl,.inl ⟨bx.of eq',fun r2 hr2=>?_⟩⟩
  have s2:=s1.trans (new (o:=.tup ys) hr2)
  refine ⟨r1,r2,_,_,rfl,rfl,aV.of (new hr2 _ _ ah),aV.of ah,(by show 1+ys.length≤sizeLine;exact Nat.le_of_lt (line _ (by omega))),?_,?_,?_⟩
  ·intro z;cases z
  ·intro _ z
   exfalso
   rw [z] at w5
   have:(0:Nat)=cs.length:=w5
   omega
  ·intro _ _ r hr'
   refine k (.ref r) (.con b cs) _ ((F.trans (bI.of s2)).new hr') ((D.same s2).same (new hr')) ?_ (by unfold Cd.dep;omega) (by unfold Gd;exact ⟨lc3,gc⟩) (by unfold Cd.full;exact ⟨by omega,fc⟩) (by unfold Cd.ff;exact Nat.le_trans vc Ye)
   unfold bf
   exact ⟨r,ys,rfl,ah,(ht.aH (aE.of s2)).aH (aE.of (new hr'))⟩
abbrev uy:Stmt:=top 39
theorem fL:aG ["_law_one","_law_numbers","_law_found","_law_thing","_law_times"] ["_law_one","_law_numbers"] (aj uy):=⟨rfl,rfl,rfl,by decide +kernel,rfl,by decide +kernel,by decide +kernel⟩
theorem LI {f:Addr} {fd:FuncData} {Z:Cz} {n:Nat} {TM W fT fW:Addr} {dY dS:List Value} (F:cX K "_law_value" "_law_value" uy f fd) (T:Txt K mg Z.s) (U:gh K mg Z) (XT:dW K mg TM W fT fW dY dS) :bu P w K mg base dX 1 f fd ["_law_one","_law_numbers"] tZ:=by
 refine F.ok fL (fun vs H Q E h=>?_) (fun cdv A outer s H vs Q E hr h=>?_)
 ·obtain ⟨p,d,ts,ns,m,rfl,U0,hd,h3,hk,k⟩:=h
  rfl
 ·obtain ⟨p,d,ts,ns,m,rfl,U0,hd,h3,hk,k⟩:=h
  have hu:=br hr
  rw [show av uy=[_,_,_] from rfl]
  refine ⟨_,(ao (aO (i:=2) fL.nd rfl (Or.inl rfl) (aM aR (pv 0) ak (fun _ _=>rfl)))
   (ao (dP PassesOwn.never rfl (cZ (aM aR (pv 0) ak (fun _ _=>rfl))) (qK rfl (cN (aK (i:=3) fL.nd rfl (Or.inl rfl)) (cN (aK (i:=4) fL.nd rfl (Or.inl rfl)) jM))) (au (Hr (i:=2) fL.nd rfl (Or.inl rfl) (bg fP (pv 4) (mC hu (pv 1) (pv 3) (fun _ _=>rfl))) BZ)))
   (au (aI (pv 2))))),?_⟩
  obtain ⟨t,hp,ht⟩:=id U0
  have ht3:=h3.1
  refine ⟨_,rfl,p,_,1,_,rfl,rfl,aV.of hp,rfl,?_⟩
  refine ⟨_,rfl,p,_,0,_,rfl,rfl,aV.of hp,rfl,t,rfl,DU ht (fun i σ H'=>∃ a3 a4:Option V,σ=[some (.ref p),some (.ref d),some (.int (m+bH (ts.take i) (get ns))),a3,a4]∧H'=H) ⟨none,none,(by rw [List.take_zero,show bH [] (get ns)=0 from rfl,Int.add_zero];rfl),rfl⟩ ?_ ?_ ?_⟩
  ·rintro i σ H' ⟨a3,a4,rfl,rfl⟩ b xs e
   exact e
  ·rintro i v pr σ H' hi ⟨c,rfl,hc⟩ ⟨a3,a4,rfl,rfl⟩
   have hmm:=List.mem_of_getElem? hi
   refine ⟨c,_,rfl,aV.of hc,rfl,_,_,rfl,_,_,rfl,rfl,?_⟩
   refine ⟨_,rfl,_,rfl,_,rfl,_,rfl,d,_,rfl,kX hd (hk pr hmm),_,_,rfl,rfl,.inl (h3.2 pr hmm).w,_,_,rfl,rfl,some (.str pr.1),some (.int pr.2),?_,rfl⟩
   rw [take_snoc hi,cE]
   show _=[_,_,some (V.int (m+(bH (ts.take i) (get ns)+(pr.2*get ns pr.1+0)))),_,_]
   rw [Int.add_zero,← Int.add_assoc]
   rfl
  ·rintro σ H' ⟨a3,a4,rfl,rfl⟩
   rw [List.take_length]
   exact ⟨_,rfl,k _ (fun _ _ z=>z)⟩
abbrev iP:Stmt:=top 40
theorem gU:aG ["_law_told_here","_law_numbers","_law_truths","_law_one","_law_other"] ["_law_told_here","_law_numbers"] (aj iP):=⟨rfl,rfl,rfl,by decide +kernel,rfl,by decide +kernel,by decide +kernel⟩
theorem Ey {f:Addr} {fd:FuncData} {Z:Cz} {n:Nat} {TM W fT fW:Addr} {dY dS:List Value} (F:cX K "_law_holds" "_law_holds" iP f fd) (T:Txt K mg Z.s) (U:gh K mg Z) (XT:dW K mg TM W fT fW dY dS) (vG:Dn P w K mg base 1 "_law_value" ["_law_one","_law_numbers"] tZ) (lJ:Dn P w K mg base (n+1) "_law_holds" ["_law_told_here","_law_numbers"] (ic n)):bu P w K mg base dX (n+2) f fd ["_law_told_here","_law_numbers"] (ic (n+1)):=by
 obtain ⟨JR,ET,tK,pK,pR,tG⟩:=vG
 obtain ⟨Ue,N9,mL,jo,jt,mJ⟩:=lJ
 refine F.ok gU (fun vs H Q E h=>?_) (fun cdv A outer s H vs Q E hr h=>?_)
 ·obtain ⟨v,d,c,xs,ns,rfl,ht,hd,hg,hN,hk,k⟩:=h
  rfl
 ·obtain ⟨v,d,c,xs,ns,rfl,ht,hd,hg,hN,hk,k⟩:=h
  have hu:=br hr
  rw [show av iP=[_,_,_,_,_,_,_,_] from rfl]
  refine ⟨_,(ao (bS (aP bV (aM aR (pv 0) ak (fun _ _=>rfl)) aU (aL _)) (au (aI (BF (aB mL (hr.mono (by first | decide | omega)) rfl jo jt mJ .nil aD (aa (aM aR (pv 0) ak (fun _ _=>rfl)) (aa (pv 1) ai)))))) bE)
   (ao (bS (aP jk (aM aR (pv 0) ak (fun _ _=>rfl)) (bG (aa aU (aa aU ai))) (by rfl)) (ao (mw (i:=2) gU.nd rfl (Or.inl rfl) (bq ["_law_one"] ["_law_numbers"] [1] rfl (by decide +kernel) (by decide +kernel) (by with_unfolding_all rfl) (by exact ⟨rfl,trivial⟩) (by rfl) rfl (by rfl)) rfl (cZ (uE By (pv 0) (yr ak) yt)) (fun _ _ _ _=>(aK (i:=0) (show List.Nodup (["_law_one","_law_numbers"]:List Str) by decide +kernel) rfl (Or.inl rfl) (Or.inr rfl))) (fun _ _ _ _=>cA) (fun _ _ _ _=>(aB mL (hr.mono (by first | decide | omega)) rfl jo jt mJ .nil aD (aa (pv 0) (aa (pv 1) ai)))))
   (au (aI (aM bZ (bB (aa (bK jk kW (pv 2) (by rfl)) (aa (bK jN kW (pv 2) (by rfl)) ai))) (bz fz (by rfl) T.int boot_int (aa (bK bV (aM aR (pv 0) ak (fun _ _=>rfl)) aU (aL _)) ai)) (fun _ _=>rfl))))) bE)
   (ao (aO (i:=3) gU.nd rfl (Or.inl rfl) (aB tK (hr.mono (by first | decide | omega)) rfl pK pR tG .nil aD (aa (aM aR (pv 0) ak (fun _ _=>rfl)) (aa (pv 1) ai))))
   (ao (aO (i:=4) gU.nd rfl (Or.inl rfl) (aB tK (hr.mono (by first | decide | omega)) rfl pK pR tG .nil aD (aa (aM aR (pv 0) ak (fun _ _=>rfl)) (aa (pv 1) ai))))
   (ao (bS (aP bV (aM aR (pv 0) ak (fun _ _=>rfl)) aU (aL _)) (au (aI (bK bV (pv 3) (pv 4) (aL _)))) bE)
   (ao (bS (aP bV (aM aR (pv 0) ak (fun _ _=>rfl)) aU (aL _)) (au (aI (bK Ds (pv 3) (pv 4) (aL _)))) bE)
   (ao (bS (aP jk (aM aR (pv 0) ak (fun _ _=>rfl)) (bG (aa aU (aa aU ai))) (by rfl)) (au (aI (NR (bK uH (pv 3) (pv 4) (aL _)) (nU (uF (bK bV (pv 3) (pv 4) (aL _)) (nU (bK bV (aM aR (pv 0) ak (fun _ _=>rfl)) aU (aL _)))))))) bE)
   (au (aI (NR (bK Ac (pv 3) (pv 4) (aL _)) (nU (uF (bK bV (pv 3) (pv 4) (aL _)) (nU (bK bV (aM aR (pv 0) ak (fun _ _=>rfl)) aU (aL _))))))))))))))),?_⟩
  cases c with
  | neg c =>
   unfold bf at ht
   unfold Ge at hg
   obtain ⟨r,u,rfl,er,ht⟩:=ht
   refine ⟨_,rfl,r,_,0,_,rfl,rfl,aV.of er,rfl,rfl,_,rfl,bL rfl ?_⟩
   refine ⟨_,rfl,r,_,1,_,rfl,rfl,aV.of er,rfl,_,rfl,u,d,c,xs,ns,rfl,ht,(by unfold Cd.dep at hd;omega),hg,hN,hk,fun H1 s1=>?_⟩
   have k:=k _ s1
   unfold Cd.holds at k
   exact ⟨_,rfl,k⟩
  | con b cs =>
   unfold bf at ht
   unfold Ge at hg
   obtain ⟨r,us,rfl,er,ht⟩:=ht
   have zA:=bw.mp ht
   have qu:us.length=cs.length:=ay zA
   have lc3:=hg.1
   have two:2≤sizeLine:=Nat.le_of_lt (line 2 (by decide))
   refine ⟨_,rfl,r,_,0,_,rfl,rfl,aV.of er,KS _ _,rfl,_,rfl,aZ (bh (s:=A7 b) (by cases b <;> decide +kernel)) ?_⟩
   refine ⟨_,rfl,r,_,0,_,rfl,rfl,aV.of er,KS _ _,two,fun q0 sE=>?_⟩
   have s0:=new (o:=.tup [V.str "and",V.str "or"]) sE
   refine ⟨q0,_,rfl,.inr (aV.of ah),rfl,rfl,_,rfl,NZ (by cases b <;> decide +kernel) ?_⟩
   refine ⟨_,rfl,_,rfl,r,_,rfl,aV.of (s0 _ _ er),Ka _ _,fun t Tr=>?_⟩
   rw [QV]
   have s1:=s0.trans (new (o:=.tup us) Tr)
   refine ⟨t,rfl,⟨us,aV.of ah⟩,cF (xs:=us) (fun i ys H'=>az (upd (upd H q0 (.tup [V.str "and",V.str "or"])) t (.tup us)) H'∧ys=((cs.take i).map (Cd.holds (get ns))).map V.bl) ⟨fun _ _ z=>z,rfl⟩ (fun i ys H' _ q=>aV.of (q.1 _ _ ah)) ?_ ?_⟩
   ·rintro i x ys H' hix ⟨sm,rfl⟩
    obtain ⟨c,gC,pU⟩:=aW zA hix
    have PZ:=(List.getElem?_eq_some_iff.mp gC).1
    have jS:=List.mem_of_getElem? gC
    have dd:c.dep≤n:=by
     have z:=fh jS
     unfold Cd.dep at hd
     omega
    refine ⟨Ext.one,jw ⟨_,rfl,_,rfl,x,d,c,xs,ns,rfl,pU.aH (aE.of (s1.trans sm)),dd,tE hg.2 jS,(s1.trans sm) _ _ hN,hk,fun H1 g8=>⟨?_,sm.trans g8,?_⟩⟩⟩
    ·rw [List.length_map,List.length_map,List.length_take]
     exact line _ (by omega)
    ·rw [take_snoc gC,List.map_append,List.map_append]
     rfl
   rintro ys H' ⟨sm,rfl⟩ q hq
   rw [qu,List.take_length]
   have sq:=new (o:=.lst ((cs.map (Cd.holds (get ns))).map V.bl)) hq
   refine ⟨_,rfl,q,_,rfl,.inl (bx.of ah),rfl,yW _,?_⟩
   refine ⟨_,rfl,q,_,rfl,.inl (bx.of ah),rfl,yW _,?_⟩
   refine ⟨two,fun q1 hq1=>?_⟩
   have sz:∀ o,az H (upd (upd H' q (.lst ((cs.map (Cd.holds (get ns))).map V.bl))) q1 o):=fun o=>((s1.trans sm).trans sq).trans (new hq1)
   unfold Cd.holds at k
   have m9:=new (o:=.lst [V.bl (if false=true then !m8 (.bl true) ((cs.map (Cd.holds (get ns))).map V.bl) else m8 (.bl true) ((cs.map (Cd.holds (get ns))).map V.bl)),V.bl (if true=true then !m8 (.bl false) ((cs.map (Cd.holds (get ns))).map V.bl) else m8 (.bl false) ((cs.map (Cd.holds (get ns))).map V.bl))]) hq1 _ _ (sq _ _ (sm _ _ (s1 _ _ er)))
   refine ⟨_,rfl,r,_,0,_,rfl,rfl,aV.of m9,KS _ _,rfl,?_⟩
   cases b with
   | true =>
    refine .inr ⟨true,rfl,q1,_,_,_,rfl,rfl,bx.of ah,rfl,?_⟩
    rw [if_pos rfl,jR,← Ax] at k
    exact k _ (sz _)
   | false =>
    refine .inr ⟨false,rfl,q1,_,_,_,rfl,rfl,bx.of ah,rfl,?_⟩
    rw [if_neg (by decide),jQ,← DM] at k
    exact k _ (sz _)
  | cmp a i s b m =>
   unfold bf at ht
   unfold Ge at hg
   obtain ⟨r,u,w,rfl,er,D1,D2⟩:=ht
   have two:2≤sizeLine:=Nat.le_of_lt (line 2 (by decide))
   refine ⟨_,rfl,r,_,0,_,rfl,rfl,aV.of er,rfl,rfl,_,rfl,aZ (bh (by decide +kernel)) ?_⟩
   refine ⟨_,rfl,r,_,0,_,rfl,rfl,aV.of er,rfl,two,fun q0 sE=>?_⟩
   have s0:=new (o:=.tup [V.str "and",V.str "or"]) sE
   refine ⟨q0,_,rfl,.inr (aV.of ah),rfl,rfl,_,rfl,Mp (by decide +kernel) ?_⟩
   refine ⟨_,rfl,r,_,1,_,rfl,rfl,aV.of (s0 _ _ er),rfl,_,rfl,u,d,a,ns,i,rfl,D1.aH (aE.of s0),s0 _ _ hN,hg.1.2.1,(fun z hz=>hk _ (hg.1.2.2.1 z hz)),fun H1 s1=>?_⟩
   refine ⟨_,rfl,r,_,3,_,rfl,rfl,aV.of (s1 _ _ (s0 _ _ er)),rfl,_,rfl,w,d,b,ns,m,rfl,D2.aH (aE.of (s0.trans s1)),s1 _ _ (s0 _ _ hN),hg.2.2.2.1,(fun z hz=>hk _ (hg.2.2.2.2.1 z hz)),fun H2 s2=>?_⟩
   have sA:=(s0.trans s1).trans s2
   have m9:=sA _ _ er
   unfold Cd.holds at k
   generalize i+bH a (get ns)=X at k ⊢
   generalize m+bH b (get ns)=Y at k ⊢
   have k:Q (.bl (dG s X Y)) H2∧∀ q,H2 q=none→Q (.bl (dG s X Y)) (upd H2 q (.tup [V.str "<",V.str "<="])):=⟨k _ sA,fun q hq=>k _ (sA.trans (new hq))⟩
   have hs:=hg.2.1
   simp only [signs,List.mem_cons,List.not_mem_nil,or_false] at hs
   rcases hs with hs | hs | hs | hs | hs | hs
   ·subst hs
    refine ⟨_,rfl,r,_,2,_,rfl,rfl,aV.of m9,rfl,rfl,_,rfl,aZ (bh (by decide +kernel)) ?_⟩
    refine ⟨_,rfl,r,_,2,_,rfl,rfl,aV.of m9,rfl,rfl,_,rfl,aZ (bh (by decide +kernel)) ?_⟩
    refine ⟨_,rfl,r,_,2,_,rfl,rfl,aV.of m9,rfl,Nat.le_of_lt (line 2 (by decide)),fun q hq=>?_⟩
    have QB:=new (o:=.tup [V.str "<",V.str "<="]) hq _ _ m9
    have k:=k.2 q hq
    refine ⟨q,_,rfl,.inr (aV.of ah),rfl,rfl,_,rfl,NZ (by decide +kernel) ?_⟩
    have e:dG "<" X Y=decide (X < Y):=by unfold dG;rw [if_pos rfl]
    rw [e] at k
    by_cases h1:X < Y
    ·refine ⟨_,rfl,_,rfl,_,_,rfl,rfl,_,rfl,bL h1 ?_⟩
     rw [decide_eq_true (show X < Y by omega)] at k;exact k
    refine ⟨_,rfl,_,rfl,_,_,rfl,rfl,_,rfl,aZ h1 ?_⟩
    by_cases h2:X=Y
    ·refine ⟨_,rfl,_,rfl,rfl,_,rfl,bL (congrArg V.int h2) ?_⟩
     refine ⟨_,rfl,r,_,2,_,rfl,rfl,aV.of QB,rfl,rfl,?_⟩
     rw [decide_eq_false (show ¬ X < Y by omega)] at k
     rw [decide_eq_false (bh (s:="<") (t:="<=") (by decide +kernel))];exact k
    refine ⟨_,rfl,_,rfl,rfl,_,rfl,aZ (fun e=>h2 (V.int.inj e)) ?_⟩
    rw [decide_eq_false (show ¬ (X < Y) by omega)] at k;exact k
   ·subst hs
    refine ⟨_,rfl,r,_,2,_,rfl,rfl,aV.of m9,rfl,rfl,_,rfl,aZ (bh (by decide +kernel)) ?_⟩
    refine ⟨_,rfl,r,_,2,_,rfl,rfl,aV.of m9,rfl,rfl,_,rfl,aZ (bh (by decide +kernel)) ?_⟩
    refine ⟨_,rfl,r,_,2,_,rfl,rfl,aV.of m9,rfl,Nat.le_of_lt (line 2 (by decide)),fun q hq=>?_⟩
    have QB:=new (o:=.tup [V.str "<",V.str "<="]) hq _ _ m9
    have k:=k.2 q hq
    refine ⟨q,_,rfl,.inr (aV.of ah),rfl,rfl,_,rfl,NZ (by decide +kernel) ?_⟩
    have e:dG "<=" X Y=decide (X≤Y):=by unfold dG;rw [if_neg (by decide +kernel),if_pos rfl]
    rw [e] at k
    by_cases h1:X < Y
    ·refine ⟨_,rfl,_,rfl,_,_,rfl,rfl,_,rfl,bL h1 ?_⟩
     rw [decide_eq_true (show X≤Y by omega)] at k;exact k
    refine ⟨_,rfl,_,rfl,_,_,rfl,rfl,_,rfl,aZ h1 ?_⟩
    by_cases h2:X=Y
    ·refine ⟨_,rfl,_,rfl,rfl,_,rfl,bL (congrArg V.int h2) ?_⟩
     refine ⟨_,rfl,r,_,2,_,rfl,rfl,aV.of QB,rfl,rfl,?_⟩
     rw [decide_eq_true (show X≤Y by omega)] at k
     rw [decide_eq_true (show V.str "<="=V.str "<=" from rfl)];exact k
    refine ⟨_,rfl,_,rfl,rfl,_,rfl,aZ (fun e=>h2 (V.int.inj e)) ?_⟩
    rw [decide_eq_false (show ¬ (X≤Y) by omega)] at k;exact k
   ·subst hs
    refine ⟨_,rfl,r,_,2,_,rfl,rfl,aV.of m9,rfl,rfl,_,rfl,bL rfl ?_⟩
    refine ⟨_,rfl,_,rfl,rfl,?_⟩
    have e:dG "=" X Y=decide (V.int X=V.int Y):=by unfold dG;rw [if_neg (by decide +kernel),if_neg (by decide +kernel),if_pos rfl];exact Og.symm
    have k:=k.1;rw [e] at k;exact k
   ·subst hs
    refine ⟨_,rfl,r,_,2,_,rfl,rfl,aV.of m9,rfl,rfl,_,rfl,aZ (bh (by decide +kernel)) ?_⟩
    refine ⟨_,rfl,r,_,2,_,rfl,rfl,aV.of m9,rfl,rfl,_,rfl,bL rfl ?_⟩
    refine ⟨_,rfl,_,rfl,rfl,?_⟩
    have e:dG "!=" X Y=!decide (V.int X=V.int Y):=by unfold dG;rw [if_neg (by decide +kernel),if_neg (by decide +kernel),if_neg (by decide +kernel),if_pos rfl];rw [Og]
    have k:=k.1;rw [e] at k;exact k
   ·subst hs
    refine ⟨_,rfl,r,_,2,_,rfl,rfl,aV.of m9,rfl,rfl,_,rfl,aZ (bh (by decide +kernel)) ?_⟩
    refine ⟨_,rfl,r,_,2,_,rfl,rfl,aV.of m9,rfl,rfl,_,rfl,aZ (bh (by decide +kernel)) ?_⟩
    refine ⟨_,rfl,r,_,2,_,rfl,rfl,aV.of m9,rfl,Nat.le_of_lt (line 2 (by decide)),fun q hq=>?_⟩
    have QB:=new (o:=.tup [V.str "<",V.str "<="]) hq _ _ m9
    have k:=k.2 q hq
    refine ⟨q,_,rfl,.inr (aV.of ah),rfl,rfl,_,rfl,Mp (by decide +kernel) ?_⟩
    have e:dG ">=" X Y=decide (Y≤X):=by unfold dG;rw [if_neg (by decide +kernel),if_neg (by decide +kernel),if_neg (by decide +kernel),if_neg (by decide +kernel),if_pos rfl]
    rw [e] at k
    by_cases h1:Y < X
    ·refine ⟨_,rfl,_,rfl,_,_,rfl,rfl,_,rfl,bL h1 ?_⟩
     rw [decide_eq_true (show Y≤X by omega)] at k;exact k
    refine ⟨_,rfl,_,rfl,_,_,rfl,rfl,_,rfl,aZ h1 ?_⟩
    by_cases h2:X=Y
    ·refine ⟨_,rfl,_,rfl,rfl,_,rfl,bL (congrArg V.int h2) ?_⟩
     refine ⟨_,rfl,r,_,2,_,rfl,rfl,aV.of QB,rfl,rfl,?_⟩
     rw [decide_eq_true (show Y≤X by omega)] at k
     rw [decide_eq_true (show V.str ">="=V.str ">=" from rfl)];exact k
    refine ⟨_,rfl,_,rfl,rfl,_,rfl,aZ (fun e=>h2 (V.int.inj e)) ?_⟩
    rw [decide_eq_false (show ¬ (Y≤X) by omega)] at k;exact k
   ·subst hs
    refine ⟨_,rfl,r,_,2,_,rfl,rfl,aV.of m9,rfl,rfl,_,rfl,aZ (bh (by decide +kernel)) ?_⟩
    refine ⟨_,rfl,r,_,2,_,rfl,rfl,aV.of m9,rfl,rfl,_,rfl,aZ (bh (by decide +kernel)) ?_⟩
    refine ⟨_,rfl,r,_,2,_,rfl,rfl,aV.of m9,rfl,Nat.le_of_lt (line 2 (by decide)),fun q hq=>?_⟩
    have QB:=new (o:=.tup [V.str "<",V.str "<="]) hq _ _ m9
    have k:=k.2 q hq
    refine ⟨q,_,rfl,.inr (aV.of ah),rfl,rfl,_,rfl,Mp (by decide +kernel) ?_⟩
    have e:dG ">" X Y=decide (Y < X):=by unfold dG;rw [if_neg (by decide +kernel),if_neg (by decide +kernel),if_neg (by decide +kernel),if_neg (by decide +kernel),if_neg (by decide +kernel)]
    rw [e] at k
    by_cases h1:Y < X
    ·refine ⟨_,rfl,_,rfl,_,_,rfl,rfl,_,rfl,bL h1 ?_⟩
     rw [decide_eq_true (show Y < X by omega)] at k;exact k
    refine ⟨_,rfl,_,rfl,_,_,rfl,rfl,_,rfl,aZ h1 ?_⟩
    by_cases h2:X=Y
    ·refine ⟨_,rfl,_,rfl,rfl,_,rfl,bL (congrArg V.int h2) ?_⟩
     refine ⟨_,rfl,r,_,2,_,rfl,rfl,aV.of QB,rfl,rfl,?_⟩
     rw [decide_eq_false (show ¬ Y < X by omega)] at k
     rw [decide_eq_false (bh (s:=">") (t:=">=") (by decide +kernel))];exact k
    refine ⟨_,rfl,_,rfl,rfl,_,rfl,aZ (fun e=>h2 (V.int.inj e)) ?_⟩
    rw [decide_eq_false (show ¬ (Y < X) by omega)] at k;exact k
abbrev kM:Stmt:=top 41
theorem rC:aG ["_law_told_here","_law_parts"] ["_law_told_here"] (aj kM):=⟨rfl,rfl,rfl,by decide +kernel,rfl,by decide +kernel,by decide +kernel⟩
theorem LH {f:Addr} {fd:FuncData} {Z:Cz} {n:Nat} {TM W fT fW:Addr} {dY dS:List Value} (F:cX K "_law_made" "_law_made" kM f fd) (T:Txt K mg Z.s) (U:gh K mg Z) (XT:dW K mg TM W fT fW dY dS) (d_init:Mr P w K mg base 1 Z.s ["self","terms","number"] (kG Z.s)) (fX:Mr P w K mg base 1 Z.c ["self","one","sign","other"] (iM Z)) (jW:Mr P w K mg base 1 Z.t ["self","condition"] (l0 Z)) (fV:Mr P w K mg base 1 Z.e ["self","conditions"] (dD Z.e)) (fU:Mr P w K mg base 1 Z.o ["self","conditions"] (dD Z.o)) (CC:Dn P w K mg base (n+2) "_law_made" ["_law_told_here"] (mj Z n)):bu P w K mg base dX (n+3) f fd ["_law_told_here"] (mj Z (n+1)):=by
 obtain ⟨yX,tF,dm,M,di⟩:=d_init
 obtain ⟨Ui,Oc,eG,lQ,eg⟩:=fX
 obtain ⟨a5M,TY,jd,zm,jc⟩:=jW
 obtain ⟨Uh,Ob,gf,vU,fZ⟩:=fV
 obtain ⟨Uc,N8,gM,AY,gI⟩:=fU
 obtain ⟨Qs,MB,vV,pL,pS,vQ⟩:=CC
 refine F.ok rC (fun vs H Q E h=>?_) (fun cdv A outer s H vs Q E hr h=>?_)
 ·obtain ⟨v,c,xs,rfl,ht,hd,hg,k⟩:=h
  rfl
 ·obtain ⟨v,c,xs,rfl,ht,hd,hg,k⟩:=h
  have hu:=br hr
  rw [show av kM=[_,_,_,_,_] from rfl]
  refine ⟨_,(ao (bS (aP bV (aM aR (pv 0) ak (fun _ _=>rfl)) aU (aL _)) (au (aI (cO lQ eG (hr.mono (by first | decide | omega)) rfl U.mgC eg .nil aD (aa (cO M dm (hr.mono (by first | decide | omega)) rfl T.n8 di .nil aD (aa (aM aR (aM aR (pv 0) ak (fun _ _=>rfl)) ak (fun _ _=>rfl)) (aa (aM aR (aM aR (pv 0) ak (fun _ _=>rfl)) ak (fun _ _=>rfl)) ai))) (aa (aM aR (pv 0) ak (fun _ _=>rfl)) (aa (cO M dm (hr.mono (by first | decide | omega)) rfl T.n8 di .nil aD (aa (aM aR (aM aR (pv 0) ak (fun _ _=>rfl)) ak (fun _ _=>rfl)) (aa (aM aR (aM aR (pv 0) ak (fun _ _=>rfl)) ak (fun _ _=>rfl)) ai))) ai)))))) bE)
   (ao (bS (aP bV (aM aR (pv 0) ak (fun _ _=>rfl)) aU (aL _)) (au (aI (cO zm jd (hr.mono (by first | decide | omega)) rfl U.mgT jc .nil aD (aa (aB vV (hr.mono (by first | decide | omega)) rfl pL pS vQ .nil aD (aa (aM aR (pv 0) ak (fun _ _=>rfl)) ai)) ai)))) bE)
   (ao (mw (i:=1) rC.nd rfl (Or.inl rfl) (bq ["_law_one"] [] [] rfl (by decide +kernel) (by decide +kernel) (by with_unfolding_all rfl) (by exact trivial) (by rfl) rfl (by rfl)) rfl (cZ (uE By (pv 0) (yr ak) yt)) (fun _ _ _ _=>(aK (i:=0) (show List.Nodup (["_law_one"]:List Str) by decide +kernel) rfl (Or.inl rfl) (Or.inr rfl))) (fun _ _ _ _=>cA) (fun _ _ _ _=>(aB vV (hr.mono (by first | decide | omega)) rfl pL pS vQ .nil aD (aa (pv 0) ai))))
   (ao (bS (aP bV (aM aR (pv 0) ak (fun _ _=>rfl)) aU (aL _)) (au (aI (cO vU gf (hr.mono (by first | decide | omega)) rfl U.mgE fZ .nil aD (aa (pv 1) ai)))) bE)
   (au (aI (cO AY gM (hr.mono (by first | decide | omega)) rfl U.mgO gI .nil aD (aa (pv 1) ai)))))))),?_⟩
  cases c with
  | cmp a i s b m =>
   unfold bf at ht
   unfold Ge at hg
   obtain ⟨r,u,w,rfl,er,D1,D2⟩:=ht
   obtain ⟨t1,eu,T1⟩:=id D1
   have a3:=hg.1.2.1.1
   have b3:=hg.2.2.2.1.1
   refine ⟨_,rfl,r,_,0,_,rfl,rfl,aV.of er,rfl,rfl,_,rfl,bL rfl ?_⟩
   refine ⟨_,rfl,r,_,1,_,rfl,rfl,aV.of er,rfl,u,_,0,_,rfl,rfl,aV.of eu,rfl,?_⟩
   refine ⟨_,rfl,r,_,1,_,rfl,rfl,aV.of er,rfl,u,_,1,_,rfl,rfl,aV.of eu,rfl,fun x dx hx hdx ne=>?_⟩
   have g1:=bN (o:=.own x) (o':=.ins Z.s dx []) hx hdx
   refine ⟨x,dx,t1,i,a,rfl,ah,.inr (T1.same g1),by omega,fun H1 QX S1=>⟨rfl,?_⟩⟩
   have s1:az H H1:=fun b' o z=>QX b' o (g1 _ _ z) (aq z hx)
   have D2':=D2.aH (aE.of s1)
   obtain ⟨t2,ew,T2⟩:=id D2'
   refine ⟨_,rfl,r,_,2,_,rfl,rfl,aV.of (s1 _ _ er),rfl,?_⟩
   refine ⟨_,rfl,r,_,3,_,rfl,rfl,aV.of (s1 _ _ er),rfl,w,_,0,_,rfl,rfl,aV.of ew,rfl,?_⟩
   refine ⟨_,rfl,r,_,3,_,rfl,rfl,aV.of (s1 _ _ er),rfl,w,_,1,_,rfl,rfl,aV.of ew,rfl,fun y dy hy hdy ne2=>?_⟩
   have g2:=bN (o:=.own y) (o':=.ins Z.s dy []) hy hdy
   refine ⟨y,dy,t2,m,b,rfl,ah,.inr (T2.same g2),by omega,fun H2 a8L S2=>⟨rfl,?_⟩⟩
   have s2:az H1 H2:=fun b' o z=>a8L b' o (g2 _ _ z) (aq z hy)
   refine fun z dz hz hdz ne3=>?_
   have g3:=bN (o:=.own z) (o':=.ins Z.c dz []) hz hdz
   refine ⟨z,dz,x,y,s,rfl,ah,fun H3 a8K e3=>⟨rfl,?_⟩⟩
   have s3:az H2 H3:=fun b' o q=>a8K b' o (g3 _ _ q) (aq q hz)
   refine k (.ref z) H3 ((s1.trans s2).trans s3) ?_
   unfold aT
   exact ⟨z,dz,x,y,rfl,e3,(S1.same s2).same s3,S2.same s3⟩
  | neg c =>
   unfold bf at ht
   unfold Ge at hg
   obtain ⟨r,u,rfl,er,ht⟩:=ht
   refine ⟨_,rfl,r,_,0,_,rfl,rfl,aV.of er,rfl,rfl,_,rfl,aZ (bh (by decide +kernel)) ?_⟩
   refine ⟨_,rfl,r,_,0,_,rfl,rfl,aV.of er,rfl,rfl,_,rfl,bL rfl ?_⟩
   refine ⟨_,rfl,r,_,1,_,rfl,rfl,aV.of er,rfl,u,c,xs,rfl,ht,(by unfold Cd.dep at hd;omega),hg,fun v' H1 s1 hv=>?_⟩
   refine fun x dx hx hdx ne=>?_
   have g1:=bN (o:=.own x) (o':=.ins Z.t dx []) hx hdx
   refine ⟨x,dx,v',rfl,ah,fun H3 but e1=>⟨rfl,?_⟩⟩
   have s3:az H1 H3:=fun b' o z=>but b' o (g1 _ _ z) (aq z hx)
   refine k (.ref x) H3 (s1.trans s3) ?_
   unfold aT
   exact ⟨x,dx,v',rfl,e1,hv.aH (aE.of s3)⟩
  | con b cs =>
   unfold bf at ht
   unfold Ge at hg
   obtain ⟨r,us,rfl,er,ht⟩:=ht
   have zA:=bw.mp ht
   have qu:us.length=cs.length:=ay zA
   have lc3:=hg.1
   refine ⟨_,rfl,r,_,0,_,rfl,rfl,aV.of er,KS _ _,rfl,_,rfl,aZ (bh (s:=A7 b) (by cases b <;> decide +kernel)) ?_⟩
   refine ⟨_,rfl,r,_,0,_,rfl,rfl,aV.of er,KS _ _,rfl,_,rfl,aZ (bh (s:=A7 b) (by cases b <;> decide +kernel)) ?_⟩
   refine ⟨_,rfl,_,rfl,r,_,rfl,aV.of er,Ka _ _,fun t Tr=>?_⟩
   rw [QV]
   have s1:=new (o:=.tup us) Tr
   refine ⟨t,rfl,⟨us,aV.of ah⟩,cF (xs:=us) (fun i ys H'=>az (upd H t (.tup us)) H'∧ck Z H' (cs.take i) ys) ⟨fun _ _ z=>z,(by unfold ck;rfl)⟩ (fun i ys H' _ q=>aV.of (q.1 _ _ ah)) ?_ ?_⟩
   ·rintro i x ys H' hix ⟨sm,hc⟩
    obtain ⟨c,gC,pU⟩:=aW zA hix
    have PZ:=(List.getElem?_eq_some_iff.mp gC).1
    have jS:=List.mem_of_getElem? gC
    have dd:c.dep≤n:=by
     have z:=fh jS
     unfold Cd.dep at hd
     omega
    have w5:ys.length≤i:=by
     have z:=ay (aJ.mp hc)
     rw [List.length_take] at z
     omega
    refine ⟨Ext.one,jw ⟨_,rfl,x,c,xs,rfl,pU.aH (aE.of (s1.trans sm)),dd,tE hg.2 jS,fun v' H1 g8 hv=>⟨line _ (by omega),sm.trans g8,?_⟩⟩⟩
    rw [take_snoc gC]
    exact aJ.mpr (aS (aJ.mp (hc.aH (aE.of g8))) hv)
   rintro ys H' ⟨sm,hc⟩ q hq
   rw [qu,List.take_length] at hc
   have w5:ys.length=cs.length:=ay (aJ.mp hc)
   have sq:=new (o:=.lst ys) hq
   have m9:=sq _ _ (sm _ _ (s1 _ _ er))
   cases b with
   | true =>
    refine ⟨_,rfl,r,_,0,_,rfl,rfl,aV.of m9,KS _ _,rfl,_,rfl,bL rfl ?_⟩
    refine ⟨_,rfl,fun x dx hx hdx ne=>?_⟩
    have g1:=bN (o:=.own x) (o':=.ins Z.e dx []) hx hdx
    refine ⟨x,dx,q,ys,rfl,ah,g1 _ _ ah,fun t' H2 but e1 e2=>⟨rfl,?_⟩⟩
    have s2:az H' H2:=fun b' o z=>but b' o (g1 _ _ (sq _ _ z)) (aq (sq _ _ z) hx)
    refine k (.ref x) H2 ((s1.trans sm).trans s2) ?_
    unfold aT
    exact ⟨x,dx,t',ys,rfl,e1,e2,by omega,hc.aH (aE.of s2)⟩
   | false =>
    refine ⟨_,rfl,r,_,0,_,rfl,rfl,aV.of m9,KS _ _,rfl,_,rfl,aZ (bh (s:=A7 false) (by decide +kernel)) ?_⟩
    refine ⟨_,rfl,fun x dx hx hdx ne=>?_⟩
    have g1:=bN (o:=.own x) (o':=.ins Z.o dx []) hx hdx
    refine ⟨x,dx,q,ys,rfl,ah,g1 _ _ ah,fun t' H2 but e1 e2=>⟨rfl,?_⟩⟩
    have s2:az H' H2:=fun b' o z=>but b' o (g1 _ _ (sq _ _ z)) (aq (sq _ _ z) hx)
    refine k (.ref x) H2 ((s1.trans sm).trans s2) ?_
    unfold aT
    exact ⟨x,dx,t',ys,rfl,e1,e2,by omega,hc.aH (aE.of s2)⟩
abbrev uv:Stmt:=top 6
theorem K7:aG ["thing"] ["thing"] (aj uv):=⟨rfl,rfl,rfl,by decide +kernel,rfl,by decide +kernel,by decide +kernel⟩
theorem LF {f:Addr} {fd:FuncData} {Z:Cz} {n:Nat} {TM W fT fW:Addr} {dY dS:List Value} (F:cX K "once" "once" uv f fd) (T:Txt K mg Z.s) (U:gh K mg Z) (XT:dW K mg TM W fT fW dY dS) (d_init:Mr P w K mg base 1 Z.s ["self","terms","number"] (kG Z.s)):bu P w K mg base dX 3 f fd ["thing"] (Bw Z.s):=by
 obtain ⟨yX,tF,dm,M,di⟩:=d_init
 refine F.ok K7 (fun vs H Q E h=>?_) (fun cdv A outer s H vs Q E hr h=>?_)
 ·obtain ⟨x,rfl,k⟩:=h
  rfl
 ·obtain ⟨x,rfl,k⟩:=h
  have hu:=br hr
  rw [show av uv=[_] from rfl]
  refine ⟨_,(au (aI (cO M dm (hr.mono (by first | decide | omega)) rfl T.n8 di .nil aD (aa (bG (aa (bG (aa (pv 0) (aa ak ai))) ai)) (aa ak ai))))),?_⟩
  refine ⟨_,rfl,(szl 2),fun q hq=>⟨(Nat.le_of_lt (line 1 (by decide))),fun t ht=>fun x' mG hx hdx ne=>?_⟩⟩
  have sA:=(new (o:=.tup [.str x,.int 1]) hq).trans (new (o:=.tup [V.ref q]) ht)
  have h1:az (upd (upd H q (.tup [.str x,.int 1])) t (.tup [V.ref q])) (upd (upd (upd (upd H q (.tup [.str x,.int 1])) t (.tup [V.ref q])) mG (.own x')) x' (.ins Z.s mG [])):=bN hx hdx
  refine ⟨x',mG,t,0,[(x,1)],rfl,ah,.inr ⟨[V.ref q],h1 _ _ ah,mz ⟨q,rfl,h1 _ _ (new ht _ _ ah)⟩⟩,(by show 1≤1000;decide),fun H2 but S=>⟨rfl,?_⟩⟩
  exact k x' H2 (fun b o z=>but b o (h1 _ _ (sA _ _ z)) (aq (sA _ _ z) hx)) S
abbrev ir:Stmt:=top 25
theorem BB:aG ["place"] ["place"] (aj ir):=⟨rfl,rfl,rfl,by decide +kernel,rfl,by decide +kernel,by decide +kernel⟩
theorem BI {f:Addr} {fd:FuncData} {Z:Cz} {n:Nat} {TM W fT fW:Addr} {dY dS:List Value} (F:cX K "unknown" "unknown" ir f fd) (T:Txt K mg Z.s) (U:gh K mg Z) (XT:dW K mg TM W fT fW dY dS) :bu P w K mg base dX 1 f fd ["place"] GY:=by
 refine F.ok BB (fun vs H Q E h=>?_) (fun cdv A outer s H vs Q E hr h=>?_)
 ·obtain ⟨n0,rfl,h6,k⟩:=h
  rfl
 ·obtain ⟨n0,rfl,h6,k⟩:=h
  have hu:=br hr
  rw [show av ir=[_] from rfl]
  refine ⟨_,(au (aI (bg jO aU (bz qd (by rfl) T.str boot_str (aa (pv 0) ai))))),?_⟩
  have lg:((n0:Int).natAbs.log2) < 1920:=GO ⟨n0,h6⟩
  have lz:("?":Str).length+(Str.ofString (toString (n0:Int))).length≤sizeLine:=Nat.le_of_lt (line _ (Nat.le_trans (NI ⟨n0,h6⟩) (by decide)))
  exact ⟨_,rfl,(n0:Int),rfl,lg,_,_,rfl,rfl,lz,k⟩
abbrev iw:Stmt:=top 22
theorem zO:aG ["total"] ["total"] (aj iw):=⟨rfl,rfl,rfl,by decide +kernel,rfl,by decide +kernel,by decide +kernel⟩
theorem Ad {f:Addr} {fd:FuncData} {Z:Cz} {n:Nat} {TM W fT fW:Addr} {dY dS:List Value} (F:cX K "is_never" "is_never" iw f fd) (T:Txt K mg Z.s) (U:gh K mg Z) (XT:dW K mg TM W fT fW dY dS) :bu P w K mg base dX 1 f fd ["total"] (yd Z.s):=by
 refine F.ok zO (fun vs H Q E h=>?_) (fun cdv A outer s H vs Q E hr h=>?_)
 ·obtain ⟨p,ts,n0,rfl,S,k⟩:=h
  rfl
 ·obtain ⟨p,ts,n0,rfl,S,k⟩:=h
  have hu:=br hr
  rw [show av iw=[_] from rfl]
  refine ⟨_,(au (aI (uF (bK bV (bU bX (by rfl) T.len PySem.boot_len (aa (aY (pv 0) rfl) ai)) ak (aL _)) (nU (bK uH (aY (pv 0) rfl) ak (aL _)))))),?_⟩
  obtain ⟨dx,t,hp,⟨vs,et,pr⟩,hz⟩:=S
  have lv:=dI pr
  cases ts with
  | nil =>
   cases pr
   refine ⟨_,rfl,p,Z.s,dx,_,_,rfl,hp,T.cl,T.nT,bY _ _,t,_,rfl,.inr (aV.of et),rfl,_,rfl,bL rfl ⟨_,rfl,p,Z.s,dx,_,_,rfl,hp,T.cl,T.nN,bJ _ _,_,_,rfl,rfl,?_⟩⟩
   exact k
  | cons x r =>
   refine ⟨_,rfl,p,Z.s,dx,_,_,rfl,hp,T.cl,T.nT,bY _ _,t,_,rfl,.inr (aV.of et),rfl,_,rfl,aZ (fun z=>?_) ?_⟩
   ·have:=V.int.inj z
    rw [lv] at this
    simp at this
    omega
   ·exact k
abbrev dZ:Stmt:=top 27
theorem rY:aG ["case"] ["case"] (aj dZ):=⟨rfl,rfl,rfl,by decide +kernel,rfl,by decide +kernel,by decide +kernel⟩
theorem se {f:Addr} {fd:FuncData} {Z:Cz} {n:Nat} {TM W fT fW:Addr} {dY dS:List Value} (F:cX K "is_never_met" "is_never_met" dZ f fd) (T:Txt K mg Z.s) (U:gh K mg Z) (XT:dW K mg TM W fT fW dY dS) (CD:Dn P w K mg base 1 "is_never" ["total"] (yd Z.s)):bu P w K mg base dX 2 f fd ["case"] (nj Z.s):=by
 obtain ⟨Qu,Oa,CU,Aj,As,CK⟩:=CD
 refine F.ok rY (fun vs H Q E h=>?_) (fun cdv A outer s H vs Q E hr h=>?_)
 ·obtain ⟨t,us,ss,rfl,ht,hS,hl,k⟩:=h
  rfl
 ·obtain ⟨t,us,ss,rfl,ht,hS,hl,k⟩:=h
  have hu:=br hr
  rw [show av dZ=[_] from rfl]
  refine ⟨_,(au (aI (bU (Kf rfl) (by rfl) U.any boot_any (aa (cB (bq ["total"] [] [] rfl (by decide +kernel) (by decide +kernel) (by with_unfolding_all rfl) (by exact trivial) (by rfl) rfl (by rfl)) rfl (cZ (pv 0)) (fun _ _ _ _=>(aK (i:=0) (show List.Nodup (["total"]:List Str) by decide +kernel) rfl (Or.inl rfl) (Or.inr rfl))) (fun _ _ _ _=>cA) (fun _ _ _ _=>(aB CU (hr.mono (by first | decide | omega)) rfl Aj As CK .nil aD (aa (pv 0) ai)))) ai)))),?_⟩
  refine ⟨_,rfl,t,rfl,⟨us,aV.of ht⟩,cF (xs:=us) (fun i ys H'=>H'=H∧ys=((ss.take i).map mT).map V.bl) ⟨rfl,rfl⟩ (fun i ys H' _ q=>by rw [q.1];exact aV.of ht) ?_ ?_⟩
  ·rintro i v ys H' hi ⟨rfl,rfl⟩
   obtain ⟨s,es,p,rfl,S⟩:=aW hS hi
   refine ⟨Ext.one,jw ⟨_,rfl,p,s.1,s.2,rfl,S,?_,rfl,?_⟩⟩
   ·rw [List.length_map,List.length_map,List.length_take]
    have:=ay hS
    exact line _ (by omega)
   ·rw [take_snoc es,List.map_append,List.map_append]
    rfl
  rintro ys H' ⟨rfl,rfl⟩ q hq
  have el:=ay hS
  refine ⟨q,_,rfl,bx.of ah,?_⟩
  rw [el,List.take_length,List.any_map]
  exact k _ (new hq)
abbrev ig:Stmt:=top 28
theorem qD:aG ["case"] ["case"] (aj ig):=⟨rfl,rfl,rfl,by decide +kernel,rfl,by decide +kernel,by decide +kernel⟩
theorem qM {f:Addr} {fd:FuncData} {Z:Cz} {n:Nat} {TM W fT fW:Addr} {dY dS:List Value} (F:cX K "without_plain" "without_plain" ig f fd) (T:Txt K mg Z.s) (U:gh K mg Z) (XT:dW K mg TM W fT fW dY dS) :bu P w K mg base dX 1 f fd ["case"] (qz Z.s):=by
 refine F.ok qD (fun vs H Q E h=>?_) (fun cdv A outer s H vs Q E hr h=>?_)
 ·obtain ⟨t,us,ss,rfl,ht,hS,hl,k⟩:=h
  rfl
 ·obtain ⟨t,us,ss,rfl,ht,hS,hl,k⟩:=h
  have hu:=br hr
  rw [show av ig=[_] from rfl]
  refine ⟨_,(au (aI (bz bT (by rfl) T.tuple boot_tuple (aa (cB (bq ["total"] [] [] rfl (by decide +kernel) (by decide +kernel) (by with_unfolding_all rfl) (by exact trivial) (by rfl) rfl (by rfl)) rfl (cZ (pv 0)) (fun _ _ _ _=>(aK (i:=0) (show List.Nodup (["total"]:List Str) by decide +kernel) rfl (Or.inl rfl) (Or.inr rfl))) (fun _ _ _ _=>(jK (aP Ac (bU (wJ (K:=K) rfl) (by rfl) T.len PySem.boot_len (aa (sR (K:=K) rfl (pv 0) rfl) ai)) ak (aL _)))) (fun _ _ _ _=>(pv 0))) ai)))),?_⟩
  have el:=ay hS
  refine ⟨_,rfl,t,rfl,⟨us,aV.of ht⟩,cF (xs:=us) (fun i ys H'=>H'=H∧Om Z.s H ys ((ss.take i).filter mS)) ⟨rfl,.nil⟩ (fun i ys H' _ q=>by rw [q.1];exact aV.of ht) ?_ ?_⟩
  ·rintro i v ys H' hi ⟨rfl,py⟩
   obtain ⟨s,es,p,rfl,S⟩:=aW hS hi
   obtain ⟨dx,tt,hp,⟨vs,et,pr⟩,hz⟩:=id S
   have lv:=dI pr
   have ly:=ay py
   have lf:((ss.take i).filter mS).length≤(ss.take i).length:=List.length_filter_le _ _
   rw [List.length_take] at lf
   refine ⟨Ext.one,_,rfl,p,Z.s,dx,_,_,rfl,hp,T.cl,T.nT,bY _ _,tt,_,rfl,.inr (aV.of et),_,_,rfl,rfl,_,rfl,?_⟩
   rw [take_snoc es,List.filter_append]
   obtain ⟨a0,n0⟩:=s
   cases a0 with
   | nil =>
    refine aZ (fun z=>?_) ⟨rfl,?_⟩
    ·have:vs.length=0:=lv
     omega
    ·show Om Z.s H' ys (List.filter mS (List.take i ss)++[])
     rw [List.append_nil]
     exact py
   | cons x r =>
    refine bL ?_ ⟨_,rfl,line _ (by omega),rfl,aS py ⟨p,rfl,S⟩⟩
    have:vs.length=r.length+1:=lv
    show (0:Int) < (vs.length:Int)
    omega
  rintro ys H' ⟨rfl,py⟩ q hq
  rw [el,List.take_length] at py
  refine ⟨q,_,rfl,.inl ⟨bx.of ah,fun r hr'=>?_⟩⟩
  have s2:=(new (o:=.lst ys) hq).trans (new (o:=.tup ys) hr')
  exact k r ys _ s2 ah (py.aH (aE.of s2))
abbrev nv:Stmt:=top 26
theorem mV:aG ["cases","condition","possible"] ["cases","condition"] (aj nv):=⟨rfl,rfl,rfl,by decide +kernel,rfl,by decide +kernel,by decide +kernel⟩
theorem HY {f:Addr} {fd:FuncData} {Z:Cz} {n:Nat} {TM W fT fW:Addr} {dY dS:List Value} (F:cX K "cases_with" "cases_with" nv f fd) (T:Txt K mg Z.s) (U:gh K mg Z) (XT:dW K mg TM W fT fW dY dS) (iH:Oq P w K mg base TM 9 Z "cases" ["self"] (ud Z TM 3)) (vK:Dn P w K mg base 2 "is_never_met" ["case"] (nj Z.s)) (sG:Dn P w K mg base 1 "without_plain" ["case"] (qz Z.s)) (p8:FI P w K mg base TM 5 "cases_of_both" ["ones","others"] (oJ Z TM)):bu P w K mg base (zy P w TM) 20 f fd ["cases","condition"] (xY Z TM):=by
 obtain ⟨JU,FA,vW,sf,su,vR⟩:=vK
 obtain ⟨FD,ES,sL,qQ,qS,sI⟩:=sG
 obtain ⟨a5S,Ua,gT,gq,gr,gS⟩:=p8
 refine F.NT mV (fun vs H Q E h=>?_) (fun cdv A outer s H vs Q E hr h=>?_)
 ·obtain ⟨o,p,A0,c,rfl,hA,lA,wA,hc,hd,ho,xr,hfu,mU,k1,k2,k3⟩:=h
  rfl
 ·obtain ⟨o,p,A0,c,rfl,hA,lA,wA,hc,hd,ho,xr,hfu,mU,k1,k2,k3⟩:=h
  have hu:=br hr
  rw [show av nv=[_,_] from rfl]
  refine ⟨_,(ao (mw (i:=2) mV.nd rfl (Or.inl rfl) (bq ["case"] [] [] rfl (by decide +kernel) (by decide +kernel) (by with_unfolding_all rfl) (by exact trivial) (by rfl) rfl (by rfl)) rfl (eZ (yw (Z:=Z) (pv 1) U.cl pH iH (hr.mono (by first | decide | omega)) mW)) (fun _ _ _ _=>(aK (i:=0) (show List.Nodup (["case"]:List Str) by decide +kernel) rfl (Or.inl rfl) (Or.inr rfl))) (fun _ _ _ _=>(jK (qI (nR (aB vW (hr.mono (by first | decide | omega)) rfl sf su vR .nil aD (aa (pv 0) ai)))))) (fun _ _ _ _=>(aB sL (hr.mono (by first | decide | omega)) rfl qQ qS sI .nil aD (aa (pv 0) ai))))
   (au (aI (aB gT (hr.mono (by first | decide | omega)) rfl gq gr gS .nil mW (aa (pv 0) (aa (pv 2) ai)))))),?_⟩
  refine ⟨_,rfl,p,c,rfl,hc,p,c,rfl,rfl,hc,hd,ho,xr,hfu,by omega,fun h64 r cs H1 s1 fr hr1 Es ce=>?_,fun h64 H1 s1=>k2 H1 h64 s1⟩
  obtain ⟨rv,er,pr1⟩:=hr1
  have lrv:=ay pr1
  have lcs:cs.length≤64:=by rw [Es.len];exact h64
  refine ⟨r,rfl,⟨_,bx.of er⟩,gy (xs:=rv) (fun j ys H'=>az H1 H'∧Paired (jf Z H') ys (mP (cs.take j))) ⟨az.refl _,.nil⟩ (fun j ys H' _ q=>bx.of (q.1 _ _ er)) ?_ ?_⟩
  ·rintro j v ys H2 hj ⟨s2,py⟩
   obtain ⟨k0,hk0,hv⟩:=aW pr1 hj
   obtain ⟨t,us,rfl,et,pu⟩:=hv.aH (aE.of s2)
   have qu:=ay pu
   have wk:=Es.wg k0 (List.mem_of_getElem? hk0)
   have w5:=ay py
   have V5:=oE (cs.take j)
   have lt2:(cs.take j).length≤cs.length:=by rw [List.length_take];omega
   refine ⟨Ext.one,_,rfl,t,us,k0,rfl,et,pu,by omega,fun H3 s3=>⟨_,rfl,?_⟩⟩
   rw [take_snoc hk0,GR]
   cases hn:k0.any mT with
   | true =>
    refine Mp rfl ⟨s2.trans s3,?_⟩
    rw [if_pos rfl,List.append_nil]
    exact L2.Paired.dh py fun _ _ z=>z.aH (aE.of s3)
   | false =>
    refine NZ rfl ⟨_,rfl,t,us,k0,rfl,s3 _ _ et,L2.Paired.dh pu fun _ _ z=>VG.aH z (aE.of s3),by omega,fun r4 ws H4 s4 e4 sm4=>⟨line _ (by omega),(s2.trans s3).trans s4,?_⟩⟩
    rw [if_neg (by decide)]
    exact aS (L2.Paired.dh py fun _ _ z=>z.aH (aE.of (s3.trans s4))) ⟨r4,ws,rfl,e4,sm4⟩
  rintro ys H2 ⟨s2,py⟩ po hpo
  rw [lrv,List.take_length] at py
  have sP:=new (o:=.lst ys) hpo
  have sA:=(s1.trans s2).trans sP
  have ltc:=oE cs
  refine ⟨_,rfl,_,rfl,o,po,A0,mP cs,rfl,hA.same sA,⟨ys,ah,L2.Paired.dh py fun _ _ z=>z.aH (aE.of sP)⟩,lA,by omega,(fun a ha=>by have:=wA a ha;omega),(fun b hb=>?_),fun hle r5 H5 s5 Qk h5=>k1 r5 cs H5 h64 Es ce hle (sA.trans s5) (sA.free Qk) h5,fun hgt H5 s5=>k3 cs H5 Es ce hgt (sA.trans s5)⟩
  obtain ⟨b0,hb0,rfl⟩:=xV hb
  have:=Es.wg b0 hb0
  have:(b0.filter mS).length≤b0.length:=List.length_filter_le _ _
  omega
abbrev nH:Stmt:=top 24
theorem jC:aG ["debt","things","cases","count","row"] ["debt"] (aj nH):=⟨rfl,rfl,rfl,by decide +kernel,rfl,by decide +kernel,by decide +kernel⟩
theorem Ik {f:Addr} {fd:FuncData} {Z:Cz} {n:Nat} {TM W fT fW:Addr} {dY dS:List Value} (F:cX K "owed" "owed" nH f fd) (T:Txt K mg Z.s) (U:gh K mg Z) (XT:dW K mg TM W fT fW dY dS) {Db:Addr} (W:RT K mg Db) (QM:Dn P w K mg base 3 "once" ["thing"] (Bw Z.s)) (E1:Dn P w K mg base 1 "unknown" ["place"] GY) (lI:Mt P w K mg base 5 Z.s "put_in" ["self","sums"] (tX Z.s)) (fD:M4 P w K mg base 8 Z "put_in" ["self","sums"] (fJ Z 3)) (eE:M4 P w K mg base 5 Z "opposite" ["self"] (gO Z 3)) (MN:FI P w K mg base TM 20 "cases_with" ["cases","condition"] (xY Z TM)):bu P w K mg base (zy P w TM) 21 f fd ["debt"] (yc Z Db TM):=by
 obtain ⟨a5P,W4,Rb,L0,Me,QZ⟩:=QM
 obtain ⟨RK,Qo,Fl,BQ,BX,Fe⟩:=E1
 obtain ⟨JS,EU,g7,pM,gZ⟩:=lI
 obtain ⟨W7,TV,qq,mY,m7,qj⟩:=MN
 refine F.NT jC (fun vs H Q E h=>?_) (fun cdv A outer s H vs Q E hr h=>?_)
 ·obtain ⟨p,rs,c,rfl,hD,hR,hl,hn,P1,k1,k2⟩:=h
  rfl
 ·obtain ⟨p,rs,c,rfl,hD,hR,hl,hn,P1,k1,k2⟩:=h
  have hu:=br hr
  rw [show av nH=[_,_,_,_,_] from rfl]
  refine ⟨_,(ao (aO (i:=1) jC.nd rfl (Or.inl rfl) kQ)
   (ao (aO (i:=2) jC.nd rfl (Or.inl rfl) (bB (aa (bG ai) ai)))
   (ao (aO (i:=3) jC.nd rfl (Or.inl rfl) ak)
   (ao (dP PassesOwn.leaving rfl (cZ (aY (pv 0) rfl)) (aK (i:=4) jC.nd rfl (Or.inl rfl)) (au (bS (aP bV (aM aR (pv 4) ak (fun _ _=>rfl)) aU (aL _)) (ao (jL hu (pv 1) (aM aR (pv 4) ak (fun _ _=>rfl)) (aB Rb (hr.mono (by first | decide | omega)) rfl L0 Me QZ .nil aD (aa (aB Fl (hr.mono (by first | decide | omega)) rfl BQ BX Fe .nil aD (aa (pv 3) ai)) ai)) rfl)
   (au (aO (i:=3) jC.nd rfl (Or.inl rfl) (bg dQ (pv 3) ak)))) (au (bS (aP bV (aM aR (pv 4) ak (fun _ _=>rfl)) aU (aL _)) (au (jL hu (pv 1) (aM aR (pv 4) ak (fun _ _=>rfl)) (gA (aM aR (pv 4) ak (fun _ _=>rfl)) T.cl pM g7 (hr.mono (by first | decide | omega)) gZ .nil aD (aa (pv 1) ai)) rfl)) (au (aO (i:=2) jC.nd rfl (Or.inl rfl) (aB qq (hr.mono (by first | decide | omega)) rfl mY m7 qj .nil mW (aa (pv 2) (aa (z7 (Z:=Z) (aM aR (pv 4) ak (fun _ _=>rfl)) U.cl jl fD (hr.mono (by first | decide | omega)) aD (aa (pv 1) ai)) ai))))))))))
   (au (aI (aB qq (hr.mono (by first | decide | omega)) rfl mY m7 qj .nil mW (aa (pv 2) (aa (z7 (Z:=Z) (kR (Z:=Z) (aY (pv 0) rfl) U.cl iT eE (hr.mono (by first | decide | omega)) aD) U.cl jl fD (hr.mono (by first | decide | omega)) aD (aa (pv 1) ai)) ai))))))))),?_⟩
  obtain ⟨dx,k0,a,h,us,vc,hp,hh,hrw,RE⟩:=hD
  have L7:=ay hrw
  intro d hd
  refine ⟨Nat.zero_le _,fun t0 ht0=>⟨(Nat.le_of_lt (line 1 (by decide))),fun UE P6=>?_⟩⟩
  have hd0:H d=none:=hd
  have s1:=((new (o:=.dK []) hd).trans (new (o:=.tup []) ht0)).trans (new (o:=.lst [V.ref t0]) P6)
  have ed:(upd (upd (upd H d (.dK [])) t0 (.tup [])) UE (.lst [V.ref t0])) d=some (.dK []):=new P6 _ _ (new ht0 _ _ ah)
  have ecs:cQ Z (upd (upd (upd H d (.dK [])) t0 (.tup [])) UE (.lst [V.ref t0])) UE [[]]:=⟨_,ah,.cons ⟨t0,[],rfl,new P6 _ _ ah,.nil⟩ .nil⟩
  generalize upd (upd (upd H d (.dK [])) t0 (.tup [])) UE (.lst [V.ref t0])=H1 at s1 ed ecs ⊢
  refine ⟨_,rfl,p,Db,dx,_,_,rfl,s1 _ _ hp,W.cd,W.nd _ (by decide +kernel),qX _ _ _ _,h,rfl,⟨us,aV.of (s1 _ _ hh)⟩,pY (xs:=us) (fun i σ H'=>∃ (kvs:List (Key×V)) (cs:Addr) (s:Oz) (o4:Option V),σ=[some (.ref p),some (.ref d),some (.ref cs),some (.int (s.m:Int)),o4]∧az H H'∧H' d=some (.dK kvs)∧Rl (Ku Z.s H') kvs s.S∧cQ Z H' cs s.A∧OI (rs.take i) s) ⟨[],UE,⟨[],0,[[]]⟩,none,rfl,s1,ed,.nil,ecs,OI.nil⟩ (fun i σ H' _ ⟨_,_,_,_,_,q,_⟩=>aV.of (q _ _ hh)) ?_ ?_⟩
  ·rintro i v σ H2 hi ⟨kvs,cs,s,o4,rfl,s2,Oe,rl,MK,I⟩
   obtain ⟨r,mE,pT⟩:=aW hrw hi
   have pT:=pT.aH (aE.of s2)
   have hok:=hR i r mE
   have il:i < rs.length:=(List.getElem?_eq_some_iff.mp mE).1
   have ltk:(rs.take i).length=i:=by rw [List.length_take];omega
   have an:=mK i rs
   have em:=I.m
   have few:=I.few (by omega)
   have lk:=rl.len
   have kz:kvs.length < sizeLine:=line _ (by have:=I.sl;omega)
   have dput:∀ (x:Str) (q:Addr) (m:Sm) (H3:Hp),az H2 H3→bO Z.s H3 q m.1 m.2 →
     az H (upd H3 d (.dK (putK kvs (Sum.inr x) (V.ref q))))∧Rl (Ku Z.s (upd H3 d (.dK (putK kvs (Sum.inr x) (V.ref q))))) (putK kvs (Sum.inr x) (V.ref q)) (iy s.S x m)∧cQ Z (upd H3 d (.dK (putK kvs (Sum.inr x) (V.ref q)))) cs s.A:=fun x q m H3 s3 S3=>by
    have ed3:=s3 _ _ Oe
    have b3:bI d H3 (upd H3 d (.dK (putK kvs (Sum.inr x) (V.ref q)))):=bI.upd
    have hk:aE H3 (upd H3 d (.dK (putK kvs (Sum.inr x) (V.ref q)))):=aE.soft b3 ed3 OU
    refine ⟨fun b o z=>b3 _ _ (s3 _ _ (s2 _ _ z)) (aq z hd0),Rl.put (rl.mono fun u q z=>(bO.same z s3).aH hk) (S3.aH hk),?_⟩
    obtain ⟨w1,e1,p1⟩:=MK
    refine ⟨w1,?_,L2.Paired.dh p1 fun _ _ z=>(z.aH (aE.of s3)).aH hk⟩
    rw [aA (mX (s3 _ _ e1) ed3 (by intro z;cases z))]
    exact s3 _ _ e1
   cases r with
   | any x =>
    obtain ⟨pr,rfl,ep⟩:=pT
    have em1:s.m < 19:=by
     have:=mK (i+1) rs
     rw [take_snoc mE,cW] at this
     have:cG (rs.take i)+1≤cG rs:=this
     omega
    refine ⟨_,rfl,pr,_,0,_,rfl,rfl,aV.of ep,rfl,rfl,_,rfl,bL rfl ?_⟩
    refine ⟨_,rfl,s.m,rfl,by omega,uk s.m,rfl,fun q H3 s3 S3=>?_⟩
    refine ⟨_,rfl,_,rfl,pr,_,1,_,rfl,rfl,aV.of (s3 _ _ ep),rfl,d,_,rfl,we.k (k:=Sum.inr x) (s3 _ _ Oe) kz,?_⟩
    obtain ⟨z1,z2,z3⟩:=dput x q ([(uk s.m,1)],0) H3 s3 S3
    refine ⟨_,rfl,_,_,rfl,rfl,?_⟩
    exact ⟨_,cs,⟨iy s.S x ([(uk s.m,1)],0),s.m+1,s.A⟩,_,rfl,z1,ah,z2,z3,by rw [take_snoc mE];exact I.any x⟩
   | lt x b c0 =>
    obtain ⟨pr,q0,rfl,ep,Sq⟩:=pT
    refine ⟨_,rfl,pr,_,0,_,rfl,rfl,aV.of ep,rfl,rfl,_,rfl,aZ (bh (by decide +kernel)) ?_⟩
    refine ⟨_,rfl,pr,_,0,_,rfl,rfl,aV.of ep,rfl,rfl,_,rfl,bL rfl ?_⟩
    obtain ⟨dxq,tq,eq0,_,_⟩:=id Sq
    refine ⟨_,rfl,pr,_,2,_,rfl,rfl,aV.of ep,rfl,q0,dxq,_,rfl,eq0,dM _ _ (by decide +kernel) (by decide +kernel),_,rfl,q0,d,b,c0,kvs,s.S,rfl,Sq,.inl Oe,rl,hok.2.1,few,fun q us3 H3 s3 g3 S3=>?_⟩
    refine ⟨_,rfl,_,rfl,pr,_,1,_,rfl,rfl,aV.of (s3 _ _ ep),rfl,d,_,rfl,we.k (k:=Sum.inr x) (s3 _ _ Oe) kz,?_⟩
    obtain ⟨z1,z2,z3⟩:=dput x q (us3,_) H3 s3 S3
    exact ⟨_,cs,⟨iy s.S x (us3,c0+i0 s.S b),s.m,s.A⟩,_,rfl,z1,ah,z2,z3,by rw [take_snoc mE];exact I.lt x (fun p hp=>hok.2.2.1 p hp) g3⟩
   | hold c1 =>
    obtain ⟨pr,q0,rfl,ep,hcq⟩:=pT
    obtain ⟨hge,hfu,KP,mU⟩:=hok
    refine ⟨_,rfl,pr,_,0,_,rfl,rfl,aV.of ep,rfl,rfl,_,rfl,aZ (bh (by decide +kernel)) ?_⟩
    refine ⟨_,rfl,pr,_,0,_,rfl,rfl,aV.of ep,rfl,rfl,_,rfl,aZ (bh (by decide +kernel)) ?_⟩
    refine ⟨_,rfl,_,rfl,pr,_,1,_,rfl,rfl,aV.of ep,rfl,q0,c1,rfl,hcq,_,rfl,q0,d,c1,kvs,s.S,rfl,rfl,hcq,KP,Ge.l3 hge,.inl Oe,rl,few,fun v' c' H3 s3 zA hv'=>?_⟩
    obtain ⟨p3,rfl⟩:=cu hv'
    obtain ⟨b1,b2,b3,b4,b5,b6,b7⟩:=oV (U:=xU s.m) (by rw [xT];omega) I.OW (mH (fun x hx=>(I.ks x).mpr hx) (Ge.Mn hge)) (Ge.ok hge) hfu zA
    refine ⟨cs,p3,s.A,c',rfl,MK.same s3,I.RA,(fun k hk=>by have:=(I.wg k hk).1;omega),hv',by omega,b1,b2,b3,by omega,fun r4 cc H4 h64 Es ce hle s4 W0 h4=>?_,fun H4 h64 s4=>?_,fun cc H4 Es ce hgt s4=>?_⟩
    ·have K9:=s3.trans s4
     exact ⟨kvs,r4,⟨s.S,s.m,bC s.A (mP cc)⟩,_,rfl,s2.trans K9,K9 _ _ Oe,rl.mono fun u q z=>bO.same z K9,h4,by rw [take_snoc mE];exact I.hold hge mU zA b6 (b7 false) b4 Es ce h64 hle⟩
    ·exact k2 (z9 I.run mE (by rw [qJ zA];exact xC h64)) (I.raise hR P1 mE (.inl (by rw [← b7 false];exact h64))) H4 ((s2.trans s3).trans s4)
    ·refine k2 (z9 I.run mE (by rw [qJ zA];exact xB ce hgt)) (I.raise hR P1 mE (.inr ?_)) H4 ((s2.trans s3).trans s4)
     have:=Nat.mul_le_mul_left s.A.length (oE cc)
     rw [Es.len,b7 false] at this
     omega
  ·rintro σ H2 ⟨kvs,cs,s,o4,rfl,s2,Oe,rl,MK,I⟩
   rw [L7,List.take_length] at I
   obtain ⟨hge,hfu,KP,mU⟩:=id P1
   have few:=I.few (by omega)
   have em:=I.m
   have hok:c.ok:=Ge.ok hge
   obtain ⟨a1,a2,a3,a4,a5,a6⟩:=oZ hok (Ge.kC hge) hfu
   have P5:=RE.aH (aE.of s2)
   obtain ⟨pv,rfl⟩:=cu P5
   refine ⟨_,rfl,_,rfl,p,Db,dx,_,_,rfl,s2 _ _ hp,W.cd,W.nd _ (by decide +kernel),AJ _ _ _ _,pv,c,rfl,P5,pv,c,rfl,rfl,P5,KP,hok,fun v3 H3 s3 hv3=>?_⟩
   obtain ⟨p3,rfl⟩:=cu hv3
   refine ⟨p3,c.gi,rfl,hv3,_,rfl,p3,d,c.gi,kvs,s.S,rfl,rfl,hv3,by omega,(HU (Ge.l3 hge)),.inl (s3 _ _ Oe),rl.mono fun u q z=>bO.same z s3,few,fun v4 c' H4 s4 zA hv4=>?_⟩
   obtain ⟨p4,rfl⟩:=cu hv4
   obtain ⟨b1,b2,b3,b4,b5,b6,b7⟩:=oV (U:=xU s.m) (by rw [xT];omega) I.OW (mH (fun x hx=>(I.ks x).mpr hx) (a6 _ (Ge.Mn hge))) a1 a3 zA
   have en:c'.cz false=c.cz true:=by rw [b7 false,sV c false hok];rfl
   have K9:=s3.trans s4
   refine ⟨cs,p4,s.A,c',rfl,MK.same K9,I.RA,(fun k hk=>by have:=(I.wg k hk).1;omega),hv4,by omega,b1,b2,b3,by omega,fun r5 cc H5 h64 Es ce hle s5 Qk h5=>?_,fun H5 h64 s5=>?_,fun cc H5 Es ce hgt s5=>?_⟩
   ·obtain ⟨f1,f2⟩:=I.fin hR P1 zA b6 b4 Es ce h64 hle
    exact k1 _ f1 f2 r5 H5 ((s2.trans K9).trans s5) ((s2.trans K9).free Qk) h5
   ·exact k2 (wW I.run (by rw [qJ zA];exact xC h64)) (I.Hg hR P1 (.inl (by rw [← en];exact h64))) H5 ((s2.trans K9).trans s5)
   ·refine k2 (wW I.run (by rw [qJ zA];exact xB ce hgt)) (I.Hg hR P1 (.inr ?_)) H5 ((s2.trans K9).trans s5)
    have:=Nat.mul_le_mul_left s.A.length (oE cc)
    rw [Es.len,en] at this
    omega
abbrev nP:Stmt:=top 42
theorem cS:aG ["_law_draw","_law_things","_law_rows","_law_known","_law_k","_law_kind","_law_thing"] ["_law_draw","_law_things"] (aj nP):=⟨rfl,rfl,rfl,by decide +kernel,rfl,by decide +kernel,by decide +kernel⟩
theorem IC {f:Addr} {fd:FuncData} {Z:Cz} {n:Nat} {TM W fT fW:Addr} {dY dS:List Value} (F:cX K "_law_ahead" "_law_ahead" nP f fd) (T:Txt K mg Z.s) (U:gh K mg Z) (XT:dW K mg TM W fT fW dY dS) (gw:Dn P w K mg base 2 "_law_next" ["_law_draw","_law_size"] jB) (vH:Dn P w K mg base 3 "_law_sum" ["_law_draw","_law_things"] tW) (gH:Dn P w K mg base 5 "_law_condition" ["_law_draw","_law_things","_law_deep"] (jA 2)):bu P w K mg base dX 8 f fd ["_law_draw","_law_things"] uc:=by
 obtain ⟨vB,pZ,cK,bQ,bR,cJ⟩:=gw
 obtain ⟨Qq,MA,AZ,uS,ve,AS⟩:=vH
 obtain ⟨rV,p6,fE,eT,eU,fB⟩:=gH
 refine F.ok cS (fun vs H Q E h=>?_) (fun cdv A outer s H vs Q E hr h=>?_)
 ·obtain ⟨d,l,xs,rfl,hd,hl,x1,x90,EL,k⟩:=h
  rfl
 ·obtain ⟨d,l,xs,rfl,hd,hl,x1,x90,EL,k⟩:=h
  have hu:=br hr
  rw [show av nP=[_,_,_,_] from rfl]
  refine ⟨_,(ao (aO (i:=2) cS.nd rfl (Or.inl rfl) (bB ai))
   (ao (aO (i:=3) cS.nd rfl (Or.inl rfl) (bB ai))
   (ao (dP PassesOwn.never rfl (eO rfl T.range (aa (bg dQ ak (aB cK (hr.mono (by first | decide | omega)) rfl bQ bR cJ .nil aD (aa (pv 0) (aa ak ai)))) ai)) (aK (i:=4) cS.nd rfl (Or.inl rfl)) (ao (aO (i:=5) cS.nd rfl (Or.inl rfl) (aB cK (hr.mono (by first | decide | omega)) rfl bQ bR cJ .nil aD (aa (pv 0) (aa ak ai))))
   (ao (aO (i:=6) cS.nd rfl (Or.inl rfl) (aM bZ (pv 1) (aB cK (hr.mono (by first | decide | omega)) rfl bQ bR cJ .nil aD (aa (pv 0) (aa (bU bX (by rfl) T.len PySem.boot_len (aa (pv 1) ai)) ai))) (fun _ _=>rfl)))
   (au (bS (PW.pt (uB (aP (wY (uN hr)) (pv 3) (bB ai) (aL _)) (nQ (aP uH (pv 5) ak (aL _))))) (ao (cT (iS PySem.F.plainAttrs_list PySem.F.slot_list_append PySem.F.type_list_append eS (pv 2) (aa (aM bZ (bB (aa (bG (aa aU (aa (pv 6) ai))) (aa (bG (aa aU (aa (pv 6) (aa (aB AZ (hr.mono (by first | decide | omega)) rfl uS ve AS .nil aD (aa (pv 0) (aa (pv 3) ai))) ai)))) ai))) (bz fz (by rfl) T.int boot_int (aa (uF (bK (pB (uN hr)) (pv 3) (bB ai) (aL _)) (nU (bK bV (pv 5) ak (aL _)))) ai)) (fun _ _=>rfl)) ai)))
   (au (bS (PW.pt (uB (aP bV (aM aR (aM bZ (pv 2) (uD nh ak) (fun _ _=>rfl)) ak (fun _ _=>rfl)) aU (aL _)) (nQ (aP bV (aM aR (aM bZ (pv 2) (uD nh ak) (fun _ _=>rfl)) ak (fun _ _=>rfl)) aU (aL _))))) (au (aO (i:=3) cS.nd rfl (Or.inl rfl) (bg uI (pv 3) (bg BH (bB (aa (pv 6) ai)) (bz fz (by rfl) T.int boot_int (aa (bK jN (pv 6) (pv 3) (by rfl)) ai)))))) bE))) (au (bS (aP bV (pv 5) ak (aL _)) (ao (cT (iS PySem.F.plainAttrs_list PySem.F.slot_list_append PySem.F.type_list_append eS (pv 2) (aa (bG (aa aU (aa (pv 6) (aa (aB AZ (hr.mono (by first | decide | omega)) rfl uS ve AS .nil aD (aa (pv 0) (aa (pv 3) ai))) ai)))) ai)))
   (au (aO (i:=3) cS.nd rfl (Or.inl rfl) (bg uI (pv 3) (bg BH (bB (aa (pv 6) ai)) (bz fz (by rfl) T.int boot_int (aa (bK jN (pv 6) (pv 3) (by rfl)) ai))))))) (au (cT (iS PySem.F.plainAttrs_list PySem.F.slot_list_append PySem.F.type_list_append eS (pv 2) (aa (bG (aa aU (aa (aB fE (hr.mono (by first | decide | omega)) rfl eT eU fB .nil aD (aa (pv 0) (aa (pv 3) (aa ak ai)))) ai))) ai)))))))))))
   (au (aI (bG (aa (pv 2) (aa (pv 3) ai)))))))),?_⟩
  refine ⟨Nat.zero_le _,fun rw' hrw=>⟨Nat.zero_le _,fun kn0 hkn=>?_⟩⟩
  have Tz:=gE hkn
  have nrk:rw'≠kn0:=aq ah hkn
  have ID:rw'≠d:=hd.ne hrw
  have a2s:kn0≠d:=hd.ne Tz
  have BL:l≠d:=by
   obtain ⟨x,y,ed⟩:=hd
   refine mX hl ed fun z=>?_
   cases xs with
   | nil=>exact absurd x1 (by decide)
   | cons a b=>cases z
  have lrw:l≠rw':=aq hl hrw
  have sA:=(new (o:=.lst []) hrw).trans (new (o:=.lst []) hkn)
  refine ⟨_,rfl,d,6,rfl,hd.same sA,(by decide),fun r0 H1 h0 b1 d1=>⟨_,_,rfl,rfl,?_⟩⟩
  refine ⟨((2+r0:Nat):Int),(by rw [Int.natCast_add];rfl),by omega,by omega,g9 (n:=(((2+r0:Nat):Int)).toNat) (fun i σ H'=>∃ (rT:Addr) (rs:List Rw) (us:List V) (ks:List Str) (a4 a5 a6:Option V),σ=[some (.ref d),some (.ref l),some (.ref rw'),some (.ref rT),a4,a5,a6]∧bI d H H'∧Dr H' d∧H' rw'=some (.lst us)∧gK H' us rs∧oA rs∧rs.length≤i∧H' rT=some (.lst (ks.map V.str))∧(0 < i→1≤ks.length)∧ks.length≤i∧(∀ x∈ks,x∈gY rs∧x.length≤100)∧H rT=none∧rT≠rw') ⟨kn0,[],[],[],none,none,none,rfl,(bI.of sA).trans b1,d1,b1 _ _ (new hkn _ _ ah) ID,.nil,oA.nil,Nat.le_refl _,b1 _ _ ah a2s,(fun h=>absurd h (Nat.lt_irrefl _)),Nat.le_refl _,(fun x h=>nomatch h),Tz,nrk.symm⟩ ?_ ?_⟩
  ·rintro i σ H2 hi ⟨rT,rs,us,ks,a4,a5,a6,rfl,F,D,er,R2,Cf,rl,ek,WU,kl,jb,hkf,Pw⟩
   have hi:i < 2+r0:=hi
   have LV:rT≠d:=hd.ne hkf
   refine ⟨_,rfl,d,5,rfl,D,(by decide),fun r1 H3 h1 b3 d3=>?_⟩
   have lz:(xs.map V.str).length=xs.length:=List.length_map ..
   refine ⟨_,rfl,_,rfl,_,rfl,l,_,rfl,.inl (bx.of (b3 _ _ (F _ _ hl BL) BL)),d,_,rfl,d3,by rw [lz];omega,fun r2 H4 h2 b4 d4=>?_⟩
   rw [lz] at h2
   obtain ⟨x,hx,hxm⟩:∃ x:Str,(xs.map V.str)[r2]?=some (V.str x)∧x∈xs:=by
    have hr2:r2 < xs.length:=by omega
    exact ⟨xs[r2],by rw [List.getElem?_map,List.getElem?_eq_getElem hr2];rfl,List.getElem_mem hr2⟩
   have Q4:bI d H2 H4:=b3.trans b4
   have F4:=F.trans Q4
   refine ⟨l,_,_,_,rfl,rfl,bx.of (F4 _ _ hl BL),dJ hx,?_⟩
   have er4:=Q4 _ _ er ID
   have Ux:=Q4 _ _ ek LV
   have R4:=aN R2 (D.soft Q4)
   have qu:=ay R2
   have KY:=EL x hxm
   clear b3 b4 d3 hx R2 F D er ek Q4
   by_cases hks:ks=[]
   ·refine ⟨_,rfl,Nat.zero_le _,fun e0 Fy=>⟨rT,e0,_,rfl,rfl,bx.of (new Fy _ _ Ux),bx.of ah,_,rfl,bL (by rw [hks];rfl) (vm ?_)⟩⟩
    have s5:=new (o:=.lst []) Fy
    have EW:=s5 _ _ er4
    have Cw:=s5 _ _ Ux
    have R5:=aN R4 (aE.of s5)
    have D5:=d4.same s5
    have F5:=F4.trans (bI.of s5)
    generalize upd H4 e0 (.lst [])=H5 at s5 EW Cw R5 D5 F5 ⊢
    refine ⟨_,rfl,.inl ⟨rfl,_,bx.of EW⟩,_,rfl,(szl 2),fun t1 ht1=>?_⟩
    have K8:=new (o:=.tup [.str "any",.str x]) ht1
    have nt1:t1≠d:=D5.ne ht1
    refine ⟨_,rfl,_,rfl,_,rfl,d,rT,ks,rfl,D5.same K8,K8 _ _ Cw,by omega,(fun z hz=>(jb z hz).2),fun ra ts n0 H6 b6 d6 Da Ca La Ia Sa=>⟨(szl 3),fun t2 N2=>⟨(szl 2),fun q hq=>?_⟩⟩⟩
    have s7:=(new (o:=.tup [.str "let",.str x,.ref ra]) N2).trans (new (o:=.lst [V.ref t1,.ref t2]) hq)
    have yY:(upd (upd H6 t2 (.tup [.str "let",.str x,.ref ra])) q (.lst [V.ref t1,.ref t2])) t2=some (.tup [.str "let",.str x,.ref ra]):=new hq _ _ ah
    have Us:(upd (upd H6 t2 (.tup [.str "let",.str x,.ref ra])) q (.lst [V.ref t1,.ref t2])) q=some (.lst [V.ref t1,.ref t2]):=ah
    generalize upd (upd H6 t2 (.tup [.str "let",.str x,.ref ra])) q (.lst [V.ref t1,.ref t2])=H7 at s7 yY Us ⊢
    have VA:bI d H5 H7:=((bI.of K8).trans b6).trans (bI.of s7)
    have D7:=d6.same s7
    refine ⟨_,rfl,Nat.zero_le _,fun e1 Mv=>?_⟩
    have s8:=new (o:=.lst []) Mv
    have bA:=VA.trans (bI.of s8)
    have Qy:=s8 _ _ (s7 _ _ (b6 _ _ ah nt1))
    have yY:=s8 _ _ yY
    have RN:=s8 _ _ Us
    have AG:=bA _ _ EW ID
    have FF:=bA _ _ Cw LV
    have R9:=aN R5 (D5.soft bA)
    have D9:=D7.same s8
    have F9:=F5.trans bA
    have KW:=(Da.aH (aE.of s7)).aH (aE.of s8)
    refine ⟨rT,e1,_,rfl,rfl,bx.of (new Mv _ _ (s7 _ _ (b6 _ _ (K8 _ _ Cw) LV))),bx.of ah,_,rfl,?_⟩
    generalize upd H7 e1 (.lst [])=H9 at s8 bA Qy yY RN AG FF R9 D9 F9 KW ⊢
    refine Mp (by rw [hks];rfl) (.inr ⟨false,rfl,q,_,_,V.ref t1,rfl,rfl,bx.of RN,rfl,rw',_,_,rfl,rfl,AG,line _ (by omega),?_⟩)
    have MH:=Qy
    have ou:bI rw' H9 (upd H9 rw' (.lst (us++[.ref t1]))):=bI.upd
    have hk:aE H9 (upd H9 rw' (.lst (us++[.ref t1]))):=aE.soft ou AG fK
    have iK:(upd H9 rw' (.lst (us++[.ref t1]))) rw'=some (.lst (us++[.ref t1])):=ah
    have kq:=ou _ _ FF Pw
    have zC:Dr (upd H9 rw' (.lst (us++[.ref t1]))) d:=by
     obtain ⟨y,z,q0⟩:=D9
     exact ⟨y,z,ou _ _ q0 ID.symm⟩
    have wK:bI d H (upd H9 rw' (.lst (us++[.ref t1]))):=fun b o z nb=>ou b o (F9 b o z nb) (aq z hrw)
    have Ef:gK (upd H9 rw' (.lst (us++[.ref t1]))) (us++[.ref t1]) (rs++[(.any x)]):=aS (aN R9 hk) (fu.aH hk (r:=(.any x)) (⟨t1,rfl,Qy⟩:fu H9 (.ref t1) (.any x)))
    have qW:=hk.t _ _ MH
    have pV:oA (rs++[(.any x)]):=Cf.snoc trivial
    generalize upd H9 rw' (.lst (us++[.ref t1]))=Yb at hk iK kq zC wK Ef qW ou ⊢
    have NX:((us++[V.ref t1]))[(us++[V.ref t1]).length - 1]?=some (V.ref t1):=by simp
    have NW:0 < (us++[V.ref t1]).length:=by rw [List.length_append];exact Nat.succ_pos _
    refine ⟨_,rfl,_,rfl,rw',_,_,_,rfl,rfl,bx.of iK,zg NW NX,t1,_,0,_,rfl,rfl,aV.of qW,rfl,rfl,_,rfl,bL rfl (vm ?_)⟩
    refine ⟨_,rfl,_,rfl,(Nat.le_of_lt (line 1 (by decide))),fun q1 hq1=>?_⟩
    have G6:=new (o:=.lst [V.str x]) hq1
    refine ⟨_,rfl,_,rfl,rT,_,rfl,.inl (bx.of (G6 _ _ kq)),rfl,dO _,.inr ⟨_,rfl,?_⟩⟩
    obtain ⟨m,hm,hm1⟩:∃ m:Nat,(if (if true=true then !m8 (V.str x) (ks.map V.str) else m8 (V.str x) (ks.map V.str))=true then (1:Int) else 0)=(m:Int)∧ks.map V.str++(List.replicate m [V.str x]).flatten=(ku ks x).map V.str∧m≤1:=by
     unfold ku
     by_cases z:x∈ks
     ·refine ⟨0,?_,?_,by omega⟩
      ·rw [if_pos rfl,dR,decide_eq_true z];rfl
      ·rw [if_pos z];exact List.append_nil _
     ·refine ⟨1,?_,?_,by omega⟩
      ·rw [if_pos rfl,dR,decide_eq_false z];rfl
      ·rw [if_neg z,List.map_append];rfl
    rw [hm]
    refine ⟨q1,(m:Int),[V.str x],rfl,rfl,ah,by omega,by omega,(by show 1*_≤sizeLine;exact Nat.le_of_lt (line _ (by omega))),fun q2 hq2=>?_⟩
    have s12:=G6.trans (new (o:=.lst (List.replicate (m:Int).toNat [V.str x]).flatten) hq2)
    have PM:((List.replicate (m:Int).toNat [V.str x]).flatten).length=m*1:=len_rep _ _
    refine ⟨rT,q2,_,_,rfl,rfl,s12 _ _ kq,ah,(by rw [PM,List.length_map];exact Nat.le_of_lt (line _ (by omega))),fun q3 oz=>?_⟩
    have yq:=s12.trans (new (o:=.lst (ks.map V.str++(List.replicate (m:Int).toNat [V.str x]).flatten)) oz)
    have al:=qm ks x
    exact ⟨q3,rs++[(.any x)],us++[.ref t1],ku ks x,_,_,_,rfl,wK.trans (bI.of yq),zC.same yq,yq _ _ iK,aN Ef (aE.of yq),pV,(by rw [List.length_append];show rs.length+1≤_;omega),(by rw [ah];exact congrArg (fun z=>some (HO.lst z)) hm1.1),(fun _=>ql ks x),by omega,(fun y hy=>⟨by rw [ee];exact List.mem_append.mpr ((gJ hy).elim (fun z=>.inl (jb y z).1) fun z=>.inr (List.mem_singleton.mpr z)),(gJ hy).elim (fun z=>(jb y z).2) fun z=>z ▸ KY⟩),wK.was zC (s12.free oz),(fun z=>by rw [z] at oz;rw [s12 _ _ iK] at oz;cases oz)⟩
   ·refine ⟨_,rfl,Nat.zero_le _,fun e0 Fy=>⟨rT,e0,_,rfl,rfl,bx.of (new Fy _ _ Ux),bx.of ah,_,rfl,aZ (fun z=>hks (List.map_eq_nil_iff.mp z)) ?_⟩⟩
    have hnn:(!decide (ks.map V.str=[]))=true:=by rw [decide_eq_false (fun z=>hks (List.map_eq_nil_iff.mp z))];rfl
    by_cases hk2:r1 < 2
    ·refine ⟨_,rfl,_,_,rfl,rfl,_,rfl,bL (by omega) ?_⟩
     have s5:=new (o:=.lst []) Fy
     have EW:=s5 _ _ er4
     have Cw:=s5 _ _ Ux
     have R5:=aN R4 (aE.of s5)
     have D5:=d4.same s5
     have F5:=F4.trans (bI.of s5)
     generalize upd H4 e0 (.lst [])=H5 at s5 EW Cw R5 D5 F5 ⊢
     refine ⟨_,rfl,.inl ⟨rfl,_,bx.of EW⟩,_,rfl,(szl 2),fun t1 ht1=>?_⟩
     have K8:=new (o:=.tup [.str "any",.str x]) ht1
     have nt1:t1≠d:=D5.ne ht1
     refine ⟨_,rfl,_,rfl,_,rfl,d,rT,ks,rfl,D5.same K8,K8 _ _ Cw,by omega,(fun z hz=>(jb z hz).2),fun ra ts n0 H6 b6 d6 Da Ca La Ia Sa=>⟨(szl 3),fun t2 N2=>⟨(szl 2),fun q hq=>?_⟩⟩⟩
     have s7:=(new (o:=.tup [.str "let",.str x,.ref ra]) N2).trans (new (o:=.lst [V.ref t1,.ref t2]) hq)
     have yY:(upd (upd H6 t2 (.tup [.str "let",.str x,.ref ra])) q (.lst [V.ref t1,.ref t2])) t2=some (.tup [.str "let",.str x,.ref ra]):=new hq _ _ ah
     have Us:(upd (upd H6 t2 (.tup [.str "let",.str x,.ref ra])) q (.lst [V.ref t1,.ref t2])) q=some (.lst [V.ref t1,.ref t2]):=ah
     generalize upd (upd H6 t2 (.tup [.str "let",.str x,.ref ra])) q (.lst [V.ref t1,.ref t2])=H7 at s7 yY Us ⊢
     have VA:bI d H5 H7:=((bI.of K8).trans b6).trans (bI.of s7)
     have D7:=d6.same s7
     refine ⟨_,rfl,Nat.zero_le _,fun e1 Mv=>?_⟩
     have s8:=new (o:=.lst []) Mv
     have bA:=VA.trans (bI.of s8)
     have Qy:=s8 _ _ (s7 _ _ (b6 _ _ ah nt1))
     have yY:=s8 _ _ yY
     have RN:=s8 _ _ Us
     have AG:=bA _ _ EW ID
     have FF:=bA _ _ Cw LV
     have R9:=aN R5 (D5.soft bA)
     have D9:=D7.same s8
     have F9:=F5.trans bA
     have KW:=(Da.aH (aE.of s7)).aH (aE.of s8)
     refine ⟨rT,e1,_,rfl,rfl,bx.of (new Mv _ _ (s7 _ _ (b6 _ _ (K8 _ _ Cw) LV))),bx.of ah,_,rfl,?_⟩
     generalize upd H7 e1 (.lst [])=H9 at s8 bA Qy yY RN AG FF R9 D9 F9 KW ⊢
     refine NZ hnn ⟨_,rfl,rfl,.inr ⟨_,rfl,?_⟩⟩
     by_cases yU:r1=1
     ·refine ⟨q,_,_,V.ref t2,rfl,rfl,bx.of RN,(by rw [yU];rfl),rw',_,_,rfl,rfl,AG,line _ (by omega),?_⟩
      have MH:=yY
      have ou:bI rw' H9 (upd H9 rw' (.lst (us++[.ref t2]))):=bI.upd
      have hk:aE H9 (upd H9 rw' (.lst (us++[.ref t2]))):=aE.soft ou AG fK
      have iK:(upd H9 rw' (.lst (us++[.ref t2]))) rw'=some (.lst (us++[.ref t2])):=ah
      have kq:=ou _ _ FF Pw
      have zC:Dr (upd H9 rw' (.lst (us++[.ref t2]))) d:=by
       obtain ⟨y,z,q0⟩:=D9
       exact ⟨y,z,ou _ _ q0 ID.symm⟩
      have wK:bI d H (upd H9 rw' (.lst (us++[.ref t2]))):=fun b o z nb=>ou b o (F9 b o z nb) (aq z hrw)
      have Ef:gK (upd H9 rw' (.lst (us++[.ref t2]))) (us++[.ref t2]) (rs++[(.lt x ts n0)]):=aS (aN R9 hk) (fu.aH hk (r:=(.lt x ts n0)) (⟨t2,ra,rfl,yY,KW⟩:fu H9 (.ref t2) (.lt x ts n0)))
      have qW:=hk.t _ _ MH
      have pV:oA (rs++[(.lt x ts n0)]):=Cf.snoc (show Gs (gY rs) ts n0 from ⟨Ca,La,fun p hp=>(jb _ (Ia p hp)).1,Sa⟩)
      generalize upd H9 rw' (.lst (us++[.ref t2]))=Yb at hk iK kq zC wK Ef qW ou ⊢
      have NX:((us++[V.ref t2]))[(us++[V.ref t2]).length - 1]?=some (V.ref t2):=by simp
      have NW:0 < (us++[V.ref t2]).length:=by rw [List.length_append];exact Nat.succ_pos _
      refine ⟨_,rfl,_,rfl,rw',_,_,_,rfl,rfl,bx.of iK,zg NW NX,t2,_,0,_,rfl,rfl,aV.of qW,rfl,rfl,_,rfl,aZ (bh (by decide +kernel)) ?_⟩
      refine ⟨_,rfl,_,rfl,rw',_,_,_,rfl,rfl,bx.of iK,zg NW NX,t2,_,0,_,rfl,rfl,aV.of qW,rfl,rfl,_,rfl,bL rfl ?_⟩
      refine ⟨_,rfl,_,rfl,(Nat.le_of_lt (line 1 (by decide))),fun q1 hq1=>?_⟩
      have G6:=new (o:=.lst [V.str x]) hq1
      refine ⟨_,rfl,_,rfl,rT,_,rfl,.inl (bx.of (G6 _ _ kq)),rfl,dO _,.inr ⟨_,rfl,?_⟩⟩
      obtain ⟨m,hm,hm1⟩:∃ m:Nat,(if (if true=true then !m8 (V.str x) (ks.map V.str) else m8 (V.str x) (ks.map V.str))=true then (1:Int) else 0)=(m:Int)∧ks.map V.str++(List.replicate m [V.str x]).flatten=(ku ks x).map V.str∧m≤1:=by
       unfold ku
       by_cases z:x∈ks
       ·refine ⟨0,?_,?_,by omega⟩
        ·rw [if_pos rfl,dR,decide_eq_true z];rfl
        ·rw [if_pos z];exact List.append_nil _
       ·refine ⟨1,?_,?_,by omega⟩
        ·rw [if_pos rfl,dR,decide_eq_false z];rfl
        ·rw [if_neg z,List.map_append];rfl
      rw [hm]
      refine ⟨q1,(m:Int),[V.str x],rfl,rfl,ah,by omega,by omega,(by show 1*_≤sizeLine;exact Nat.le_of_lt (line _ (by omega))),fun q2 hq2=>?_⟩
      have s12:=G6.trans (new (o:=.lst (List.replicate (m:Int).toNat [V.str x]).flatten) hq2)
      have PM:((List.replicate (m:Int).toNat [V.str x]).flatten).length=m*1:=len_rep _ _
      refine ⟨rT,q2,_,_,rfl,rfl,s12 _ _ kq,ah,(by rw [PM,List.length_map];exact Nat.le_of_lt (line _ (by omega))),fun q3 oz=>?_⟩
      have yq:=s12.trans (new (o:=.lst (ks.map V.str++(List.replicate (m:Int).toNat [V.str x]).flatten)) oz)
      have al:=qm ks x
      exact ⟨q3,rs++[(.lt x ts n0)],us++[.ref t2],ku ks x,_,_,_,rfl,wK.trans (bI.of yq),zC.same yq,yq _ _ iK,aN Ef (aE.of yq),pV,(by rw [List.length_append];show rs.length+1≤_;omega),(by rw [ah];exact congrArg (fun z=>some (HO.lst z)) hm1.1),(fun _=>ql ks x),by omega,(fun y hy=>⟨by rw [ee];exact List.mem_append.mpr ((gJ hy).elim (fun z=>.inl (jb y z).1) fun z=>.inr (List.mem_singleton.mpr z)),(gJ hy).elim (fun z=>(jb y z).2) fun z=>z ▸ KY⟩),wK.was zC (s12.free oz),(fun z=>by rw [z] at oz;rw [s12 _ _ iK] at oz;cases oz)⟩
     ·have h0':r1=0:=by omega
      refine ⟨q,_,_,V.ref t1,rfl,rfl,bx.of RN,(by rw [h0'];rfl),rw',_,_,rfl,rfl,AG,line _ (by omega),?_⟩
      have MH:=Qy
      have ou:bI rw' H9 (upd H9 rw' (.lst (us++[.ref t1]))):=bI.upd
      have hk:aE H9 (upd H9 rw' (.lst (us++[.ref t1]))):=aE.soft ou AG fK
      have iK:(upd H9 rw' (.lst (us++[.ref t1]))) rw'=some (.lst (us++[.ref t1])):=ah
      have kq:=ou _ _ FF Pw
      have zC:Dr (upd H9 rw' (.lst (us++[.ref t1]))) d:=by
       obtain ⟨y,z,q0⟩:=D9
       exact ⟨y,z,ou _ _ q0 ID.symm⟩
      have wK:bI d H (upd H9 rw' (.lst (us++[.ref t1]))):=fun b o z nb=>ou b o (F9 b o z nb) (aq z hrw)
      have Ef:gK (upd H9 rw' (.lst (us++[.ref t1]))) (us++[.ref t1]) (rs++[(.any x)]):=aS (aN R9 hk) (fu.aH hk (r:=(.any x)) (⟨t1,rfl,Qy⟩:fu H9 (.ref t1) (.any x)))
      have qW:=hk.t _ _ MH
      have pV:oA (rs++[(.any x)]):=Cf.snoc trivial
      generalize upd H9 rw' (.lst (us++[.ref t1]))=Yb at hk iK kq zC wK Ef qW ou ⊢
      have NX:((us++[V.ref t1]))[(us++[V.ref t1]).length - 1]?=some (V.ref t1):=by simp
      have NW:0 < (us++[V.ref t1]).length:=by rw [List.length_append];exact Nat.succ_pos _
      refine ⟨_,rfl,_,rfl,rw',_,_,_,rfl,rfl,bx.of iK,zg NW NX,t1,_,0,_,rfl,rfl,aV.of qW,rfl,rfl,_,rfl,bL rfl (vm ?_)⟩
      refine ⟨_,rfl,_,rfl,(Nat.le_of_lt (line 1 (by decide))),fun q1 hq1=>?_⟩
      have G6:=new (o:=.lst [V.str x]) hq1
      refine ⟨_,rfl,_,rfl,rT,_,rfl,.inl (bx.of (G6 _ _ kq)),rfl,dO _,.inr ⟨_,rfl,?_⟩⟩
      obtain ⟨m,hm,hm1⟩:∃ m:Nat,(if (if true=true then !m8 (V.str x) (ks.map V.str) else m8 (V.str x) (ks.map V.str))=true then (1:Int) else 0)=(m:Int)∧ks.map V.str++(List.replicate m [V.str x]).flatten=(ku ks x).map V.str∧m≤1:=by
       unfold ku
       by_cases z:x∈ks
       ·refine ⟨0,?_,?_,by omega⟩
        ·rw [if_pos rfl,dR,decide_eq_true z];rfl
        ·rw [if_pos z];exact List.append_nil _
       ·refine ⟨1,?_,?_,by omega⟩
        ·rw [if_pos rfl,dR,decide_eq_false z];rfl
        ·rw [if_neg z,List.map_append];rfl
      rw [hm]
      refine ⟨q1,(m:Int),[V.str x],rfl,rfl,ah,by omega,by omega,(by show 1*_≤sizeLine;exact Nat.le_of_lt (line _ (by omega))),fun q2 hq2=>?_⟩
      have s12:=G6.trans (new (o:=.lst (List.replicate (m:Int).toNat [V.str x]).flatten) hq2)
      have PM:((List.replicate (m:Int).toNat [V.str x]).flatten).length=m*1:=len_rep _ _
      refine ⟨rT,q2,_,_,rfl,rfl,s12 _ _ kq,ah,(by rw [PM,List.length_map];exact Nat.le_of_lt (line _ (by omega))),fun q3 oz=>?_⟩
      have yq:=s12.trans (new (o:=.lst (ks.map V.str++(List.replicate (m:Int).toNat [V.str x]).flatten)) oz)
      have al:=qm ks x
      exact ⟨q3,rs++[(.any x)],us++[.ref t1],ku ks x,_,_,_,rfl,wK.trans (bI.of yq),zC.same yq,yq _ _ iK,aN Ef (aE.of yq),pV,(by rw [List.length_append];show rs.length+1≤_;omega),(by rw [ah];exact congrArg (fun z=>some (HO.lst z)) hm1.1),(fun _=>ql ks x),by omega,(fun y hy=>⟨by rw [ee];exact List.mem_append.mpr ((gJ hy).elim (fun z=>.inl (jb y z).1) fun z=>.inr (List.mem_singleton.mpr z)),(gJ hy).elim (fun z=>(jb y z).2) fun z=>z ▸ KY⟩),wK.was zC (s12.free oz),(fun z=>by rw [z] at oz;rw [s12 _ _ iK] at oz;cases oz)⟩
    ·refine ⟨_,rfl,_,_,rfl,rfl,_,rfl,aZ (by omega) ?_⟩
     have s5:=new (o:=.lst []) Fy
     have EW:=s5 _ _ er4
     have Cw:=s5 _ _ Ux
     have R5:=aN R4 (aE.of s5)
     have D5:=d4.same s5
     have F5:=F4.trans (bI.of s5)
     generalize upd H4 e0 (.lst [])=H5 at s5 EW Cw R5 D5 F5 ⊢
     by_cases h2':r1=2
     ·refine ⟨_,rfl,rfl,_,rfl,bL (by rw [h2'];rfl) ?_⟩
      refine ⟨_,rfl,.inl ⟨rfl,_,bx.of EW⟩,_,rfl,_,rfl,_,rfl,d,rT,ks,rfl,D5,Cw,by omega,(fun z hz=>(jb z hz).2),fun ra ts n0 H6 b6 d6 Da Ca La Ia Sa=>⟨(szl 3),fun t2 N2=>?_⟩⟩
      have s7:=new (o:=.tup [.str "let",.str x,.ref ra]) N2
      have bA:=b6.trans (bI.of s7)
      have AG:=bA _ _ EW ID
      have FF:=bA _ _ Cw LV
      have R9:=aN R5 (D5.soft bA)
      have D9:=d6.same s7
      have F9:=F5.trans bA
      have KW:=Da.aH (aE.of s7)
      have yY:(upd H6 t2 (.tup [.str "let",.str x,.ref ra])) t2=some (.tup [.str "let",.str x,.ref ra]):=ah
      generalize upd H6 t2 (.tup [.str "let",.str x,.ref ra])=H9 at s7 bA AG FF R9 D9 F9 KW yY ⊢
      refine ⟨rw',_,_,rfl,rfl,AG,line _ (by omega),?_⟩
      have MH:=yY
      have ou:bI rw' H9 (upd H9 rw' (.lst (us++[.ref t2]))):=bI.upd
      have hk:aE H9 (upd H9 rw' (.lst (us++[.ref t2]))):=aE.soft ou AG fK
      have iK:(upd H9 rw' (.lst (us++[.ref t2]))) rw'=some (.lst (us++[.ref t2])):=ah
      have kq:=ou _ _ FF Pw
      have zC:Dr (upd H9 rw' (.lst (us++[.ref t2]))) d:=by
       obtain ⟨y,z,q0⟩:=D9
       exact ⟨y,z,ou _ _ q0 ID.symm⟩
      have wK:bI d H (upd H9 rw' (.lst (us++[.ref t2]))):=fun b o z nb=>ou b o (F9 b o z nb) (aq z hrw)
      have Ef:gK (upd H9 rw' (.lst (us++[.ref t2]))) (us++[.ref t2]) (rs++[(.lt x ts n0)]):=aS (aN R9 hk) (fu.aH hk (r:=(.lt x ts n0)) (⟨t2,ra,rfl,yY,KW⟩:fu H9 (.ref t2) (.lt x ts n0)))
      have qW:=hk.t _ _ MH
      have pV:oA (rs++[(.lt x ts n0)]):=Cf.snoc (show Gs (gY rs) ts n0 from ⟨Ca,La,fun p hp=>(jb _ (Ia p hp)).1,Sa⟩)
      generalize upd H9 rw' (.lst (us++[.ref t2]))=Yb at hk iK kq zC wK Ef qW ou ⊢
      have NX:((us++[V.ref t2]))[(us++[V.ref t2]).length - 1]?=some (V.ref t2):=by simp
      have NW:0 < (us++[V.ref t2]).length:=by rw [List.length_append];exact Nat.succ_pos _
      refine ⟨_,rfl,_,rfl,(Nat.le_of_lt (line 1 (by decide))),fun q1 hq1=>?_⟩
      have G6:=new (o:=.lst [V.str x]) hq1
      refine ⟨_,rfl,_,rfl,rT,_,rfl,.inl (bx.of (G6 _ _ kq)),rfl,dO _,.inr ⟨_,rfl,?_⟩⟩
      obtain ⟨m,hm,hm1⟩:∃ m:Nat,(if (if true=true then !m8 (V.str x) (ks.map V.str) else m8 (V.str x) (ks.map V.str))=true then (1:Int) else 0)=(m:Int)∧ks.map V.str++(List.replicate m [V.str x]).flatten=(ku ks x).map V.str∧m≤1:=by
       unfold ku
       by_cases z:x∈ks
       ·refine ⟨0,?_,?_,by omega⟩
        ·rw [if_pos rfl,dR,decide_eq_true z];rfl
        ·rw [if_pos z];exact List.append_nil _
       ·refine ⟨1,?_,?_,by omega⟩
        ·rw [if_pos rfl,dR,decide_eq_false z];rfl
        ·rw [if_neg z,List.map_append];rfl
      rw [hm]
      refine ⟨q1,(m:Int),[V.str x],rfl,rfl,ah,by omega,by omega,(by show 1*_≤sizeLine;exact Nat.le_of_lt (line _ (by omega))),fun q2 hq2=>?_⟩
      have s12:=G6.trans (new (o:=.lst (List.replicate (m:Int).toNat [V.str x]).flatten) hq2)
      have PM:((List.replicate (m:Int).toNat [V.str x]).flatten).length=m*1:=len_rep _ _
      refine ⟨rT,q2,_,_,rfl,rfl,s12 _ _ kq,ah,(by rw [PM,List.length_map];exact Nat.le_of_lt (line _ (by omega))),fun q3 oz=>?_⟩
      have yq:=s12.trans (new (o:=.lst (ks.map V.str++(List.replicate (m:Int).toNat [V.str x]).flatten)) oz)
      have al:=qm ks x
      exact ⟨q3,rs++[(.lt x ts n0)],us++[.ref t2],ku ks x,_,_,_,rfl,wK.trans (bI.of yq),zC.same yq,yq _ _ iK,aN Ef (aE.of yq),pV,(by rw [List.length_append];show rs.length+1≤_;omega),(by rw [ah];exact congrArg (fun z=>some (HO.lst z)) hm1.1),(fun _=>ql ks x),by omega,(fun y hy=>⟨by rw [ee];exact List.mem_append.mpr ((gJ hy).elim (fun z=>.inl (jb y z).1) fun z=>.inr (List.mem_singleton.mpr z)),(gJ hy).elim (fun z=>(jb y z).2) fun z=>z ▸ KY⟩),wK.was zC (s12.free oz),(fun z=>by rw [z] at oz;rw [s12 _ _ iK] at oz;cases oz)⟩
     ·refine ⟨_,rfl,rfl,_,rfl,aZ (fun z=>h2' (by have:=V.int.inj z;omega)) ?_⟩
      refine ⟨_,rfl,.inl ⟨rfl,_,bx.of EW⟩,_,rfl,_,rfl,d,rT,1,ks,rfl,by decide,D5,Cw,by omega,(fun z hz=>(jb z hz).2),fun vc cc H6 b6 d6 ht6 KP hgd hfu mU=>⟨(szl 2),fun t2 N2=>?_⟩⟩
      have s7:=new (o:=.tup [.str "hold",vc]) N2
      have bA:=b6.trans (bI.of s7)
      have AG:=bA _ _ EW ID
      have FF:=bA _ _ Cw LV
      have R9:=aN R5 (D5.soft bA)
      have D9:=d6.same s7
      have F9:=F5.trans bA
      have KW:=ht6.aH (aE.of s7)
      have yY:(upd H6 t2 (.tup [.str "hold",vc])) t2=some (.tup [.str "hold",vc]):=ah
      generalize upd H6 t2 (.tup [.str "hold",vc])=H9 at s7 bA AG FF R9 D9 F9 KW yY ⊢
      refine ⟨rw',_,_,rfl,rfl,AG,line _ (by omega),?_⟩
      have MH:=yY
      have Tw:cc.ff≤3:=mU
      have ou:bI rw' H9 (upd H9 rw' (.lst (us++[.ref t2]))):=bI.upd
      have hk:aE H9 (upd H9 rw' (.lst (us++[.ref t2]))):=aE.soft ou AG fK
      have iK:(upd H9 rw' (.lst (us++[.ref t2]))) rw'=some (.lst (us++[.ref t2])):=ah
      have kq:=ou _ _ FF Pw
      have zC:Dr (upd H9 rw' (.lst (us++[.ref t2]))) d:=by
       obtain ⟨y,z,q0⟩:=D9
       exact ⟨y,z,ou _ _ q0 ID.symm⟩
      have wK:bI d H (upd H9 rw' (.lst (us++[.ref t2]))):=fun b o z nb=>ou b o (F9 b o z nb) (aq z hrw)
      have Ef:gK (upd H9 rw' (.lst (us++[.ref t2]))) (us++[.ref t2]) (rs++[(.hold cc)]):=aS (aN R9 hk) (fu.aH hk (r:=(.hold cc)) (⟨t2,vc,rfl,yY,KW⟩:fu H9 (.ref t2) (.hold cc)))
      have qW:=hk.t _ _ MH
      have pV:oA (rs++[(.hold cc)]):=Cf.snoc (show Ge (gY rs) cc∧cc.full∧cc.dep≤3∧cc.ff≤8 from ⟨(Ge.of hgd).mono fun z hz=>(jb z hz).1,hfu,by omega,by omega⟩)
      generalize upd H9 rw' (.lst (us++[.ref t2]))=Yb at hk iK kq zC wK Ef qW ou ⊢
      have NX:((us++[V.ref t2]))[(us++[V.ref t2]).length - 1]?=some (V.ref t2):=by simp
      have NW:0 < (us++[V.ref t2]).length:=by rw [List.length_append];exact Nat.succ_pos _
      exact ⟨rT,rs++[(.hold cc)],us++[.ref t2],ks,_,_,_,rfl,wK,zC,iK,Ef,pV,(by rw [List.length_append];show rs.length+1≤_;omega),kq,(fun _=>List.length_pos_iff.mpr hks),by omega,(fun y hy=>⟨by rw [ee];exact List.mem_append.mpr (.inl (jb y hy).1),(jb y hy).2⟩),hkf,Pw⟩
  ·rintro σ H2 ⟨rT,rs,us,ks,a4,a5,a6,rfl,F,D,er,R2,Cf,rl,ek,WU,kl,jb,hkf,Pw⟩
   have rl:rs.length≤2+r0:=rl
   have kl:ks.length≤2+r0:=kl
   have WU:1≤ks.length:=WU (by show 0 < 2+r0;omega)
   refine ⟨_,rfl,_,rfl,(szl 2),fun r hr'=>?_⟩
   have sr:=new (o:=.tup [.ref rw',.ref rT]) hr'
   exact k r rw' rT us rs ks _ (F.new hr') (D.same sr) (F.was D hr') ah hrw hkf (sr _ _ er) (aN R2 (aE.of sr)) Cf (by omega) (sr _ _ ek) WU (by omega) jb
abbrev jH:Stmt:=top 43
theorem gW:aG ["_law_rows","_law_numbers","_law_found","_law_left","_law_row"] ["_law_rows","_law_numbers"] (aj jH):=⟨rfl,rfl,rfl,by decide +kernel,rfl,by decide +kernel,by decide +kernel⟩
theorem EA {f:Addr} {fd:FuncData} {Z:Cz} {n:Nat} {TM W fT fW:Addr} {dY dS:List Value} (F:cX K "_law_along" "_law_along" jH f fd) (T:Txt K mg Z.s) (U:gh K mg Z) (XT:dW K mg TM W fT fW dY dS) (vG:Dn P w K mg base 1 "_law_value" ["_law_one","_law_numbers"] tZ) (lJ:Dn P w K mg base 4 "_law_holds" ["_law_told_here","_law_numbers"] (ic 3)):bu P w K mg base dX 6 f fd ["_law_rows","_law_numbers"] t9:=by
 obtain ⟨JR,ET,tK,pK,pR,tG⟩:=vG
 obtain ⟨Ue,N9,mL,jo,jt,mJ⟩:=lJ
 refine F.ok gW (fun vs H Q E h=>?_) (fun cdv A outer s H vs Q E hr h=>?_)
 ·obtain ⟨a,b,us,rs,ns,rfl,ha,hT,hR,hl,hb,hn,N5,k1,k2⟩:=h
  rfl
 ·obtain ⟨a,b,us,rs,ns,rfl,ha,hT,hR,hl,hb,hn,N5,k1,k2⟩:=h
  have hu:=br hr
  rw [show av jH=[_,_,_,_] from rfl]
  refine ⟨_,(ao (aO (i:=2) gW.nd rfl (Or.inl rfl) kQ)
   (ao (aO (i:=3) gW.nd rfl (Or.inl rfl) (bz jX (by rfl) T.list boot_list (aa (pv 1) ai)))
   (ao (dP PassesOwn.never rfl (eZ (pv 0)) (aK (i:=4) gW.nd rfl (Or.inl rfl)) (au (bS (aP bV (aM aR (pv 4) ak (fun _ _=>rfl)) aU (aL _)) (au (jL hu (pv 2) (aM aR (pv 4) ak (fun _ _=>rfl)) (iS PySem.F.plainAttrs_list PySem.F.slot_list_pop PySem.F.type_list_pop IK (pv 3) (aa ak ai)) rfl)) (au (bS (aP bV (aM aR (pv 4) ak (fun _ _=>rfl)) aU (aL _)) (au (jL hu (pv 2) (aM aR (pv 4) ak (fun _ _=>rfl)) (aB tK (hr.mono (by first | decide | omega)) rfl pK pR tG .nil aD (aa (aM aR (pv 4) ak (fun _ _=>rfl)) (aa (pv 2) ai))) rfl)) (au (bS (qI (nR (aB mL (hr.mono (by first | decide | omega)) rfl jo jt mJ .nil aD (aa (aM aR (pv 4) ak (fun _ _=>rfl)) (aa (pv 2) ai))))) (au (aI HN)) bE)))))))
   (au (aI (pv 2)))))),?_⟩
  intro fd hfd
  have Uu:=new (o:=.dK []) hfd
  refine ⟨_,rfl,b,_,rfl,.inl (bx.of (Uu _ _ hb)),fun lf WW=>?_⟩
  have a5r:=gE WW
  have nfl:fd≠lf:=aq ah WW
  have sA:=Uu.trans (new (o:=.lst (ns.map V.int)) WW)
  have L7:=ay hT
  refine ⟨_,rfl,a,rfl,⟨us,bx.of (sA _ _ ha)⟩,fS (xs:=us) (fun i σ H'=>∃ (e:Ps) (a4:Option V),σ=[some (.ref a),some (.ref b),some (.ref fd),some (.ref lf),a4]∧az H H'∧H' fd=some (.dK (enc e))∧H' lf=some (.lst ((ns.drop (cG (rs.take i))).map V.int))∧gz (nF ns) (rs.take i)=(e,cG (rs.take i),true)∧(∀ x,x∈keys e↔x∈gY (rs.take i))∧e.length≤i) ⟨[],none,rfl,sA,new WW _ _ ah,ah,rfl,(fun x=>Iff.rfl),Nat.le_refl _⟩ (fun i σ H' _ ⟨_,_,_,q,_⟩=>bx.of (q _ _ ha)) ?_ ?_⟩
  ·rintro i v σ H2 hi ⟨e,a4,rfl,sm,ef,el,N3,hks,a6a⟩
   obtain ⟨r,mE,pT⟩:=aW hT hi
   have pT:=pT.aH (aE.of sm)
   have hok:=hR i r mE
   have il:i < rs.length:=(List.getElem?_eq_some_iff.mp mE).1
   have an:=mK (i+1) rs
   rw [take_snoc mE,cW] at an
   cases r with
   | any x =>
    have an:cG (rs.take i)+1≤cG rs:=an
    obtain ⟨p,rfl,ep⟩:=pT
    generalize hm:cG (rs.take i)=m at an el N3
    have hml:m < ns.length:=by omega
    have hdr:ns.drop m=ns.getD m 0::ns.drop (m+1):=by
     rw [List.drop_eq_getElem_cons hml,List.getD_eq_getElem?_getD,List.getElem?_eq_getElem hml];rfl
    rw [hdr] at el
    refine ⟨_,rfl,p,_,0,_,rfl,rfl,aV.of ep,rfl,rfl,_,rfl,bL rfl ?_⟩
    refine ⟨_,rfl,.inl ⟨rfl,_,bx.of el⟩,lf,_,0,0,_,rfl,rfl,el,(by decide),(by decide),Zp _ _,rfl,?_⟩
    have ep2:(upd H2 lf (.lst (((ns.getD m 0::ns.drop (m+1)).map V.int).eraseIdx 0))) p=some (.tup [.str "any",.str x]):=by rw [aA (mX ep el (by intro w;cases w))];exact ep
    have ef2:(upd H2 lf (.lst (((ns.getD m 0::ns.drop (m+1)).map V.int).eraseIdx 0))) fd=some (.dK (enc e)):=by rw [aA nfl];exact ef
    refine ⟨_,rfl,_,rfl,p,_,1,_,rfl,rfl,aV.of ep2,rfl,fd,_,rfl,we.k (k:=Sum.inr x) ef2 (by rw [jV];exact line _ (by omega)),?_⟩
    have ha1:cG (rs.take (i+1))=m+1:=by rw [take_snoc mE,cW,hm];rfl
    refine ⟨put e x (ns.getD m 0),_,rfl,fun c o z=>?_,?_,?_,?_,?_,?_⟩
    ·rw [aA (aq z hfd),aA (aq z a5r)]
     exact sm _ _ z
    ·rw [ah]
     exact congrArg (fun z=>some (HO.dK z)) (p7 e _ _)
    ·rw [aA nfl.symm,ah,ha1]
     rfl
    ·rw [ha1,take_snoc mE,jT,N3]
     show (put e x (nF ns (uk m)),m+1,true)=_
     rw [NV (by omega)]
    ·rw [take_snoc mE]
     exact lX rfl hks
    ·have:=s9 e x (ns.getD m 0)
     omega
   | lt x ts m =>
    obtain ⟨p,q,rfl,ep,Dq⟩:=pT
    have ha1:cG (rs.take (i+1))=cG (rs.take i):=by rw [take_snoc mE,cW];rfl
    refine ⟨_,rfl,p,_,0,_,rfl,rfl,aV.of ep,rfl,rfl,_,rfl,aZ (bh (by decide +kernel)) ?_⟩
    refine ⟨_,rfl,p,_,0,_,rfl,rfl,aV.of ep,rfl,rfl,_,rfl,bL rfl ?_⟩
    refine ⟨_,rfl,p,_,2,_,rfl,rfl,aV.of ep,rfl,_,rfl,q,fd,ts,e,m,rfl,Dq,ef,hok.2.1,(fun z hz=>(hks _).mpr (hok.2.2.1 z hz)),fun H3 s3=>?_⟩
    refine ⟨_,rfl,_,rfl,p,_,1,_,rfl,rfl,aV.of (s3 _ _ ep),rfl,fd,_,rfl,we.k (k:=Sum.inr x) (s3 _ _ ef) (by rw [jV];exact line _ (by omega)),?_⟩
    refine ⟨put e x (m+bH ts (get e)),_,rfl,fun c o z=>?_,?_,?_,?_,?_,?_⟩
    ·rw [aA (aq z hfd)]
     exact s3 _ _ (sm _ _ z)
    ·rw [ah]
     exact congrArg (fun z=>some (HO.dK z)) (p7 e _ _)
    ·rw [aA nfl.symm,ha1]
     exact s3 _ _ el
    ·rw [ha1,take_snoc mE,jT,N3]
     rfl
    ·rw [take_snoc mE]
     exact lX rfl hks
    ·have:=s9 e x (m+bH ts (get e))
     omega
   | hold c =>
    obtain ⟨p,q,rfl,ep,hq⟩:=pT
    have ha1:cG (rs.take (i+1))=cG (rs.take i):=by rw [take_snoc mE,cW];rfl
    refine ⟨_,rfl,p,_,0,_,rfl,rfl,aV.of ep,rfl,rfl,_,rfl,aZ (bh (by decide +kernel)) ?_⟩
    refine ⟨_,rfl,p,_,0,_,rfl,rfl,aV.of ep,rfl,rfl,_,rfl,aZ (bh (by decide +kernel)) ?_⟩
    refine ⟨_,rfl,p,_,1,_,rfl,rfl,aV.of ep,rfl,_,rfl,q,fd,c,gY (rs.take i),e,rfl,hq,hok.2.2.1,hok.1,ef,(fun z hz=>(hks _).mpr hz),fun H3 s3=>⟨_,rfl,?_⟩⟩
    have hg1:gz (nF ns) (rs.take (i+1))=(e,cG (rs.take i),c.holds (get e)):=by
     rw [take_snoc mE,jT,N3]
     show (e,_,(true && c.holds (get e)))=_
     rw [Bool.true_and]
    cases hh:c.holds (get e) with
    | true =>
     refine Mp rfl ⟨e,_,rfl,sm.trans s3,s3 _ _ ef,by rw [ha1];exact s3 _ _ el,by rw [hg1,ha1,hh],?_,by omega⟩
     rw [take_snoc mE,ee]
     show ∀ x,x∈keys e↔x∈gY (rs.take i)++[]
     rw [List.append_nil]
     exact hks
    | false=>exact NZ rfl (k2 (JK (i:=i+1) (by rw [hg1];exact hh)) _ (sm.trans s3))
  ·rintro σ H2 ⟨e,a4,rfl,sm,ef,el,N3,hks,a6a⟩
   rw [L7,List.take_length] at N3
   exact ⟨_,rfl,k1 (by rw [N3]) fd H2 sm (by rw [N3];exact ef)⟩
abbrev nL:Stmt:=top 44
theorem kH:aG ["_law_rows","_law_told_here","_law_ahead_here","_law_row"] ["_law_rows","_law_told_here"] (aj nL):=⟨rfl,rfl,rfl,by decide +kernel,rfl,by decide +kernel,by decide +kernel⟩
theorem Iu {f:Addr} {fd:FuncData} {Z:Cz} {n:Nat} {TM W fT fW:Addr} {dY dS:List Value} (F:cX K "_law_debt" "_law_debt" nL f fd) (T:Txt K mg Z.s) (U:gh K mg Z) (XT:dW K mg TM W fT fW dY dS) {Db:Addr} (W:RT K mg Db) (d_init:Mr P w K mg base 1 Z.s ["self","terms","number"] (kG Z.s)) (CC:Dn P w K mg base 5 "_law_made" ["_law_told_here"] (mj Z 3)) (J9:Mr P w K mg base 1 Db ["self","kind","at","ahead","condition"] (GZ Db)):bu P w K mg base dX 8 f fd ["_law_rows","_law_told_here"] (yh Z Db):=by
 obtain ⟨yX,tF,dm,M,di⟩:=d_init
 obtain ⟨Qs,MB,vV,pL,pS,vQ⟩:=CC
 obtain ⟨b5b,b1f,A3,VN,AV⟩:=J9
 refine F.ok kH (fun vs H Q E h=>?_) (fun cdv A outer s H vs Q E hr h=>?_)
 ·obtain ⟨a,us,rs,v,c,rfl,ha,hT,hR,hl,ht,hc,k⟩:=h
  rfl
 ·obtain ⟨a,us,rs,v,c,rfl,ha,hT,hR,hl,ht,hc,k⟩:=h
  have hu:=br hr
  rw [show av nL=[_,_,_] from rfl]
  refine ⟨_,(ao (aO (i:=2) kH.nd rfl (Or.inl rfl) (bB ai))
   (ao (dP PassesOwn.never rfl (eZ (pv 0)) (aK (i:=3) kH.nd rfl (Or.inl rfl)) (au (bS (aP bV (aM aR (pv 3) ak (fun _ _=>rfl)) aU (aL _)) (au (cT (iS PySem.F.plainAttrs_list PySem.F.slot_list_append PySem.F.type_list_append eS (pv 2) (aa (pv 3) ai)))) (au (bS (aP bV (aM aR (pv 3) ak (fun _ _=>rfl)) aU (aL _)) (au (cT (iS PySem.F.plainAttrs_list PySem.F.slot_list_append PySem.F.type_list_append eS (pv 2) (aa (bG (aa aU (aa (aM aR (pv 3) ak (fun _ _=>rfl)) (aa (cO M dm (hr.mono (by first | decide | omega)) rfl T.n8 di .nil aD (aa (aM aR (aM aR (pv 3) ak (fun _ _=>rfl)) ak (fun _ _=>rfl)) (aa (aM aR (aM aR (pv 3) ak (fun _ _=>rfl)) ak (fun _ _=>rfl)) ai))) ai)))) ai)))) (au (cT (iS PySem.F.plainAttrs_list PySem.F.slot_list_append PySem.F.type_list_append eS (pv 2) (aa (bG (aa aU (aa (aB vV (hr.mono (by first | decide | omega)) rfl pL pS vQ .nil aD (aa (aM aR (pv 3) ak (fun _ _=>rfl)) ai)) ai))) ai)))))))))
   (au (aI (cO VN A3 (hr.mono (by first | decide | omega)) rfl W.mgD AV .nil aD (aa aU (aa ak (aa (bz bT (by rfl) T.tuple boot_tuple (aa (pv 2) ai)) (aa (aB vV (hr.mono (by first | decide | omega)) rfl pL pS vQ .nil aD (aa (pv 1) ai)) ai))))))))),?_⟩
  refine ⟨Nat.zero_le _,fun L hL=>?_⟩
  have L7:=ay hT
  have s0:=new (o:=.lst []) hL
  refine ⟨_,rfl,a,rfl,⟨us,bx.of (s0 _ _ ha)⟩,fS (xs:=us) (fun i σ H'=>∃ (ys:List V) (a3:Option V),σ=[some (.ref a),some v,some (.ref L),a3]∧bI L (upd H L (.lst [])) H'∧H' L=some (.lst ys)∧ow Z H' ys (rs.take i)) ⟨[],none,rfl,(fun _ _ z _=>z),ah,.nil⟩ (fun i σ H' _ ⟨_,_,_,q,_⟩=>bx.of (q _ _ (s0 _ _ ha) (aq ha hL))) ?_ ?_⟩
  ·rintro i x σ H2 hi ⟨ys,a3,rfl,but,eL,pr⟩
   obtain ⟨r,mE,pT⟩:=aW hT hi
   have sH:az H H2:=fun b o z=>but b o (s0 _ _ z) (aq z hL)
   have pT:=pT.aH (aE.of sH)
   have hok:=hR i r mE
   have il:i < rs.length:=(List.getElem?_eq_some_iff.mp mE).1
   have ly:=ay pr
   rw [List.length_take] at ly
   have put:∀ (w:V) (H3:Hp),az H2 H3→AX Z (upd H3 L (.lst (ys++[w]))) w r→∃ (ys':List V) (a3:Option V),[some (V.ref a),some v,some (V.ref L),some x]=[some (V.ref a),some v,some (V.ref L),a3]∧bI L (upd H L (.lst [])) (upd H3 L (.lst (ys++[w])))∧(upd H3 L (.lst (ys++[w]))) L=some (.lst ys')∧ow Z (upd H3 L (.lst (ys++[w]))) ys' (rs.take (i+1)):=fun w H3 s3 hw=>by
    have eL3:=s3 _ _ eL
    have hk:aE H3 (upd H3 L (.lst (ys++[w]))):=aE.soft bI.upd eL3 fK
    refine ⟨ys++[w],_,rfl,(but.trans (bI.of s3)).trans bI.upd,ah,?_⟩
    rw [take_snoc mE]
    exact aS (L2.Paired.dh pr fun _ _ z=>(z.aH (aE.of s3)).aH hk) hw
   have hkL:∀ (H3:Hp) (w:V),az H2 H3→aE H3 (upd H3 L (.lst (ys++[w]))):=fun H3 w s3=>aE.soft bI.upd (s3 _ _ eL) fK
   cases r with
   | any y =>
    obtain ⟨p,rfl,ep⟩:=pT
    refine ⟨_,rfl,p,_,0,_,rfl,rfl,aV.of ep,rfl,rfl,_,rfl,bL rfl ?_⟩
    refine ⟨_,rfl,.inl ⟨rfl,_,bx.of eL⟩,_,rfl,L,_,_,rfl,rfl,eL,line _ (by omega),?_⟩
    exact put (.ref p) H2 (az.refl _) ⟨p,rfl,(hkL H2 (.ref p) (az.refl _)).t _ _ ep⟩
   | lt y ts m =>
    obtain ⟨p,q,rfl,ep,Dq⟩:=pT
    obtain ⟨t1,eq1,T1⟩:=id Dq
    have l3:=hok.2.1.1
    refine ⟨_,rfl,p,_,0,_,rfl,rfl,aV.of ep,rfl,rfl,_,rfl,aZ (bh (by decide +kernel)) ?_⟩
    refine ⟨_,rfl,p,_,0,_,rfl,rfl,aV.of ep,rfl,rfl,_,rfl,bL rfl ?_⟩
    refine ⟨_,rfl,.inl ⟨rfl,_,bx.of eL⟩,_,rfl,p,_,1,_,rfl,rfl,aV.of ep,rfl,?_⟩
    refine ⟨_,rfl,p,_,2,_,rfl,rfl,aV.of ep,rfl,q,_,0,_,rfl,rfl,aV.of eq1,rfl,?_⟩
    refine ⟨_,rfl,p,_,2,_,rfl,rfl,aV.of ep,rfl,q,_,1,_,rfl,rfl,aV.of eq1,rfl,fun x1 dx hx hdx ne=>?_⟩
    have g1:=bN (o:=.own x1) (o':=.ins Z.s dx []) hx hdx
    refine ⟨x1,dx,t1,m,ts,rfl,ah,.inr (T1.same g1),by omega,fun H3 QX S1=>⟨rfl,?_⟩⟩
    have s3:az H2 H3:=fun b' o z=>QX b' o (g1 _ _ z) (aq z hx)
    refine ⟨(szl 3),fun w hw=>?_⟩
    have s4:=s3.trans (new (o:=.tup [.str "let",.str y,.ref x1]) hw)
    refine ⟨L,_,_,rfl,rfl,s4 _ _ eL,line _ (by omega),?_⟩
    have hk:=hkL _ (.ref w) s4
    exact put (.ref w) _ s4 ⟨w,x1,rfl,hk.t _ _ ah,(S1.same (new hw)).aH hk⟩
   | hold c1 =>
    obtain ⟨p,q,rfl,ep,hq⟩:=pT
    refine ⟨_,rfl,p,_,0,_,rfl,rfl,aV.of ep,rfl,rfl,_,rfl,aZ (bh (by decide +kernel)) ?_⟩
    refine ⟨_,rfl,p,_,0,_,rfl,rfl,aV.of ep,rfl,rfl,_,rfl,aZ (bh (by decide +kernel)) ?_⟩
    refine ⟨_,rfl,.inl ⟨rfl,_,bx.of eL⟩,_,rfl,p,_,1,_,rfl,rfl,aV.of ep,rfl,q,c1,gY (rs.take i),rfl,hq,hok.2.2.1,hok.1,fun v' H3 s3 hv'=>?_⟩
    obtain ⟨pv,rfl⟩:=cu hv'
    refine ⟨(szl 2),fun w hw=>?_⟩
    have s4:=s3.trans (new (o:=.tup [.str "hold",.ref pv]) hw)
    refine ⟨L,_,_,rfl,rfl,s4 _ _ eL,line _ (by omega),?_⟩
    have hk:=hkL _ (.ref w) s4
    exact put (.ref w) _ s4 ⟨w,pv,rfl,hk.t _ _ ah,(hv'.aH (aE.of (new hw))).aH hk⟩
  ·rintro σ H2 ⟨ys,a3,rfl,but,eL,pr⟩
   rw [L7,List.take_length] at pr
   have sH:az H H2:=fun b o z=>but b o (s0 _ _ z) (aq z hL)
   refine ⟨_,rfl,L,ys,rfl,.inl ⟨bx.of eL,fun tp htp=>?_⟩⟩
   have s3:=new (o:=.tup ys) htp
   refine ⟨_,rfl,v,c,gY rs,rfl,ht.aH (aE.of (sH.trans s3)),hc.2.2.1,hc.1,fun v' H4 s4 hv'=>?_⟩
   refine fun pd dxp hpd a5x Rx=>?_
   have hm:=bN (o:=.own pd) (o':=.ins Db dxp []) hpd a5x
   refine ⟨pd,dxp,"claim",3,.ref tp,v',rfl,ah,fun H5 but' e5=>⟨rfl,?_⟩⟩
   have s5:az H4 H5:=fun b o z=>but' b o (hm _ _ z) (aq z hpd)
   have Zv:=s4.trans s5
   exact k pd H5 ((sH.trans s3).trans Zv) (((sH.trans s3).trans s4).free hpd) ⟨dxp,"claim",3,tp,ys,v',e5,Zv _ _ ah,(pr.aH (aE.of s3)).aH (aE.of Zv),hv'.aH (aE.of s5)⟩
abbrev nJ:Stmt:=top 45
theorem zM:aG ["_law_cases"] ["_law_cases"] (aj nJ):=⟨rfl,rfl,rfl,by decide +kernel,rfl,by decide +kernel,by decide +kernel⟩
theorem Iq {f:Addr} {fd:FuncData} {Z:Cz} {n:Nat} {TM W fT fW:Addr} {dY dS:List Value} (F:cX K "_law_told" "_law_told" nJ f fd) (T:Txt K mg Z.s) (U:gh K mg Z) (XT:dW K mg TM W fT fW dY dS) :bu P w K mg base dX 1 f fd ["_law_cases"] (ya Z):=by
 refine F.ok zM (fun vs H Q E h=>?_) (fun cdv A outer s H vs Q E hr h=>?_)
 ·obtain ⟨l,cs,rfl,hC,hl,hw,k⟩:=h
  rfl
 ·obtain ⟨l,cs,rfl,hC,hl,hw,k⟩:=h
  have hu:=br hr
  rw [show av nJ=[_] from rfl]
  refine ⟨_,(au (aI (cB (bq ["_law_case"] [] [] rfl (by decide +kernel) (by decide +kernel) (by with_unfolding_all rfl) (by exact trivial) (by rfl) rfl (by rfl)) rfl (eZ (pv 0)) (fun _ _ _ _=>(aK (i:=0) (show List.Nodup (["_law_case"]:List Str) by decide +kernel) rfl (Or.inl rfl) (Or.inr rfl))) (fun _ _ _ _=>cA) (fun _ _ _ _=>(bz (lM (K:=K) rfl) (by rfl) T.tuple boot_tuple (aa (cB (bq ["_law_total"] [] [] rfl (by decide +kernel) (by decide +kernel) (by with_unfolding_all rfl) (by exact trivial) (by rfl) rfl (by rfl)) rfl (Lm (K:=K) rfl (pv 0)) (fun _ _ _ _=>(aK (i:=0) (show List.Nodup (["_law_total"]:List Str) by decide +kernel) rfl (Or.inl rfl) (Or.inr rfl))) (fun _ _ _ _=>cA) (fun _ _ _ _=>(bG (aa (sR (K:=K) rfl (pv 0) rfl) (aa (sR (K:=K) rfl (pv 0) rfl) ai))))) ai)))))),?_⟩
  obtain ⟨us,el,pr⟩:=id hC
  have qu:=ay pr
  refine ⟨_,rfl,l,rfl,⟨us,bx.of el⟩,gy (xs:=us) (fun i ys H'=>az H H'∧Paired (rW H') ys (cs.take i)) ⟨az.refl _,.nil⟩ (fun i ys H' _ q=>bx.of (q.1 _ _ el)) ?_ ?_⟩
  ·rintro i x ys H' hix ⟨sm,py⟩
   obtain ⟨c,gC,hx⟩:=aW pr hix
   obtain ⟨rt,vt,rfl,Uq,pt⟩:=hx.aH (aE.of sm)
   have wc:=hw c (List.mem_of_getElem? gC)
   have V3:=ay pt
   have w5:ys.length≤64:=by
    rw [ay py,List.length_take]
    omega
   refine ⟨Ext.one,jw ⟨_,rfl,rt,rfl,⟨vt,aV.of Uq⟩,cF (xs:=vt) (fun j zs H2=>az H' H2∧Paired (fun u (q:Ps×Int)=>∃ p,u=V.ref p∧gj H2 p q.1 q.2) zs (c.take j)) ⟨az.refl _,.nil⟩ (fun j zs H2 _ q=>aV.of (q.1 _ _ Uq)) ?_ ?_⟩⟩
   ·rintro j y zs H2 hj ⟨s2,pz⟩
    obtain ⟨q,hq,pq,rfl,Q5⟩:=aW pt hj
    have RV:=Q5.same s2
    obtain ⟨dq,tq,eq1,tp,_⟩:=id RV
    have lzs:zs.length≤1000:=by
     rw [ay pz,List.length_take]
     omega
    refine ⟨Ext.one,jw ⟨_,rfl,pq,Z.s,dq,_,_,rfl,eq1,T.cl,T.nT,bY _ _,_,rfl,pq,Z.s,dq,_,_,rfl,eq1,T.cl,T.nN,bJ _ _,(szl 2),fun x hx=>⟨line _ (by omega),s2.trans (new hx),?_⟩⟩⟩
    rw [take_snoc hq]
    exact aS (L2.Paired.dh pz fun _ _ ⟨p',e,d⟩=>⟨p',e,d.same (new hx)⟩) ⟨x,rfl,tq,ah,tp.same (new hx)⟩
   ·rintro zs H2 ⟨s2,pz⟩ q hq
    rw [V3,List.take_length] at pz
    have lzs:=ay pz
    refine ⟨q,_,rfl,.inl ⟨bx.of ah,fun r2 hr2=>?_⟩⟩
    have s3:az H2 (upd (upd H2 q (.lst zs)) r2 (.tup zs)):=az.new (new hq) hr2
    refine ⟨line _ (by omega),(sm.trans s2).trans s3,?_⟩
    rw [take_snoc gC]
    exact aS (L2.Paired.dh py fun _ _ z=>z.aH (aE.of (s2.trans s3))) ⟨r2,zs,rfl,ah,L2.Paired.dh pz fun _ _ ⟨p',e,d⟩=>⟨p',e,d.same s3⟩⟩
  ·rintro ys H' ⟨sm,py⟩ q hq
   rw [qu,List.take_length] at py
   exact k q _ (sm.trans (new hq)) (sm.free hq) ⟨ys,ah,L2.Paired.dh py fun _ _ z=>z.aH (aE.of (new hq))⟩
abbrev uz:Stmt:=top 46
theorem jE:aG ["_law_cases","_law_numbers","_law_values","_law_k","_law_case"] ["_law_cases","_law_numbers"] (aj uz):=⟨rfl,rfl,rfl,by decide +kernel,rfl,by decide +kernel,by decide +kernel⟩
theorem LJ {f:Addr} {fd:FuncData} {Z:Cz} {n:Nat} {TM W fT fW:Addr} {dY dS:List Value} (F:cX K "_law_met" "_law_met" uz f fd) (T:Txt K mg Z.s) (U:gh K mg Z) (XT:dW K mg TM W fT fW dY dS) (MP:Mt P w K mg base 1 Z.s "value" ["self","numbers"] (xZ Z.s)):bu P w K mg base dX 2 f fd ["_law_cases","_law_numbers"] (yg Z):=by
 obtain ⟨W8,TX,A2,L6,AU⟩:=MP
 refine F.ok jE (fun vs H Q E h=>?_) (fun cdv A outer s H vs Q E hr h=>?_)
 ·obtain ⟨l,b,F,ns,rfl,hC,RA,hw,hi,hb,N5,hs,k⟩:=h
  rfl
 ·obtain ⟨l,b,F,ns,rfl,hC,RA,hw,hi,hb,N5,hs,k⟩:=h
  have hu:=br hr
  rw [show av uz=[_,_,_,_] from rfl]
  refine ⟨_,(ao (aO (i:=2) jE.nd rfl (Or.inr rfl) kQ)
   (ao (dP PassesOwn.never rfl (eO rfl T.range (aa (bU bX (by rfl) T.len PySem.boot_len (aa (pv 1) ai)) ai)) (aK (i:=3) jE.nd rfl (Or.inl rfl)) (au (jL hu (pv 2) (bg jO aU (bz qd (by rfl) T.str boot_str (aa (pv 3) ai))) (aM bZ (pv 1) (pv 3) (fun _ _=>rfl)) rfl)))
   (ao (dP PassesOwn.never rfl (eZ (pv 0)) (aK (i:=4) jE.nd rfl (Or.inl rfl)) (au (bS (aP (wY (uN hr)) (cB (bq ["_law_total"] ["_law_values"] [2] rfl (by decide +kernel) (by decide +kernel) (by with_unfolding_all rfl) (by exact ⟨rfl,trivial⟩) (by rfl) rfl (by rfl)) rfl (cZ (pv 4)) (fun _ _ _ _=>(aK (i:=0) (show List.Nodup (["_law_total","_law_values"]:List Str) by decide +kernel) rfl (Or.inl rfl) (Or.inr rfl))) (fun _ _ _ _=>(jK (aP uH (gA (pv 0) T.cl L6 A2 (hr.mono (by first | decide | omega)) AU .nil aD (aa (pv 1) ai)) ak (aL _)))) (fun _ _ _ _=>ak)) (bB ai) (aL _)) (au (aI kW)) bE)))
   (au (aI kW))))),?_⟩
  intro fd hfd
  have Uu:=new (o:=.dK []) hfd
  have lm:(ns.map V.int).length=ns.length:=List.length_map ..
  refine ⟨_,rfl,b,_,rfl,.inl (bx.of (Uu _ _ hb)),(ns.length:Nat),(by rw [lm]),by omega,by omega,g9 (n:=((ns.length:Nat):Int).toNat) (fun i σ H'=>∃ a3:Option V,σ=[some (.ref l),some (.ref b),some (.ref fd),a3,none]∧az H H'∧H' fd=some (.dK (enc (vz ns i)))) ⟨none,rfl,Uu,ah⟩ ?_ ?_⟩
  ·rintro i σ H2 hi ⟨a3,rfl,sm,ef⟩
   have hi:i < ns.length:=hi
   have hg:ns[i]?=some (ns.getD i 0):=by rw [List.getD_eq_getElem?_getD,List.getElem?_eq_getElem hi];rfl
   have hwl:xM (ns.map V.int) (i:Int)=some (V.int (ns.getD i 0)):=by
    have z:=VB (xs:=ns.map V.int) (j:=i) (v:=V.int (ns.getD i 0)) (by rw [List.getElem?_map,hg];rfl)
    rw [Int.zero_add] at z
    exact z
   rw [show (0:Int)+(i:Int)=(i:Int) from Int.zero_add _]
   refine ⟨_,rfl,_,rfl,b,_,_,_,rfl,rfl,bx.of (sm _ _ hb),hwl,?_⟩
   refine ⟨_,rfl,_,rfl,(i:Int),rfl,(GO ⟨i,by omega⟩),_,_,rfl,rfl,(Nat.le_of_lt (line _ (Nat.le_trans (NI ⟨i,by omega⟩) (by decide)))),fd,_,rfl,we.k (k:=Sum.inr (uk i)) ef (by rw [jV,OH];exact line _ (by omega)),?_⟩
   refine ⟨_,rfl,fun c o z=>?_,?_⟩
   ·rw [aA (aq z hfd)]
    exact sm _ _ z
   ·rw [ah]
    exact congrArg (fun z=>some (HO.dK z)) ((p7 _ _ _).trans (congrArg enc (C4 ns (by omega))))
  rintro σ H1 ⟨a3,rfl,s1,ef⟩
  have ef:H1 fd=some (.dK (enc (vz ns ns.length))):=ef
  have N:Nums H1 fd (vz ns ns.length):=⟨ef,OJ hs _⟩
  have jb:∀ t∈xU ns.length,t∈keys (vz ns ns.length):=fun t ht=>by rw [C5];exact ht
  have hmet:dN (nF ns) F=dN (get (vz ns ns.length)) F:=(I8 (fun t ht=>GL ns (by omega) t ht) hi).symm
  have TH:=hC.same s1
  generalize vz ns ns.length=es at N jb hmet ef
  obtain ⟨us,er,pr⟩:=id TH
  have qu:=ay pr
  refine ⟨_,rfl,l,rfl,⟨us,bx.of er⟩,fS (xs:=us) (fun i σ H'=>∃ a2:Option V,σ=[some (.ref l),some (.ref b),some (.ref fd),a3,a2]∧az H1 H'∧dN (get es) (F.take i)=false) ⟨none,rfl,fun _ _ z=>z,rfl⟩ ?_ ?_ ?_⟩
  ·rintro i σ H' _ ⟨a2,rfl,sm,hm⟩
   exact bx.of (sm _ _ er)
  ·rintro i x σ H' hix ⟨a2,rfl,sm,hm⟩
   obtain ⟨cc,gC,hx⟩:=aW pr hix
   have jS:=List.mem_of_getElem? gC
   obtain ⟨rt,vt,rfl,Uq,pt⟩:=hx.aH (aE.of sm)
   have lw:=hw cc jS
   have V3:=ay pt
   have hin:=hi cc jS
   refine ⟨_,rfl,rt,rfl,⟨vt,aV.of Uq⟩,cF (xs:=vt) (fun j ys H2=>az H' H2∧ys=(wF (get es) (cc.take j)).map fun _=>V.int 1) ⟨fun _ _ z=>z,rfl⟩ (fun j ys H2 _ q=>aV.of (q.1 _ _ Uq)) ?_ ?_⟩
   ·rintro j y ys H2 hj ⟨s2,rfl⟩
    obtain ⟨q,hq,pq,rfl,Q5⟩:=aW pt hj
    have RV:=Q5.same s2
    obtain ⟨dq,tq,eq1,_⟩:=id RV
    have hqm:=List.mem_of_getElem? hq
    refine ⟨Ext.one,_,rfl,pq,dq,_,rfl,eq1,dM _ _ (by decide +kernel) (by decide +kernel),_,rfl,pq,fd,q.1,es,q.2,rfl,RV,N.same (sm.trans s2),(fun t ht=>let ⟨z,hz,e⟩:=List.mem_map.mp ht;e ▸ jb _ (hin q hqm z hz)),fun H3 s3=>⟨_,_,rfl,rfl,_,rfl,?_⟩⟩
    have sn:wF (get es) (cc.take (j+1))=wF (get es) (cc.take j)++(if q.2+bH q.1 (get es) < 0 then [q] else []):=by
     rw [take_snoc hq]
     unfold wF
     rw [List.filter_append]
     congr 1
     by_cases h:q.2+bH q.1 (get es) < 0
     ·rw [if_pos h];simp [h]
     ·rw [if_neg h];simp;omega
    by_cases h:q.2+bH q.1 (get es) < 0
    ·refine bL h ⟨?_,s2.trans s3,?_⟩
     ·rw [List.length_map]
      have:(wF (get es) (cc.take j)).length≤(cc.take j).length:=List.length_filter_le _ _
      rw [List.length_take] at this
      exact line _ (by omega)
     ·rw [sn,if_pos h,List.map_append];rfl
    ·refine aZ h ⟨s2.trans s3,?_⟩
     rw [sn,if_neg h,List.append_nil]
   rintro ys H2 ⟨s2,rfl⟩ q hq
   rw [V3,List.take_length]
   refine ⟨(Nat.zero_le _),fun q2 hq2=>?_⟩
   have sB:=(sm.trans (s2.trans (new (o:=.lst ((wF (get es) cc).map fun _=>V.int 1)) hq))).trans (new (o:=.lst []) hq2)
   refine ⟨q,q2,_,rfl,rfl,bx.of (new hq2 _ _ ah),bx.of ah,_,rfl,?_⟩
   by_cases hz:wF (get es) cc=[]
   ·refine bL (by rw [hz];rfl) ?_
    have e:dN (nF ns) F=true:=by
     rw [hmet]
     unfold dN
     rw [List.any_eq_true]
     exact ⟨cc,jS,L8 hz⟩
    have k:=k _ (s1.trans sB)
    rw [e] at k
    exact k
   ·refine aZ (fun z=>hz (List.map_eq_nil_iff.mp z)) ⟨some (.ref rt),rfl,sB,?_⟩
    rw [take_snoc gC,yH,hm]
    show (false || dN (get es) [cc])=false
    unfold dN
    show (false || ((cc.all fun q=>decide (0≤q.2+bH q.1 (get es))) || false))=false
    rw [Jc hz]
    rfl
  ·rintro σ H' ⟨a2,rfl,sm,hm⟩
   rw [qu,List.take_length] at hm
   have k:=k _ (s1.trans sm)
   rw [hmet,hm] at k
   exact k
abbrev iQ:Stmt:=top 47
theorem fM:aG ["_law_told_here","_law_turned","_law_counts","_law_found","_law_count_here"] ["_law_told_here","_law_turned"] (aj iQ):=⟨rfl,rfl,rfl,by decide +kernel,rfl,by decide +kernel,by decide +kernel⟩
theorem Ez {f:Addr} {fd:FuncData} {Z:Cz} {n:Nat} {TM W fT fW:Addr} {dY dS:List Value} (F:cX K "_law_count" "_law_count" iQ f fd) (T:Txt K mg Z.s) (U:gh K mg Z) (XT:dW K mg TM W fT fW dY dS) (vJ:Ri P w K mg base (n+1) "_law_count" ["_law_told_here","_law_turned"] (ji n)):xP P w K mg base (n+2) f fd ["_law_told_here","_law_turned"] (ji (n+1)):=by
 obtain ⟨JT,EV,qp,lC,lF,qi⟩:=vJ
 refine F.okH fM (fun vs H Q E h=>?_) (fun cdv A outer s H vs Q E a9 oe9 Mu hr h=>?_)
 ·obtain ⟨v,c,xs,o,rfl,ht,hd,hg,hfu,mU,k⟩:=h
  rfl
 ·obtain ⟨v,c,xs,o,rfl,ht,hd,hg,hfu,mU,k⟩:=h
  have hu:=br hr
  rw [show av iQ=[_,_,_,_,_,_,_] from rfl]
  refine ⟨_,(ao (bS (aP bV (aM aR (pv 0) ak (fun _ _=>rfl)) aU (aL _)) (au (aI (kU Mu qp (hr.mono (by first | decide | omega)) rfl lC lF qi .nil aD (aa (aM aR (pv 0) ak (fun _ _=>rfl)) (aa (BF (pv 1)) ai))))) bE)
   (ao (bS (aP bV (aM aR (pv 0) ak (fun _ _=>rfl)) aU (aL _)) (au (aI (bg dQ ak (bz fz (by rfl) T.int boot_int (aa (bK bV (aM aR (pv 0) ak (fun _ _=>rfl)) (aM bZ (bB (aa aU (aa aU ai))) (bz fz (by rfl) T.int boot_int (aa (pv 1) ai)) (fun _ _=>rfl)) (aL _)) ai))))) bE)
   (ao (Ho (i:=2) fM.nd rfl (Or.inl rfl) (bq ["_law_one"] ["_law_turned"] [1] rfl (by decide +kernel) (by decide +kernel) (by with_unfolding_all rfl) (by exact ⟨rfl,trivial⟩) (by rfl) rfl (by rfl)) Mu (Ln (uE By (pv 0) (yr ak) yt)) (fun _ _ _ _=>(aK (i:=0) (show List.Nodup (["_law_one","_law_turned"]:List Str) by decide +kernel) rfl (Or.inl rfl) (Or.inr rfl))) (fun _ _ _ _=>cA) (fun _ _ _ _=>(kU Mu qp (hr.mono (by first | decide | omega)) rfl lC lF qi .nil aD (aa (pv 0) (aa (pv 1) ai)))))
   (ao (bS (aP Ds (bK bV (aM aR (pv 0) ak (fun _ _=>rfl)) aU (aL _)) (pv 1) (aL _)) (au (aI (bU (E7 Mu) (by rfl) T.sum boot_sum (aa (pv 2) ai)))) bE)
   (ao (aO (i:=3) fM.nd rfl (Or.inl rfl) ak)
   (ao (Dj PassesOwn.never Mu (z5 (pv 2)) (aK (i:=4) fM.nd rfl (Or.inl rfl)) (au (aO (i:=3) fM.nd rfl (Or.inl rfl) (bg fP (pv 3) (pv 4)))))
   (au (aI (pv 3))))))))),?_⟩
  cases c with
  | neg c =>
   unfold bf at ht
   unfold Ge at hg
   unfold Cd.dep at hd
   unfold Cd.full at hfu
   unfold Cd.ff at mU
   obtain ⟨r,u,rfl,er,ht⟩:=ht
   unfold Cd.cz at k
   refine ⟨_,rfl,r,_,0,_,rfl,rfl,aV.of er,rfl,rfl,_,rfl,bL rfl ?_⟩
   exact ⟨_,rfl,r,_,1,_,rfl,rfl,aV.of er,rfl,_,rfl,_,rfl,u,c,xs,!o,rfl,ht,by omega,hg,hfu,mU,fun H1 s1=>k H1 s1⟩
  | cmp a i s b m =>
   unfold bf at ht
   obtain ⟨r,u,w0,rfl,er,D1,D2⟩:=ht
   refine ⟨_,rfl,r,_,0,_,rfl,rfl,aV.of er,rfl,rfl,_,rfl,aZ (bh (by decide +kernel)) ?_⟩
   refine ⟨_,rfl,r,_,0,_,rfl,rfl,aV.of er,rfl,rfl,_,rfl,bL rfl ?_⟩
   refine ⟨_,rfl,r,_,2,_,rfl,rfl,aV.of er,rfl,(szl 2),fun q hq=>?_⟩
   have sq:=new (o:=.lst [V.str "!=",V.str "="]) hq
   refine ⟨_,rfl,.inr ⟨o,rfl,q,_,_,(if o=true then V.str "=" else V.str "!="),rfl,rfl,bx.of ah,(by cases o <;> rfl),(by cases o <;> rfl),.inr ⟨_,rfl,_,_,rfl,rfl,?_⟩⟩⟩
   have k:=k _ sq
   unfold Ge at hg
   have hsg:=hg.2.1
   have e:(1:Int)+(if decide (V.str s=(if o=true then V.str "=" else V.str "!="))=true then 1 else 0)=((Cd.cmp a i s b m).cz o:Int):=by
    unfold Cd.cz
    simp only [signs,List.mem_cons,List.not_mem_nil,or_false] at hsg
    cases o <;> rcases hsg with e | e | e | e | e | e <;> subst e <;> decide +kernel
   rw [← e] at k
   exact k
  | con b cs =>
   unfold bf at ht
   unfold Ge at hg
   unfold Cd.full at hfu
   unfold Cd.ff at mU
   obtain ⟨r,us,rfl,er,ht⟩:=ht
   have zA:=bw.mp ht
   have qu:us.length=cs.length:=ay zA
   have lc8:=hg.1
   refine ⟨_,rfl,r,_,0,_,rfl,rfl,aV.of er,KS _ _,rfl,_,rfl,aZ (bh (s:=A7 b) (by cases b <;> decide +kernel)) ?_⟩
   refine ⟨_,rfl,r,_,0,_,rfl,rfl,aV.of er,KS _ _,rfl,_,rfl,aZ (bh (s:=A7 b) (by cases b <;> decide +kernel)) ?_⟩
   refine ⟨_,rfl,_,rfl,r,_,rfl,aV.of er,Ka _ _,fun t Tr=>?_⟩
   rw [QV]
   have s1:=new (o:=.tup us) Tr
   refine ⟨t,rfl,⟨us,aV.of ah⟩,cF (xs:=us) (fun i ys H'=>az (upd H t (.tup us)) H'∧ys=((cs.take i).map fun c=>(c.cz o:Int)).map V.int) ⟨fun _ _ z=>z,rfl⟩ (fun i ys H' _ q=>aV.of (q.1 _ _ ah)) ?_ ?_⟩
   ·rintro i x ys H' hix ⟨sm,rfl⟩
    obtain ⟨c,gC,pU⟩:=aW zA hix
    have jS:=List.mem_of_getElem? gC
    have dd:c.dep≤n:=by
     have z:=fh jS
     unfold Cd.dep at hd
     omega
    have lv:=yM jS
    refine ⟨Ext.one,jw ⟨_,rfl,_,rfl,x,c,xs,o,rfl,pU.aH (aE.of (s1.trans sm)),dd,tE hg.2 jS,ju hfu.2 jS,by omega,fun H1 g8=>⟨?_,sm.trans g8,?_⟩⟩⟩
    ·rw [List.length_map,List.length_map,List.length_take]
     exact line _ (by omega)
    ·rw [take_snoc gC,List.map_append,List.map_append]
     rfl
   rintro ys H2 ⟨sm,rfl⟩ q hq
   rw [qu,List.take_length]
   have sq:=new (o:=.lst ((cs.map fun c=>(c.cz o:Int)).map V.int)) hq
   have sA:=(s1.trans sm).trans sq
   refine ⟨_,rfl,r,_,0,_,rfl,rfl,aV.of (sA _ _ er),KS _ _,rfl,_,rfl,rfl,_,rfl,?_⟩
   have e1:decide (V.str (A7 b)=V.str "or")=!b:=by cases b <;> decide +kernel
   rw [e1]
   unfold Cd.cz at k
   by_cases hb:(!b)=o
   ·have hk:(if o=true then !b else b)=true:=by cases b <;> cases o <;> simp at hb ⊢
    rw [if_pos hk] at k
    refine Mp (by rw [hb];simp) ?_
    refine ⟨_,rfl,q,rfl,⟨_,bx.of ah⟩,fS (xs:=(cs.map fun c=>(c.cz o:Int)).map V.int) (fun i σ H'=>∃ a4:Option V,σ=[some (.ref r),some (.bl o),some (.ref q),some (.int (kj (cs.take i) o:Int)),a4]∧az (upd H2 q (.lst ((cs.map fun c=>(c.cz o:Int)).map V.int))) H') ⟨none,rfl,az.refl _⟩ (fun i σ H' _ ⟨_,_,z⟩=>bx.of (z _ _ ah)) ?_ ?_⟩
    ·rintro i x σ H' hix ⟨a4,rfl,Yu⟩
     rw [List.getElem?_map,List.getElem?_map] at hix
     obtain ⟨y,hy1,hy2⟩:=Option.map_eq_some_iff.mp hix
     obtain ⟨c,hc1,hc2⟩:=Option.map_eq_some_iff.mp hy1
     subst hy2
     subst hc2
     have jS:=List.mem_of_getElem? hc1
     have lv:=yM jS
     have:=Du o (ju hfu.2 jS) (by omega)
     refine ⟨_,rfl,_,rfl,_,_,rfl,rfl,.inr ⟨by omega,by omega⟩,?_⟩
     refine ⟨some (.int (c.cz o:Int)),?_,Yu⟩
     rw [take_snoc hc1,pJ,Int.natCast_mul]
     rfl
    ·rintro σ H' ⟨a4,rfl,Yu⟩
     rw [List.length_map,List.length_map,List.take_length]
     exact ⟨_,rfl,k _ (sA.trans Yu)⟩
   ·have hk:¬ (if o=true then !b else b)=true:=by cases b <;> cases o <;> simp at hb ⊢
    rw [if_neg hk] at k
    refine NZ (by cases b <;> cases o <;> simp at hb ⊢) ?_
    refine ⟨_,rfl,q,_,rfl,bx.of ah,?_⟩
    rw [Dv]
    exact k _ sA
abbrev nK:Stmt:=top 48
theorem iN:aG ["_law_rows","_law_told_here","_law_found","_law_row"] ["_law_rows","_law_told_here"] (aj nK):=⟨rfl,rfl,rfl,by decide +kernel,rfl,by decide +kernel,by decide +kernel⟩
theorem Ir {f:Addr} {fd:FuncData} {Z:Cz} {n:Nat} {TM W fT fW:Addr} {dY dS:List Value} (F:cX K "_law_most" "_law_most" nK f fd) (T:Txt K mg Z.s) (U:gh K mg Z) (XT:dW K mg TM W fT fW dY dS) (vJ:Ri P w K mg base 4 "_law_count" ["_law_told_here","_law_turned"] (ji 3)):xP P w K mg base 8 f fd ["_law_rows","_law_told_here"] yf:=by
 obtain ⟨JT,EV,qp,lC,lF,qi⟩:=vJ
 refine F.okH iN (fun vs H Q E h=>?_) (fun cdv A outer s H vs Q E a9 oe9 Mu hr h=>?_)
 ·obtain ⟨a,us,rs,v,c,rfl,ha,hT,hR,hl,ht,hc,k⟩:=h
  rfl
 ·obtain ⟨a,us,rs,v,c,rfl,ha,hT,hR,hl,ht,hc,k⟩:=h
  have hu:=br hr
  rw [show av nK=[_,_,_] from rfl]
  refine ⟨_,(ao (aO (i:=2) iN.nd rfl (Or.inl rfl) (kU Mu qp (hr.mono (by first | decide | omega)) rfl lC lF qi .nil aD (aa (pv 1) (aa kW ai))))
   (ao (Dj PassesOwn.never Mu (z5 (pv 0)) (aK (i:=3) iN.nd rfl (Or.inl rfl)) (au (bS (aP bV (aM aR (pv 3) ak (fun _ _=>rfl)) aU (aL _)) (au (aO (i:=2) iN.nd rfl (Or.inl rfl) (bg fP (pv 2) (kU Mu qp (hr.mono (by first | decide | omega)) rfl lC lF qi .nil aD (aa (aM aR (pv 3) ak (fun _ _=>rfl)) (aa kW ai)))))) bE)))
   (au (aI (pv 2))))),?_⟩
  have L7:=ay hT
  refine ⟨_,rfl,v,c,gY rs,true,rfl,ht,hc.2.2.1,hc.1,hc.2.1,hc.2.2.2,fun H1 s1=>?_⟩
  refine ⟨_,rfl,a,rfl,⟨us,bx.of (s1 _ _ ha)⟩,fS (xs:=us) (fun i σ H'=>∃ a3:Option V,σ=[some (.ref a),some v,some (.int ((c.cz true*ko (rs.take i):Nat):Int)),a3]∧az H H') ⟨none,(by rw [show ko (rs.take 0)=1 from rfl,Nat.mul_one];rfl),s1⟩ (fun i σ H' _ ⟨_,_,q⟩=>bx.of (q _ _ ha)) ?_ ?_⟩
  ·rintro i x σ H2 hi ⟨a3,rfl,sm⟩
   obtain ⟨r,mE,pT⟩:=aW hT hi
   have pT:=pT.aH (aE.of sm)
   have hok:=hR i r mE
   cases r with
   | any y =>
    obtain ⟨p,rfl,ep⟩:=pT
    refine ⟨_,rfl,p,_,0,_,rfl,rfl,aV.of ep,rfl,rfl,_,rfl,aZ (bh (by decide +kernel)) ⟨some (.ref p),?_,sm⟩⟩
    rw [take_snoc mE,uQ,Nat.mul_one]
    rfl
   | lt y ts m =>
    obtain ⟨p,q,rfl,ep,Dq⟩:=pT
    refine ⟨_,rfl,p,_,0,_,rfl,rfl,aV.of ep,rfl,rfl,_,rfl,aZ (bh (by decide +kernel)) ⟨some (.ref p),?_,sm⟩⟩
    rw [take_snoc mE,uQ,Nat.mul_one]
    rfl
   | hold c1 =>
    obtain ⟨p,q,rfl,ep,hq⟩:=pT
    refine ⟨_,rfl,p,_,0,_,rfl,rfl,aV.of ep,rfl,rfl,_,rfl,bL rfl ?_⟩
    have:=Du false hok.2.1 hok.2.2.2
    refine ⟨_,rfl,_,rfl,p,_,1,_,rfl,rfl,aV.of ep,rfl,q,c1,gY (rs.take i),false,rfl,hq,hok.2.2.1,hok.1,hok.2.1,hok.2.2.2,fun H3 s3=>⟨_,_,rfl,rfl,.inr ⟨by omega,by omega⟩,some (.ref p),?_,sm.trans s3⟩⟩
    rw [take_snoc mE,uQ,← Nat.mul_assoc,Int.natCast_mul]
    rfl
  ·rintro σ H2 ⟨a3,rfl,sm⟩
   rw [L7,List.take_length]
   exact ⟨_,rfl,k _ sm⟩
abbrev jG:Stmt:=top 49
theorem cR:aG ["_law_debt_here","_law_rows","_law_told_here","_law_draw","_law_cases","_law_case","_law_many","_law_turn","_law_numbers","_law_things","_law_held"] ["_law_debt_here","_law_rows","_law_told_here","_law_draw"] (aj jG):=⟨rfl,rfl,rfl,by decide +kernel,rfl,by decide +kernel,by decide +kernel⟩
seal L2.PE L2.PS L2.xO L2.PA L2.PT in
theorem Ex {f:Addr} {fd:FuncData} {Z:Cz} {n:Nat} {TM W fT fW:Addr} {dY dS:List Value} (F:cX K "_law_right" "_law_right" jG f fd) (T:Txt K mg Z.s) (U:gh K mg Z) (XT:dW K mg TM W fT fW dY dS) {Db:Addr} (W:RT K mg Db) (MQ:FI P w K mg base TM 21 "owed" ["debt"] (yc Z Db TM)) (MT:Ri P w K mg base 8 "_law_most" ["_law_rows","_law_told_here"] yf) (gw:Dn P w K mg base 2 "_law_next" ["_law_draw","_law_size"] jB) (J8:Dn P w K mg base 6 "_law_along" ["_law_rows","_law_numbers"] t9) (QS:Dn P w K mg base 2 "_law_met" ["_law_cases","_law_numbers"] (yg Z)) (lJ:Dn P w K mg base 4 "_law_holds" ["_law_told_here","_law_numbers"] (ic 3)) (MS:Dn P w K mg base 1 "_law_told" ["_law_cases"] (ya Z)):bu P w K mg base dX 22 f fd ["_law_debt_here","_law_rows","_law_told_here","_law_draw"] (qA Z Db):=by
 obtain ⟨W9,T4,Kz,Dy,DI,Km⟩:=MQ
 obtain ⟨Xc,T7,Rc,L1,Mf,Q0⟩:=MT
 obtain ⟨vB,pZ,cK,bQ,bR,cJ⟩:=gw
 obtain ⟨Ug,RJ,Ni,IY,Jl,M5⟩:=J8
 obtain ⟨a5Q,W5,VO,PB,PN,Vz⟩:=QS
 obtain ⟨Ue,N9,mL,jo,jt,mJ⟩:=lJ
 obtain ⟨Xb,T6,Kw,Dw,DH,Kh⟩:=MS
 refine F.ok cR (fun vs H Q E h=>?_) (fun cdv A outer s H vs Q E hr h=>?_)
 ·obtain ⟨p,a,d,us,rs,v,c,rfl,hD,ha,S9,hT,hR,hl,N5,ht,hc,hd,k⟩:=h
  rfl
 ·obtain ⟨p,a,d,us,rs,v,c,rfl,hD,ha,S9,hT,hR,hl,N5,ht,hc,hd,k⟩:=h
  have hu:=br hr
  rw [show av jG=[_,_,_,_,_,_,_,_] from rfl]
  refine ⟨_,(ao (Lj (W:=TM) rfl rfl XT.ct XT.ct (by simp) rfl XT.mgT (fun pn xe E hp=>au (aO (i:=4) cR.nd rfl (Or.inl rfl) (HQ Kz (hr.mono (by first | decide | omega)) rfl Dy DI Km .nil hp (aa (pv 0) ai)))) (fun a9 oe9 pn hc9 hd9 WV=>au (aI (bK Ac (kU (Hm.suite hd9) Rc (dj.unH (hr.mono (by first | decide | omega))) rfl L1 Mf Q0 .nil aD (aa (pv 1) (aa (pv 2) ai))) ak (aL _)))))
   (ao (bS (PW.pt (uB (qI (nR (bU (vO (c:=.ty "list") trivial) (by rfl) T.isinstance boot_isinstance (aa (pv 4) (aa (Dl (v:=.ty "list") rfl T.list boot_list rfl) ai))))) (nQ (aP Ac (bU bX (by rfl) T.len PySem.boot_len (aa (pv 4) ai)) ak (aL _))))) (au (aI kW)) bE)
   (ao (dP PassesOwn.never rfl (eZ (pv 4)) (aK (i:=5) cR.nd rfl (Or.inl rfl)) (ao (bS (PW.pt (uB (qI (nR (bU (vO (c:=.ty "tuple") trivial) (by rfl) T.isinstance boot_isinstance (aa (pv 5) (aa (Dl (v:=.ty "tuple") rfl T.tuple boot_tuple rfl) ai))))) (nQ (aP (pB (uN hr)) (cB (bq ["_law_total"] [] [] rfl (by decide +kernel) (by decide +kernel) (by with_unfolding_all rfl) (by exact trivial) (by rfl) rfl (by rfl)) rfl (cZ (pv 5)) (fun _ _ _ _=>(aK (i:=0) (show List.Nodup (["_law_total"]:List Str) by decide +kernel) rfl (Or.inl rfl) (Or.inr rfl))) (fun _ _ _ _=>(jK (qI (nR (bU (E8 (K:=K) rfl (c:=.ref Z.s) trivial) (by rfl) T.isinstance boot_isinstance (aa (pv 0) (aa (yv (v:=.ref Z.s) rfl T.n8 rfl) ai))))))) (fun _ _ _ _=>ak)) (bB ai) (aL _))))) (au (aI kW)) bE)
   (au (bS (aP (pB (uN hr)) (cB (bq ["_law_total"] [] [] rfl (by decide +kernel) (by decide +kernel) (by with_unfolding_all rfl) (by exact trivial) (by rfl) rfl (by rfl)) rfl (cZ (pv 5)) (fun _ _ _ _=>(aK (i:=0) (show List.Nodup (["_law_total"]:List Str) by decide +kernel) rfl (Or.inl rfl) (Or.inr rfl))) (fun _ _ _ _=>(jK (aP (Er (K:=K) rfl (uN hr)) (sR (K:=K) rfl (pv 0) rfl) (bG ai) (aL _)))) (fun _ _ _ _=>ak)) (bB ai) (aL _)) (au (aI kW)) bE))))
   (ao (aO (i:=6) cR.nd rfl (Or.inl rfl) (bU bX (by rfl) T.len PySem.boot_len (aa (cB (bq ["_law_row"] [] [] rfl (by decide +kernel) (by decide +kernel) (by with_unfolding_all rfl) (by exact trivial) (by rfl) rfl (by rfl)) rfl (eZ (pv 1)) (fun _ _ _ _=>(aK (i:=0) (show List.Nodup (["_law_row"]:List Str) by decide +kernel) rfl (Or.inl rfl) (Or.inr rfl))) (fun _ _ _ _=>(jK (aP bV (aM (Ml (K:=K) rfl) (pv 0) ak (fun _ _=>rfl)) aU (aL _)))) (fun _ _ _ _=>(pv 0))) ai)))
   (ao (dP PassesOwn.never rfl (eO rfl T.range (aa ak ai)) (aK (i:=7) cR.nd rfl (Or.inr rfl)) (ao (mw (i:=8) cR.nd rfl (Or.inl rfl) (bq ["_law_k"] ["_law_draw","_law_turn"] [3,7] rfl (by decide +kernel) (by decide +kernel) (by with_unfolding_all rfl) (by exact ⟨rfl,rfl,trivial⟩) (by rfl) rfl (by rfl)) rfl (eO rfl T.range (aa (pv 6) ai)) (fun _ _ _ _=>(aK (i:=0) (show List.Nodup (["_law_k","_law_draw","_law_turn"]:List Str) by decide +kernel) rfl (Or.inl rfl) (Or.inr rfl))) (fun _ _ _ _=>cA) (fun _ _ _ _=>(bg yz (aB cK (hr.mono (by first | decide | omega)) rfl bQ bR cJ .nil aD (aa (pv 1) (aa (aM (Au (K:=K) rfl) (bB (aa ak (aa ak (aa ak ai)))) (bg iA (pv 2) ak) (fun _ _=>rfl)) ai))) (aM (Au (K:=K) rfl) (bB (aa ak (aa ak (aa ak ai)))) (bg iA (pv 2) ak) (fun _ _=>rfl)))))
   (ao (aO (i:=9) cR.nd rfl (Or.inl rfl) (aB Ni (hr.mono (by first | decide | omega)) rfl IY Jl M5 .nil aD (aa (pv 1) (aa (pv 8) ai))))
   (au (bS (aP Ds (aB VO (hr.mono (by first | decide | omega)) rfl PB PN Vz .nil aD (aa (pv 4) (aa (pv 8) ai))) (uF (bK Lv (pv 9) HN (aL _)) (nU (BF (aB mL (hr.mono (by first | decide | omega)) rfl jo jt mJ .nil aD (aa (pv 2) (aa (pv 9) ai)))))) (aL _)) (au (aI kW)) bE)))))
   (ao (aO (i:=10) cR.nd rfl (Or.inl rfl) (aB Kw (hr.mono (by first | decide | omega)) rfl Dw DH Kh .nil aD (aa (pv 4) ai)))
   (ao (cT (Pd PySem.F.plainAttrs_list PySem.F.slot_list_clear PySem.F.type_list_clear IL (pv 4)))
   (au (aI (bK (HW 6 (uL hr)) (aB Kw (hr.mono (by first | decide | omega)) rfl Dw DH Kh .nil aD (aa (aB Kz (hr.mono (by first | decide | omega)) rfl Dy DI Km .nil SI (aa (pv 0) ai)) ai)) (pv 10) (aL _))))))))))),?_⟩
  refine ⟨_,rfl,p,rs,c,rfl,hD,hR,by omega,N5,hc,fun F oF Zq cl H1 s1 f1 hF=>?_,fun oN gt H1 s1=>?_⟩
  rotate_left
  ·intro a9 hl9 ha9
   refine ⟨_,rfl,_,rfl,a,us,rs,v,c,rfl,s1 _ _ ha,aN hT (aE.of s1),hR,by omega,ht.aH (aE.of s1),hc,fun H2 s2=>⟨_,_,rfl,rfl,?_⟩⟩
   have e:decide ((64:Int) < ((uR rs c:Nat):Int))=true:=decide_eq_true (by omega)
   have k:=k H2 (bI.of (s1.trans s2)) (hd.same (s1.trans s2))
   rw [← e] at k
   exact k
  obtain ⟨Mz,Qj,a5K,a5I⟩:=id Zq
  obtain ⟨Yg,eF,pF⟩:=id hF
  have b3U:=ay pF
  have L7:=ay hT
  have ncd:cl≠d:=hd.ne f1
  refine ⟨_,rfl,_,_,_,true,rfl,.lst eF,rfl,Jo K,_,rfl,wG ?_⟩
  refine ⟨_,rfl,cl,Yg,rfl,.inl (bx.of eF),_,_,rfl,rfl,_,rfl,aZ (by omega) ?_⟩
  refine ⟨_,rfl,cl,rfl,⟨Yg,bx.of eF⟩,fS (xs:=Yg) (fun i σ H'=>∃ a5:Option V,σ=[some (.ref p),some (.ref a),some v,some (.ref d),some (.ref cl),a5,none,none,none,none,none]∧az H1 H') ⟨none,rfl,az.refl _⟩ (fun i σ H' _ ⟨_,_,q⟩=>bx.of (q _ _ eF)) ?_ ?_⟩
  ·rintro i x σ H2 hix ⟨a5,rfl,s2⟩
   obtain ⟨k0,hk0,hx⟩:=aW pF hix
   obtain ⟨t,vt,rfl,et,pt⟩:=hx.aH (aE.of s2)
   have V3:=ay pt
   have wk:=Qj k0 (List.mem_of_getElem? hk0)
   refine ⟨_,rfl,_,_,_,true,rfl,.tup et,rfl,T.kT,_,rfl,wG ?_⟩
   refine ⟨_,rfl,t,rfl,⟨vt,aV.of et⟩,cF (xs:=vt) (fun j ys H'=>H'=H2∧ys=[]) ⟨rfl,rfl⟩ (fun j ys H' _ q=>q.1 ▸ aV.of et) ?_ ?_⟩
   ·rintro j y ys H' hj ⟨rfl,rfl⟩
    obtain ⟨q,hq,pq,rfl,Q5⟩:=aW pt hj
    obtain ⟨dq,tq,eq1,tp,_⟩:=id Q5
    exact ⟨Ext.one,_,rfl,_,_,_,true,rfl,T.ins eq1,rfl,T.kS,true,rfl,Mp rfl ⟨rfl,rfl⟩⟩
   rintro ys H' ⟨rfl,rfl⟩ q1 hq1
   refine ⟨Nat.zero_le _,fun q2 hq2=>?_⟩
   have s3:az H' (upd (upd H' q1 (.lst [])) q2 (.lst [])):=az.new (new hq1) hq2
   refine ⟨q1,q2,[],rfl,rfl,bx.of (new hq2 _ _ ah),bx.of ah,_,rfl,DK rfl ?_⟩
   generalize upd (upd H' q1 (.lst [])) q2 (.lst [])=H3 at s3 ⊢
   have et3:=s3 _ _ et
   refine ⟨_,rfl,t,rfl,⟨vt,aV.of et3⟩,cF (xs:=vt) (fun j ys H'=>az H3 H'∧ys=[]) ⟨az.refl _,rfl⟩ (fun j ys H' _ q=>aV.of (q.1 _ _ et3)) ?_ ?_⟩
   ·rintro j y ys H4 hj ⟨s4,rfl⟩
    obtain ⟨q,hq,pq,rfl,Q5⟩:=aW pt hj
    have RV:=(Q5.same s3).same s4
    obtain ⟨dq,tq,eq1,⟨ws,ew,pw⟩,_⟩:=id RV
    have hne:=wk.2 q (List.mem_of_getElem? hq)
    have lw:=ay pw
    refine ⟨Ext.one,_,rfl,pq,Z.s,dq,_,_,rfl,eq1,T.cl,T.nT,bY _ _,Nat.zero_le _,fun q3 oz=>?_⟩
    refine ⟨tq,q3,ws,rfl,rfl,aV.of (new oz _ _ ew),aV.of ah,_,rfl,aZ (fun z=>hne ?_) ⟨s4.trans (new oz),rfl⟩⟩
    rw [z] at lw
    exact List.length_eq_zero_iff.mp lw.symm
   rintro ys H4 ⟨s4,rfl⟩ q3 oz
   refine ⟨Nat.zero_le _,fun q4 RB=>?_⟩
   have s5:az H4 (upd (upd H4 q3 (.lst [])) q4 (.lst [])):=az.new (new oz) RB
   refine ⟨q3,q4,[],rfl,rfl,bx.of (new RB _ _ ah),bx.of ah,_,rfl,DK rfl ?_⟩
   exact ⟨some (.ref t),rfl,((s2.trans s3).trans s4).trans s5⟩
  rintro σ H2 ⟨a5,rfl,s2⟩
  have sA:=s1.trans s2
  have ea2:=sA _ _ ha
  refine ⟨_,rfl,a,rfl,⟨us,bx.of ea2⟩,gy (xs:=us) (fun j ys H'=>H'=H2∧ys.length=cG (rs.take j)) ⟨rfl,rfl⟩ (fun j ys H' _ q=>q.1 ▸ bx.of ea2) ?_ ?_⟩
  ·rintro j y ys H' hj ⟨rfl,ly⟩
   obtain ⟨r,mE,pT⟩:=aW hT hj
   have pT:=pT.aH (aE.of sA)
   have an:=mK j rs
   have sn:cG (rs.take (j+1))=cG (rs.take j)+cG [r]:=by rw [take_snoc mE,cW]
   cases r with
   | any x =>
    obtain ⟨pr,rfl,ep⟩:=pT
    refine ⟨Ext.one,_,rfl,pr,_,0,_,rfl,rfl,aV.of ep,rfl,rfl,_,rfl,bL rfl ⟨_,rfl,line _ (by omega),rfl,?_⟩⟩
    rw [List.length_append,sn,ly]
    rfl
   | lt x b c0 =>
    obtain ⟨pr,q0,rfl,ep,Dq⟩:=pT
    refine ⟨Ext.one,_,rfl,pr,_,0,_,rfl,rfl,aV.of ep,rfl,rfl,_,rfl,aZ (bh (by decide +kernel)) ⟨rfl,?_⟩⟩
    rw [sn,ly]
    rfl
   | hold c1 =>
    obtain ⟨pr,q0,rfl,ep,hcq⟩:=pT
    refine ⟨Ext.one,_,rfl,pr,_,0,_,rfl,rfl,aV.of ep,rfl,rfl,_,rfl,aZ (bh (by decide +kernel)) ⟨rfl,?_⟩⟩
    rw [sn,ly]
    rfl
  rintro ys H' ⟨rfl,ly⟩ q5 hq5
  rw [L7,List.take_length] at ly
  refine ⟨q5,ys,rfl,.inl (bx.of ah),?_⟩
  have sB:=sA.trans (new (o:=.lst ys) hq5)
  rw [ly]
  have D0:=hd.same sB
  have DO:=hF.same (s2.trans (new (o:=.lst ys) hq5))
  generalize upd H' q5 (.lst ys)=HB at sB D0 DO ⊢
  refine ⟨16,rfl,(by decide),(by decide),g9 (n:=16) (fun i σ H'=>(∃ k7 k8 k9:Option V,σ=[some (.ref p),some (.ref a),some v,some (.ref d),some (.ref cl),a5,some (.int ((cG rs:Nat):Int)),k7,k8,k9,none])∧bI d HB H'∧Dr H' d) ⟨⟨_,_,_,rfl⟩,fun _ _ z _=>z,D0⟩ ?_ ?_⟩
  ·rintro i σ H3 hi ⟨⟨k7,k8,k9,rfl⟩,FB,D⟩
   rw [show (0:Int)+(i:Int)=(i:Int) from Int.zero_add _]
   obtain ⟨sz,of,hsz,hof,z1,z2,z3,z4⟩:∃ sz of:Int,xM [V.int 5,.int 5,.int 41] ((i:Int) % 3)=some (.int sz)∧xM [V.int 2,.int 2,.int 20] ((i:Int) % 3)=some (.int of)∧0 < sz∧sz≤41∧0≤of∧of≤20:=by
    have h:i % 3=0∨i % 3=1∨i % 3=2:=by omega
    have e:(i:Int) % 3=((i % 3:Nat):Int):=by omega
    rw [e]
    rcases h with h | h | h <;> rw [h]
    ·exact ⟨5,2,rfl,rfl,by decide,by decide,by decide,by decide⟩
    ·exact ⟨5,2,rfl,rfl,by decide,by decide,by decide,by decide⟩
    ·exact ⟨41,20,rfl,rfl,by decide,by decide,by decide,by decide⟩
   refine ⟨_,rfl,((cG rs:Nat):Int),rfl,by omega,by omega,om (n:=((cG rs:Nat):Int).toNat) (fun j ys H'=>bI d H3 H'∧Dr H' d∧∃ ns:List Int,ys=ns.map V.int∧ns.length=j∧∀ n∈ns,Small n) ⟨fun _ _ z _=>z,D,[],rfl,rfl,fun _ h=>nomatch h⟩ ?_ ?_⟩
   ·rintro j ys H4 hj ⟨b4,d4,ns,rfl,ln,sn⟩
    have hj:j < cG rs:=hj
    refine ⟨Ext.one,jw ⟨_,rfl,(szl 3),fun q6 hq6=>?_⟩⟩
    have s6:=new (o:=.lst [V.int 5,.int 5,.int 41]) hq6
    refine ⟨_,rfl,_,_,rfl,rfl,(by show (0:Int) < 3;decide),q6,_,_,_,rfl,rfl,bx.of ah,hsz,d,sz,rfl,d4.same s6,z1,fun r H5 hr5 b5 d5=>?_⟩
    refine ⟨(szl 3),fun q7 hq7=>?_⟩
    have s7:=new (o:=.lst [V.int 2,.int 2,.int 20]) hq7
    refine ⟨_,rfl,_,_,rfl,rfl,(by show (0:Int) < 3;decide),q7,_,_,_,rfl,rfl,bx.of ah,hof,_,_,rfl,rfl,?_,((b4.trans (bI.of s6)).trans b5).trans (bI.of s7),d5.same s7,ns++[(r:Int) - of],?_,?_,?_⟩
    ·rw [List.length_map]
     exact line _ (by omega)
    ·rw [List.map_append];rfl
    ·rw [List.length_append,ln];rfl
    ·intro n hn
     rcases List.mem_append.mp hn with z | z
     ·exact sn n z
     ·rw [List.mem_singleton.mp z]
      exact ⟨by omega,by omega⟩
   rintro ys H4 ⟨b4,d4,ns,rfl,ln,sn⟩ nb hnb
   have ln:ns.length=cG rs:=ln
   have s5:=new (o:=.lst (ns.map V.int)) hnb
   have b5:bI d HB (upd H4 nb (.lst (ns.map V.int))):=(FB.trans b4).trans (bI.of s5)
   have V0:nb≠d:=d4.ne hnb
   have d5:=d4.same s5
   have en:(upd H4 nb (.lst (ns.map V.int))) nb=some (.lst (ns.map V.int)):=ah
   generalize upd H4 nb (.lst (ns.map V.int))=H5 at b5 d5 en ⊢
   clear b4 d4 hnb s5 FB D
   have hk5:aE HB H5:=D0.soft b5
   have P8:gK H5 us rs:=aN (aN hT (aE.of sB)) hk5
   have ht5:=(ht.aH (aE.of sB)).aH hk5
   have WZ:cQ Z H5 cl F:=by
    obtain ⟨u9,e9,p9⟩:=id DO
    exact ⟨u9,b5 _ _ e9 ncd,L2.Paired.dh p9 fun _ _ z=>z.aH hk5⟩
   have w9:∀ k∈F,k.length≤900:=fun k hk=>by have:=(Qj k hk).1;omega
   have i9:∀ k∈F,∀ q∈k,∀ p∈q.1,p.1∈xU ns.length:=by rw [ln];exact a5K
   have fm:=a5I (nF ns)
   refine ⟨_,rfl,_,rfl,a,nb,us,rs,ns,rfl,b5 _ _ (sB _ _ ha) S9,P8,hR,by omega,en,ln,N5,fun g1 dd H6 s6 ed=>?_,fun g0 H6 s6=>?_⟩
   ·refine ⟨_,rfl,_,rfl,cl,nb,F,ns,rfl,WZ.same s6,Mz,w9,i9,s6 _ _ en,by omega,sn,fun H7 s7=>?_⟩
    rw [g1,Bool.true_and] at fm
    refine ⟨_,rfl,rfl,_,rfl,NZ (by rw [decide_eq_false (fun z=>nomatch z)];rfl) ⟨_,rfl,_,rfl,v,dd,c,gY rs,(gz (nF ns) rs).1,rfl,ht5.aH (aE.of (s6.trans s7)),hc.2.2.1,hc.1,s7 _ _ ed,(fun x hx=>(DP _ _ rs rfl x).mpr hx),fun H8 s8=>⟨_,rfl,rfl,_,rfl,DK (congrArg V.bl fm) ?_⟩⟩⟩
    exact ⟨⟨_,_,_,rfl⟩,b5.trans (bI.of ((s6.trans s7).trans s8)),d5.same ((s6.trans s7).trans s8)⟩
   ·refine ⟨_,rfl,_,rfl,cl,nb,F,ns,rfl,WZ.same s6,Mz,w9,i9,s6 _ _ en,by omega,sn,fun H7 s7=>?_⟩
    rw [g0,Bool.false_and] at fm
    refine ⟨_,rfl,rfl,_,rfl,Mp (by rw [decide_eq_true rfl];rfl) ⟨rfl,_,rfl,DK (congrArg V.bl fm) ?_⟩⟩
    exact ⟨⟨_,_,_,rfl⟩,b5.trans (bI.of (s6.trans s7)),d5.same (s6.trans s7)⟩
  rintro σ H3 ⟨⟨k7,k8,k9,rfl⟩,FB,D⟩
  have hk3:aE HB H3:=D0.soft FB
  obtain ⟨u9,e9,p9⟩:=id DO
  have e93:H3 cl=some (.lst u9):=FB _ _ e9 ncd
  have hF3:cQ Z H3 cl F:=⟨u9,e93,L2.Paired.dh p9 fun _ _ z=>z.aH hk3⟩
  have w9:∀ k∈F,k.length≤1000:=fun k hk=>by have:=(Qj k hk).1;omega
  refine ⟨_,rfl,cl,F,rfl,hF3,Mz,w9,fun ld H4 s4 fld hlt=>?_⟩
  have eF4:=s4 _ _ e93
  refine ⟨_,rfl,.inl ⟨rfl,_,bx.of eF4⟩,cl,u9,rfl,rfl,eF4,?_⟩
  have bF:bI cl H4 (upd H4 cl (.lst [])):=bI.upd
  have hkF:aE H4 (upd H4 cl (.lst [])):=aE.soft bF eF4 fK
  have nlc:ld≠cl:=fun z=>by rw [z,e93] at fld;cases fld
  have lcF:CT (upd H4 cl (.lst [])) ld F:=by
   obtain ⟨ws,e,pw⟩:=id hlt
   exact ⟨ws,bF _ _ e nlc,L2.Paired.dh pw fun _ _ z=>z.aH hkF⟩
  have dF:Dr (upd H4 cl (.lst [])) d:=let ⟨x,y,e⟩:=D.same s4;⟨x,y,bF _ _ e ncd.symm⟩
  have a8M:bI d H (upd H4 cl (.lst [])):=fun b o e0 n0=>bF _ _ (s4 _ _ (FB _ _ (sB _ _ e0) n0)) (aq e0 f1)
  have hDF:=(((hD.aH (aE.of sB)).aH hk3).aH (aE.of s4)).aH hkF
  refine ⟨_,rfl,p,rs,c,rfl,hDF,hR,by omega,N5,hc,fun F2 oF2 b0C r H5 s5 f5 WZ=>?_,fun oN=>absurd oN (by rw [oF];simp)⟩
  obtain rfl:F2=F:=Option.some.inj (oF2.symm.trans oF)
  refine ⟨r,F2,rfl,WZ,Mz,w9,fun lt2 H6 s6 f6 a5q=>?_⟩
  exact ⟨_,rfl,Jg (by decide) a5q (lcF.same (s5.trans s6)) (k _ (a8M.trans (bI.of (s5.trans s6))) (dF.same (s5.trans s6)))⟩
abbrev wC:Stmt:=top 50
theorem fN:aG ["_law_script","_law_draw","_law_things","_law_pile","_law_k","_law_rows","_law_known","_law_told_here","_law_debt_here","_law_kept_here"] ["_law_script"] (aj wC):=⟨rfl,rfl,rfl,by decide +kernel,rfl,by decide +kernel,by decide +kernel⟩
seal L2.PE L2.PS L2.xO L2.PA L2.PT in
theorem Pn {f:Addr} {fd:FuncData} {Z:Cz} {n:Nat} {TM W fT fW:Addr} {dY dS:List Value} (F:cX K "law" "law" wC f fd) (T:Txt K mg Z.s) (U:gh K mg Z) (XT:dW K mg TM W fT fW dY dS) {Db:Addr} (W:RT K mg Db) (E4:Dn P w K mg base 2 "_law_cell_at" ["_law_script","_law_k"] (Bx K)) (gw:Dn P w K mg base 2 "_law_next" ["_law_draw","_law_size"] jB) (MR:Dn P w K mg base 3 "_law_names" ["_law_draw","_law_many"] ye) (MV:Dn P w K mg base 8 "_law_ahead" ["_law_draw","_law_things"] uc) (gH:Dn P w K mg base 5 "_law_condition" ["_law_draw","_law_things","_law_deep"] (jA 2)) (MU:Dn P w K mg base 8 "_law_debt" ["_law_rows","_law_told_here"] (yh Z Db)) (J7:Dn P w K mg base 22 "_law_right" ["_law_debt_here","_law_rows","_law_told_here","_law_draw"] (qA Z Db)) (j8:M4 P w K mg base 4 Z "told" ["self"] (fH Z 3)):bu P w K mg base dX 23 f fd ["_law_script"] (Df K):=by
 obtain ⟨RL,Qp,q9,nZ,oh,qZ⟩:=E4
 obtain ⟨vB,pZ,cK,bQ,bR,cJ⟩:=gw
 obtain ⟨Xa,T5,Nh,IX,Jk,M3⟩:=MR
 obtain ⟨Xe,Ub,Nj,IZ,Jm,M6⟩:=MV
 obtain ⟨rV,p6,fE,eT,eU,fB⟩:=gH
 obtain ⟨Xd,T9,Rg,L4,Mh,Q3⟩:=MU
 obtain ⟨Ud,RI,Ng,IW,Jj,M1⟩:=J7
 refine F.ok fN (fun vs H Q E h=>?_) (fun cdv A outer s H vs Q E hr h=>?_)
 ·obtain ⟨a,ns,rfl,hS,hz,k⟩:=h
  rfl
 ·obtain ⟨a,ns,rfl,hS,hz,k⟩:=h
  have hu:=br hr
  rw [show av wC=[_,_,_,_,_,_] from rfl]
  refine ⟨_,(ao (aO (i:=1) fN.nd rfl (Or.inl rfl) (bB (aa (aB q9 (hr.mono (by first | decide | omega)) rfl nZ oh qZ .nil aD (aa (pv 0) (aa ak ai))) (aa ak ai))))
   (ao (aO (i:=2) fN.nd rfl (Or.inl rfl) (bg uI (aB Nh (hr.mono (by first | decide | omega)) rfl IX Jk M3 .nil aD (aa (pv 1) (aa ak ai))) (bB (aa aU ai))))
   (ao (aO (i:=3) fN.nd rfl (Or.inl rfl) (bB ai))
   (ao (dP PassesOwn.never rfl (eO rfl T.range (aa ak ai)) (aK (i:=4) fN.nd rfl (Or.inl rfl)) (ao (BD (aB Nj (hr.mono (by first | decide | omega)) rfl IZ Jm M6 .nil aD (aa (bB (aa (aB q9 (hr.mono (by first | decide | omega)) rfl nZ oh qZ .nil aD (aa (pv 0) (aa (bg dQ ak (pv 4)) ai))) (aa ak ai))) (aa (pv 2) ai))) (qK rfl (cN (aK (i:=5) fN.nd rfl (Or.inl rfl)) (cN (aK (i:=6) fN.nd rfl (Or.inl rfl)) jM))))
   (ao (bS (aP bV (aB cK (hr.mono (by first | decide | omega)) rfl bQ bR cJ .nil aD (aa (pv 1) (aa ak ai))) ak (aL _)) (au (aO (i:=5) fN.nd rfl (Or.inl rfl) (bg uI (bg BH (bB (aa (bG (aa aU (aa (aM bZ (pv 2) ak (fun _ _=>rfl)) ai))) ai)) ak) (pv 5)))) bE)
   (ao (aO (i:=7) fN.nd rfl (Or.inl rfl) (aB fE (hr.mono (by first | decide | omega)) rfl eT eU fB .nil aD (aa (bB (aa (aB q9 (hr.mono (by first | decide | omega)) rfl nZ oh qZ .nil aD (aa (pv 0) (aa (bg dQ ak (pv 4)) ai))) (aa ak ai))) (aa (pv 6) (aa ak ai)))))
   (au (cT (iS PySem.F.plainAttrs_list PySem.F.slot_list_append PySem.F.type_list_append eS (pv 3) (aa (bG (aa (aB Rg (hr.mono (by first | decide | omega)) rfl L4 Mh Q3 .nil aD (aa (pv 5) (aa (pv 7) ai))) (aa (pv 5) (aa (pv 7) ai)))) ai))))))))
   (ao (dP PassesOwn.never rfl (eZ (bB (aa ak (aa ak (aa ak ai))))) (aK (i:=4) fN.nd rfl (Or.inl rfl)) (ao (BD (aM bZ (pv 3) (pv 4) (fun _ _=>rfl)) (qK rfl (cN (aK (i:=8) fN.nd rfl (Or.inl rfl)) (cN (aK (i:=5) fN.nd rfl (Or.inl rfl)) (cN (aK (i:=7) fN.nd rfl (Or.inl rfl)) jM)))))
   (ao (aO (i:=9) fN.nd rfl (Or.inl rfl) (bz jX (by rfl) T.list boot_list (aa (aY (pv 8) rfl) ai)))
   (au (bS (PW.pt (uB (qI (nR (aB Ng (hr.mono (by first | decide | omega)) rfl IW Jj M1 .nil aD (aa (pv 8) (aa (pv 5) (aa (pv 7) (aa (pv 1) ai))))))) (nQ (aP (Ph (uL hr)) (bz jX (by rfl) T.list boot_list (aa (aY (pv 8) rfl) ai)) (pv 9) (aL _))))) (au (aI kW)) bE)))))
   (au (aI (bK (HW 6 (uL hr)) (kR (Z:=Z) (aY (aM aR (aM bZ (pv 3) ak (fun _ _=>rfl)) ak (fun _ _=>rfl)) rfl) U.cl sU j8 (hr.mono (by first | decide | omega)) aD) (aM aR (aM bZ (pv 3) ak (fun _ _=>rfl)) ak (fun _ _=>rfl)) (aL _))))))))),?_⟩
  refine ⟨_,rfl,a,ns,0,rfl,hS,fun r0=>⟨(szl 2),fun d hd=>?_⟩⟩
  have s0:=new (o:=.lst [V.int r0,V.int 0]) hd
  have D0:Dr (upd H d (.lst [V.int r0,V.int 0])) d:=⟨r0,0,ah⟩
  generalize upd H d (.lst [V.int r0,V.int 0])=H0 at s0 D0 ⊢
  refine ⟨_,rfl,d,3,rfl,D0,(by decide),fun nl nm H1 b1 d1 fnl enl lnm hnm=>⟨(Nat.le_of_lt (line 1 (by decide))),fun q0 sE=>?_⟩⟩
  have y1:=new (o:=.lst [V.str "#a"]) sE
  refine ⟨nl,q0,_,_,rfl,rfl,y1 _ _ enl,ah,(by rw [List.length_map];show nm.length+1≤sizeLine;exact Nat.le_of_lt (line _ (by omega))),fun th hth=>?_⟩
  have y2:=new (o:=.lst (nm.map V.str++[V.str "#a"])) hth
  have Qx:(upd (upd H1 q0 (.lst [V.str "#a"])) th (.lst (nm.map V.str++[V.str "#a"]))) th=some (.lst ((nm++(["#a"]:List Str)).map V.str)):=by rw [ah,List.map_append];rfl
  have D2:=(d1.same y1).same y2
  have nth:th≠d:=(d1.same y1).ne hth
  have sH:az H (upd (upd H1 q0 (.lst [V.str "#a"])) th (.lst (nm.map V.str++[V.str "#a"]))):=fun b o z=>y2 _ _ (y1 _ _ (b1 _ _ (s0 _ _ z) (aq z hd)))
  have lxs:(nm++(["#a"]:List Str)).length=4:=by rw [List.length_append,lnm];rfl
  have hxs:∀ x∈nm++(["#a"]:List Str),x.length≤100:=fun x hx=>by
   rcases List.mem_append.mp hx with z | z
   ·have:=hnm x z;omega
   ·rw [List.mem_singleton.mp z];decide +kernel
  generalize upd (upd H1 q0 (.lst [V.str "#a"])) th (.lst (nm.map V.str++[V.str "#a"]))=H2 at Qx D2 sH ⊢
  generalize nm++(["#a"]:List Str)=xs at Qx lxs hxs
  clear y1 y2 d1 b1 enl sE hth D0 s0
  refine ⟨Nat.zero_le _,fun pl hpl=>?_⟩
  have y3:=new (o:=.lst []) hpl
  have Tt:H pl=none:=sH.free hpl
  have Rx:pl≠d:=D2.ne hpl
  have ntp:th≠pl:=aq Qx hpl
  have D2:=D2.same y3
  have Qx:=y3 _ _ Qx
  have sH:=sH.trans y3
  have epl:(upd H2 pl (.lst [])) pl=some (.lst []):=ah
  generalize upd H2 pl (.lst [])=H2' at D2 Qx sH epl ⊢
  clear y3 hpl
  refine ⟨(2:Int),rfl,by decide,by decide,g9 (n:=2) (fun i σ H'=>∃ (o4 o5 o6 o7 o8 o9:Option V) (vs:List V) (es:List (List Rw×Cd)),σ=[some (.ref a),some (.ref d),some (.ref th),some (.ref pl),o4,o5,o6,o7,o8,o9]∧az H H'∧Dr H' d∧H' th=some (.lst (xs.map V.str))∧H' pl=some (.lst vs)∧Paired (Nc Z Db d pl H') vs es∧es.length=i) ⟨none,none,none,none,none,none,[],[],rfl,sH,D2,Qx,epl,.nil,rfl⟩ ?_ ?_⟩
  ·rintro i σ H3 hi ⟨o4,o5,o6,o7,o8,o9,vs,es,rfl,Zt,D3,MG,EY,RH,Te⟩
   refine ⟨_,rfl,_,rfl,_,_,rfl,rfl,a,ns,1+i,(by rw [Int.zero_add,Int.natCast_add];rfl),Zt.seq hS,fun r2=>⟨(szl 2),fun d1 hd1=>?_⟩⟩
   have sd:=new (o:=.lst [V.int r2,V.int 0]) hd1
   refine ⟨_,rfl,d1,th,xs,rfl,⟨r2,0,ah⟩,sd _ _ MG,by omega,by omega,hxs,fun r rw' kn us rs ks H4 b4 D4 fr er frw fkn erw hT hR l7 ekn kpos k7 jb=>?_⟩
   have s4:az H3 H4:=fun b o z=>b4 _ _ (sd _ _ z) (aq z hd1)
   refine ⟨r,_,rfl,aV.of er,rfl,_,_,rfl,_,_,rfl,rfl,?_⟩
   have D4:=D3.same s4
   have sH4:=Zt.trans s4
   have Uo:=s4 _ _ MG
   have EX:=s4 _ _ EY
   have RG:=L2.Paired.dh RH fun _ _ z=>z.keep (aE.of s4) fun b u9 _ _ z=>s4 _ _ z
   have SS:rw'≠d:=D3.ne (gE frw)
   have a2q:rw'≠pl:=(aq EY (gE frw)).symm
   have V1:kn≠d:=D3.ne (gE fkn)
   have a7:cG rs≤7:=Nat.le_trans (tH rs) l7
   refine ⟨_,rfl,d,8,rfl,D4,(by decide),fun r4 H5 h4 b5 D5=>⟨rfl,_,rfl,?_⟩⟩
   have h45:=D4.soft b5
   have Zs:az H H5:=fun b o z=>b5 _ _ (sH4 _ _ z) (aq z hd)
   have QA:=b5 _ _ erw SS
   have Uw:=b5 _ _ ekn V1
   have Qw:=b5 _ _ Uo nth
   have yZ:=b5 _ _ EX Rx
   have P8:=aN hT h45
   have P9:=L2.Paired.dh RG fun _ _ z=>z.keep h45 fun b u9 n1 _ z=>b5 _ _ z n1
   clear erw ekn Uo hT b5 h45 RH RG EY EX
   by_cases z4:r4=0
   ·refine bL (by rw [z4];rfl) ?_
    obtain ⟨x0,hx0⟩:∃ x0,(xs.map V.str)[0]?=some (V.str x0):=by
     cases xs with
     | nil=>cases lxs
     | cons a b=>exact ⟨a,rfl⟩
    refine ⟨_,rfl,th,_,_,_,rfl,rfl,bx.of Qw,dJ (j:=0) hx0,(szl 2),fun q1 hq1=>⟨(Nat.le_of_lt (line 1 (by decide))),fun q2 hq2=>?_⟩⟩
    refine ⟨q2,10,[V.ref q1],rfl,rfl,ah,by decide,by decide,(by show 1*10≤sizeLine;exact Nat.le_of_lt (line _ (by decide))),fun q3 oz=>?_⟩
    have y1:=new (o:=.tup [V.str "any",V.str x0]) hq1
    have y2:=new (o:=.lst [V.ref q1]) hq2
    have e10:(List.replicate ((10:Int).toNat) [V.ref q1]).flatten=List.replicate 10 (V.ref q1):=wU _ 10
    rw [e10]
    have y3:=new (o:=.lst (List.replicate 10 (V.ref q1))) oz
    have qu:=ay P8
    refine ⟨_,rfl,q3,rw',_,_,rfl,rfl,ah,y3 _ _ (y2 _ _ (y1 _ _ QA)),(by rw [List.length_replicate];exact Nat.le_of_lt (line _ (by omega))),fun q4 RB=>?_⟩
    have y4:=new (o:=.lst (List.replicate 10 (V.ref q1)++us)) RB
    have sy:=((y1.trans y2).trans y3).trans y4
    have hTa:gK (upd (upd (upd (upd H5 q1 (.tup [V.str "any",V.str x0])) q2 (.lst [V.ref q1])) q3 (.lst (List.replicate 10 (V.ref q1)))) q4 (.lst (List.replicate 10 (V.ref q1)++us))) (List.replicate 10 (V.ref q1)++us) (List.replicate 10 (.any x0)++rs):=iz (tP (r:=.any x0) ⟨q1,rfl,y4 _ _ (y3 _ _ (y2 _ _ ah))⟩ 10) (aN P8 (aE.of sy))
    have era:(upd (upd (upd (upd H5 q1 (.tup [V.str "any",V.str x0])) q2 (.lst [V.ref q1])) q3 (.lst (List.replicate 10 (V.ref q1)))) q4 (.lst (List.replicate 10 (V.ref q1)++us))) q4=some (.lst (List.replicate 10 (V.ref q1)++us)):=ah
    have nra:q4≠d:=(((D5.same y1).same y2).same y3).ne RB
    have SW:q4≠pl:=(aq (y3 _ _ (y2 _ _ (y1 _ _ yZ))) RB).symm
    have hRa:oA (List.replicate 10 (.any x0)++rs):=hR.behind
    have kia:∀ x∈ks,x∈gY (List.replicate 10 (.any x0)++rs)∧x.length≤100:=fun x hx=>⟨BY x (jb x hx).1,(jb x hx).2⟩
    have lra:(List.replicate 10 (Rw.any x0)++rs).length≤17:=by rw [List.length_append,List.length_replicate];omega
    have ara:cG (List.replicate 10 (.any x0)++rs)≤17:=by rw [cW,xN];omega
    have Da:=D5.same sy
    have Zr:=Zs.trans sy
    have Um:=sy _ _ Qw
    have Uv:=sy _ _ Uw
    have QC:=sy _ _ yZ
    have hPa:=L2.Paired.dh P9 fun _ _ z=>z.keep (aE.of sy) fun b u9 _ _ z=>sy _ _ z
    have a2E:(List.replicate 10 (V.ref q1)++us).length≤100:=by rw [List.length_append,List.length_replicate];omega
    generalize upd (upd (upd (upd H5 q1 (.tup [V.str "any",V.str x0])) q2 (.lst [V.ref q1])) q3 (.lst (List.replicate 10 (V.ref q1)))) q4 (.lst (List.replicate 10 (V.ref q1)++us))=Ha at hTa era Da Zr Um Uv QC hPa sy y4 ⊢
    generalize List.replicate 10 (V.ref q1)++us=ua at hTa era a2E
    generalize List.replicate 10 (Rw.any x0)++rs=ra at hTa hRa kia lra ara
    refine ⟨_,rfl,_,rfl,_,_,rfl,rfl,a,ns,3+i,(by rw [Int.zero_add,Int.natCast_add];rfl),Zr.seq hS,fun r5=>⟨(szl 2),fun d2 hd2=>?_⟩⟩
    have sd:=new (o:=.lst [V.int r5,V.int 0]) hd2
    refine ⟨_,rfl,d2,kn,1,ks,rfl,by decide,⟨r5,0,ah⟩,sd _ _ Uv,by omega,(fun z hz=>(kia z hz).2),fun vc cc H6 b6 d6 ht KP hgd hfu mU=>?_⟩
    have s6:az Ha H6:=fun b o z=>b6 _ _ (sd _ _ z) (aq z hd2)
    have Tw:cc.ff≤3:=mU
    have hcc:Dh (gY ra) (.hold cc):=⟨(Ge.of hgd).mono fun x hx=>(kia x hx).1,hfu,by omega,by omega⟩
    have QD:=s6 _ _ QC
    have Qz:=s6 _ _ era
    refine ⟨_,rfl,.inl ⟨rfl,_,bx.of QD⟩,_,rfl,_,rfl,q4,ua,ra,vc,cc,rfl,Qz,aN hTa (aE.of s6),hRa,by omega,ht,hcc,fun pd H7 s7 fpd hD=>?_⟩
    refine ⟨_,rfl,_,rfl,(szl 3),fun tq htq=>?_⟩
    have s8:=new (o:=.tup [V.ref pd,V.ref q4,vc]) htq
    have yp:=(s6.trans s7).trans s8
    have Cu:=yp _ _ QC
    have ff:=ay hPa
    refine ⟨pl,_,_,rfl,rfl,Cu,line _ (by omega),?_⟩
    have bP:bI pl (upd H7 tq (.tup [V.ref pd,V.ref q4,vc])) (upd (upd H7 tq (.tup [V.ref pd,V.ref q4,vc])) pl (.lst (vs++[V.ref tq]))):=bI.upd
    have EN:=aE.soft bP Cu fK
    have Up:(upd H7 tq (.tup [V.ref pd,V.ref q4,vc])) tq=some (.tup [V.ref pd,V.ref q4,vc]):=ah
    have D8:=hD.same s8
    have T8:=aN hTa (aE.of yp)
    have t8:=ht.aH (aE.of (s7.trans s8))
    have e8:=yp _ _ era
    have VP:=Da.same yp
    have Sw:=Zr.trans yp
    have JW:=yp _ _ Um
    generalize upd H7 tq (.tup [V.ref pd,V.ref q4,vc])=H8 at s8 yp Cu bP EN Up D8 T8 t8 e8 VP Sw JW ⊢
    refine ⟨_,_,_,_,_,_,vs++[V.ref tq],es++[(ra,cc)],rfl,fun b o z=>bP _ _ (Sw _ _ z) (aq z Tt),(let ⟨x,y,q⟩:=VP;⟨x,y,bP _ _ q Rx.symm⟩),bP _ _ JW ntp,ah,?_,by rw [List.length_append,Te];rfl⟩
    refine aS (L2.Paired.dh hPa fun _ _ z=>z.keep ((aE.of yp).trans EN) fun b u9 n1 n2 z=>bP _ _ (yp _ _ z) n2) ⟨⟨hRa,(show (ra).length≤20 by omega),(show cG ra≤19 by omega),hcc⟩,tq,pd,q4,vc,ua,rfl,EN.t _ _ Up,D8.aH EN,bP _ _ e8 SW,nra,SW,aN T8 EN,t8.aH EN⟩
   ·refine aZ (fun z=>z4 (by have:=V.int.inj z;omega)) ?_
    have lr5:rs.length≤17:=by omega
    have b3T:us.length≤100:=by have:=ay P8;omega
    have Tg:=jb
    have a2p:=SS
    have SX:=a2q
    refine ⟨_,rfl,_,rfl,_,_,rfl,rfl,a,ns,3+i,(by rw [Int.zero_add,Int.natCast_add];rfl),Zs.seq hS,fun r5=>⟨(szl 2),fun d2 hd2=>?_⟩⟩
    have sd:=new (o:=.lst [V.int r5,V.int 0]) hd2
    refine ⟨_,rfl,d2,kn,1,ks,rfl,by decide,⟨r5,0,ah⟩,sd _ _ Uw,by omega,(fun z hz=>(Tg z hz).2),fun vc cc H6 b6 d6 ht KP hgd hfu mU=>?_⟩
    have s6:az H5 H6:=fun b o z=>b6 _ _ (sd _ _ z) (aq z hd2)
    have Tw:cc.ff≤3:=mU
    have hcc:Dh (gY rs) (.hold cc):=⟨(Ge.of hgd).mono fun x hx=>(Tg x hx).1,hfu,by omega,by omega⟩
    have QD:=s6 _ _ yZ
    have Qz:=s6 _ _ QA
    refine ⟨_,rfl,.inl ⟨rfl,_,bx.of QD⟩,_,rfl,_,rfl,rw',us,rs,vc,cc,rfl,Qz,aN P8 (aE.of s6),hR,by omega,ht,hcc,fun pd H7 s7 fpd hD=>?_⟩
    refine ⟨_,rfl,_,rfl,(szl 3),fun tq htq=>?_⟩
    have s8:=new (o:=.tup [V.ref pd,V.ref rw',vc]) htq
    have yp:=(s6.trans s7).trans s8
    have Cu:=yp _ _ yZ
    have ff:=ay P9
    refine ⟨pl,_,_,rfl,rfl,Cu,line _ (by omega),?_⟩
    have bP:bI pl (upd H7 tq (.tup [V.ref pd,V.ref rw',vc])) (upd (upd H7 tq (.tup [V.ref pd,V.ref rw',vc])) pl (.lst (vs++[V.ref tq]))):=bI.upd
    have EN:=aE.soft bP Cu fK
    have Up:(upd H7 tq (.tup [V.ref pd,V.ref rw',vc])) tq=some (.tup [V.ref pd,V.ref rw',vc]):=ah
    have D8:=hD.same s8
    have T8:=aN P8 (aE.of yp)
    have t8:=ht.aH (aE.of (s7.trans s8))
    have e8:=yp _ _ QA
    have VP:=D5.same yp
    have Sw:=Zs.trans yp
    have JW:=yp _ _ Qw
    generalize upd H7 tq (.tup [V.ref pd,V.ref rw',vc])=H8 at s8 yp Cu bP EN Up D8 T8 t8 e8 VP Sw JW ⊢
    refine ⟨_,_,_,_,_,_,vs++[V.ref tq],es++[(rs,cc)],rfl,fun b o z=>bP _ _ (Sw _ _ z) (aq z Tt),(let ⟨x,y,q⟩:=VP;⟨x,y,bP _ _ q Rx.symm⟩),bP _ _ JW ntp,ah,?_,by rw [List.length_append,Te];rfl⟩
    refine aS (L2.Paired.dh P9 fun _ _ z=>z.keep ((aE.of yp).trans EN) fun b u9 n1 n2 z=>bP _ _ (yp _ _ z) n2) ⟨⟨hR,(show (rs).length≤20 by omega),(show cG rs≤19 by omega),hcc⟩,tq,pd,rw',vc,us,rfl,EN.t _ _ Up,D8.aH EN,bP _ _ e8 SX,a2p,SX,aN T8 EN,t8.aH EN⟩
  rintro σ H3 ⟨o4,o5,o6,o7,o8,o9,vs,es,rfl,Zt,D3,MG,EY,RH,Te⟩
  have Te:es.length=2:=Te
  have ff:=ay RH
  refine ⟨(szl 3),fun wl hwl=>?_⟩
  have sW:=new (o:=.lst [V.int 0,.int 1,.int 0]) hwl
  have nwl:wl≠d:=D3.ne hwl
  have ewl:(upd H3 wl (.lst [V.int 0,.int 1,.int 0])) wl=some (.lst [V.int 0,.int 1,.int 0]):=ah
  have D4:=D3.same sW
  have RG:=L2.Paired.dh RH fun _ _ z=>z.keep (aE.of sW) fun b u9 _ _ z=>sW _ _ z
  have EX:=sW _ _ EY
  generalize upd H3 wl (.lst [V.int 0,.int 1,.int 0])=H4 at ewl D4 RG EX ⊢
  clear RH EY D3 sW MG
  refine ⟨wl,rfl,⟨_,bx.of ewl⟩,fS (xs:=[.int 0,.int 1,.int 0]) (fun i σ H'=>(∃ o4 o5 o6 o7 o8 o9:Option V,σ=[some (.ref a),some (.ref d),some (.ref th),some (.ref pl),o4,o5,o6,o7,o8,o9])∧bI d H4 H'∧Dr H' d) ⟨⟨_,_,_,_,_,_,rfl⟩,fun _ _ z _=>z,D4⟩ (fun i σ H' _ q=>bx.of (q.2.1 _ _ ewl nwl)) ?_ ?_⟩
  ·rintro i v σ H5 hi ⟨⟨o4,o5,o6,o7,o8,o9,rfl⟩,F9,D⟩
   obtain ⟨w,hw,rfl⟩:∃ w:Nat,w < 2∧v=.int (w:Int):=match i,hi with
    | 0,h=>by cases h;exact ⟨0,by decide,rfl⟩
    | 1,h=>by cases h;exact ⟨1,by decide,rfl⟩
    | 2,h=>by cases h;exact ⟨0,by decide,rfl⟩
    | n+3,h=>by simp at h
   have hk:=D4.soft F9
   have P9:=L2.Paired.dh RG fun _ _ z=>z.keep hk fun b u9 n1 _ z=>F9 _ _ z n1
   have yZ:=F9 _ _ EX Rx
   have hv:vs[w]?=some vs[w]:=List.getElem?_eq_getElem (by omega)
   obtain ⟨e,he,⟨oR,o20,o19,oC⟩,t,p,ar,w9,us,ev,et,hD,ea,S9,nap,hT,ht⟩:=aW P9 hv
   rw [ev] at hv
   obtain ⟨dx,k0,a0,h,Rt,v9,ep,eh,hrw,RE⟩:=id hD
   refine ⟨_,rfl,_,rfl,pl,_,_,_,rfl,rfl,bx.of yZ,dJ hv,t,_,rfl,aV.of et,rfl,_,_,rfl,_,_,rfl,_,_,rfl,rfl,?_⟩
   refine ⟨_,rfl,p,Db,dx,_,_,rfl,ep,W.cd,W.nd _ (by decide +kernel),qX _ _ _ _,h,Rt,rfl,.inr (aV.of eh),fun q1 hq1=>?_⟩
   have s6:=new (o:=.lst Rt) hq1
   have nq1:q1≠d:=D.ne hq1
   refine ⟨_,rfl,_,rfl,_,rfl,_,rfl,p,ar,d,us,e.1,w9,e.2,rfl,hD.same s6,s6 _ _ ea,S9,aN hT (aE.of s6),oR,o20,o19,ht.aH (aE.of s6),oC,D.same s6,fun H7 b7 D7=>⟨_,rfl,wG ?_⟩⟩
   have TF:=(aE.of s6).trans ((D.same s6).soft b7)
   refine ⟨_,rfl,p,Db,dx,_,_,rfl,TF.i _ _ _ _ ep,W.cd,W.nd _ (by decide +kernel),qX _ _ _ _,h,Rt,rfl,.inr (aV.of (TF.t _ _ eh)),fun q2 hq2=>?_⟩
   have s8:=new (o:=.lst Rt) hq2
   refine ⟨_,rfl,q2,q1,Rt,rfl,rfl,bx.of ah,bx.of (s8 _ _ (b7 _ _ ah nq1)),wR hrw,_,rfl,wG ?_⟩
   exact ⟨⟨_,_,_,_,_,_,rfl⟩,((F9.trans (bI.of s6)).trans b7).trans (bI.of s8),D7.same s8⟩
  rintro σ H5 ⟨⟨o4,o5,o6,o7,o8,o9,rfl⟩,F9,D⟩
  have hk:=D4.soft F9
  have P9:=L2.Paired.dh RG fun _ _ z=>z.keep hk fun b u9 n1 _ z=>F9 _ _ z n1
  have yZ:=F9 _ _ EX Rx
  have hv:vs[0]?=some vs[0]:=List.getElem?_eq_getElem (by omega)
  obtain ⟨e,he,⟨oR,o20,o19,oC⟩,t,p,ar,w9,us,ev,et,hD,ea,S9,nap,hT,ht⟩:=aW P9 hv
  rw [ev] at hv
  obtain ⟨dx,k0,a0,h,Rt,v9,ep,eh,hrw,RE⟩:=id hD
  obtain ⟨pc,rfl⟩:=cu RE
  refine ⟨_,rfl,pl,_,_,_,rfl,rfl,bx.of yZ,dJ (j:=0) hv,t,_,0,_,rfl,rfl,aV.of et,rfl,p,Db,dx,_,_,rfl,ep,W.cd,W.nd _ (by decide +kernel),AJ _ _ _ _,pc,e.2,rfl,RE,pc,e.2,rfl,rfl,RE,oC.2.2.1,fun v3 J3 j3 T3=>?_⟩
  exact ⟨_,rfl,pl,_,_,_,rfl,rfl,bx.of (j3 _ _ yZ),dJ (j:=0) hv,t,_,2,_,rfl,rfl,aV.of (j3 _ _ et),rfl,Bt T3 (ht.aH (aE.of j3)) (by have:=oC.2.2.1;omega) (k _)⟩
abbrev ny:Stmt:=inClass (top 2) 0
theorem mQ:aG ["self","words"] ["self","words"] (aj ny):=⟨rfl,rfl,rfl,by decide +kernel,rfl,by decide +kernel,by decide +kernel⟩
theorem HZ {f:Addr} {fd:FuncData} {Z:Cz} {n:Nat} {TM W fT fW:Addr} {dY dS:List Value} (F:cX K "__init__" "WritError.__init__" ny f fd) (T:Txt K mg Z.s) (U:gh K mg Z) (XT:dW K mg TM W fT fW dY dS) :bu P w K mg base dX 1 f fd ["self","words"] (lZ TM):=by
 refine F.ok mQ (fun vs H Q E h=>?_) (fun cdv A outer s H vs Q E hr h=>?_)
 ·obtain ⟨a,v,rfl,ha,k⟩:=h
  rfl
 ·obtain ⟨a,v,rfl,ha,k⟩:=h
  have hu:=br hr
  rw [show av ny=[_] from rfl]
  refine ⟨_,(au (cT (HM XT.ct rfl XT.mgV XT.gv (aa (pv 0) (aa (pv 1) ai))))),?_⟩
  exact ⟨_,rfl,_,rfl,a,v,rfl,ha,k⟩
abbrev jF:Stmt:=inClass (top 3) 0
theorem oM:aG ["self","words"] ["self","words"] (aj jF):=⟨rfl,rfl,rfl,by decide +kernel,rfl,by decide +kernel,by decide +kernel⟩
theorem Et {f:Addr} {fd:FuncData} {Z:Cz} {n:Nat} {TM W fT fW:Addr} {dY dS:List Value} (F:cX K "__init__" "TooMany.__init__" jF f fd) (T:Txt K mg Z.s) (U:gh K mg Z) (XT:dW K mg TM W fT fW dY dS) (MO:∃ fd,bu P w K mg base dX 1 fW fd ["self","words"] (lZ TM)∧Binds K fd ["self","words"] []):bu P w K mg base dX 2 f fd ["self","words"] (lZ TM):=by
 obtain ⟨b4Y,Nf,M0⟩:=MO
 refine F.ok oM (fun vs H Q E h=>?_) (fun cdv A outer s H vs Q E hr h=>?_)
 ·obtain ⟨a,v,rfl,ha,k⟩:=h
  rfl
 ·obtain ⟨a,v,rfl,ha,k⟩:=h
  have hu:=br hr
  rw [show av jF=[_] from rfl]
  refine ⟨_,(au (cT (Lr rfl XT.mgW XT.g1 XT.g2 XT.g3 XT.g4 XT.g5 Nf (hr.mono (by decide)) M0 aD (aa (pv 0) (aa (pv 1) ai))))),?_⟩
  exact ⟨_,rfl,_,rfl,a,v,rfl,ha,k⟩
theorem Ko {Z:Cz} {f0 f1 f2 f3:Addr} {Cp Cn Cm Ck:FuncData} (T:Txt K mg Z.s) (U:gh K mg Z) (F0:cX K "told" "Compare.told" kO f0 Cp) (h0:Meth K (dH Z 0) "told" f0) (b0:Binds K Cp ["self"] []) (F1:cX K "told" "Turned.told" kI f1 Cn) (h1:Meth K (dH Z 1) "told" f1) (b1:Binds K Cn ["self"] []) (F2:cX K "told" "Every.told" kN f2 Cm) (h2:Meth K (dH Z 2) "told" f2) (b2:Binds K Cm ["self"] []) (F3:cX K "told" "Some.told" kK f3 Ck) (h3:Meth K (dH Z 3) "told" f3) (b3:Binds K Ck ["self"] []) (CA:Mt P w K mg base 1 Z.s "told" ["self"] (yb Z.s)):∀ n,M4 P w K mg base (n+1) Z "told" ["self"] (fH Z n):=by
 refine yK (lv:=fun n=>n+1) (sp:=fun n=>fH Z n) (fun j=>match j with | 0=>f0 | 1=>f1 | 2=>f2 | _=>f3) (fun j=>match j with | 0=>Cp | 1=>Cn | 2=>Cm | _=>Ck) (fun j hj=>?_) (fun j hj=>?_) (R0 Z) (fun n R j hj=>?_)
 ·match j,hj with
  | 0,_=>exact h0
  | 1,_=>exact h1
  | 2,_=>exact h2
  | 3,_=>exact h3
 ·match j,hj with
  | 0,_=>exact b0
  | 1,_=>exact b1
  | 2,_=>exact b2
  | 3,_=>exact b3
 ·match j,hj with
  | 0,_=>exact Iz (n:=n) F0 T U CA
  | 1,_=>exact Ie (n:=n) F1 T U R
  | 2,_=>exact Iv (n:=n) F2 T U R
  | 3,_=>exact Il (n:=n) F3 T U R
theorem zk {Z:Cz} {f0 f1 f2 f3:Addr} {Cp Cn Cm Ck:FuncData} (T:Txt K mg Z.s) (U:gh K mg Z) (F0:cX K "opposite" "Compare.opposite" rM f0 Cp) (h0:Meth K (dH Z 0) "opposite" f0) (b0:Binds K Cp ["self"] []) (F1:cX K "opposite" "Turned.opposite" rF f1 Cn) (h1:Meth K (dH Z 1) "opposite" f1) (b1:Binds K Cn ["self"] []) (F2:cX K "opposite" "Every.opposite" rK f2 Cm) (h2:Meth K (dH Z 2) "opposite" f2) (b2:Binds K Cm ["self"] []) (F3:cX K "opposite" "Some.opposite" rH f3 Ck) (h3:Meth K (dH Z 3) "opposite" f3) (b3:Binds K Ck ["self"] []) (fX:Mr P w K mg base 1 Z.c ["self","one","sign","other"] (iM Z)) (CB:Nd P w K mg) (fU:Mr P w K mg base 1 Z.o ["self","conditions"] (dD Z.o)) (fV:Mr P w K mg base 1 Z.e ["self","conditions"] (dD Z.e)):∀ n,M4 P w K mg base (n+2) Z "opposite" ["self"] (gO Z n):=by
 refine yK (lv:=fun n=>n+2) (sp:=fun n=>gO Z n) (fun j=>match j with | 0=>f0 | 1=>f1 | 2=>f2 | _=>f3) (fun j=>match j with | 0=>Cp | 1=>Cn | 2=>Cm | _=>Ck) (fun j hj=>?_) (fun j hj=>?_) (a0u Z) (fun n R j hj=>?_)
 ·match j,hj with
  | 0,_=>exact h0
  | 1,_=>exact h1
  | 2,_=>exact h2
  | 3,_=>exact h3
 ·match j,hj with
  | 0,_=>exact b0
  | 1,_=>exact b1
  | 2,_=>exact b2
  | 3,_=>exact b3
 ·match j,hj with
  | 0,_=>exact LQ (n:=n) F0 T U fX CB
  | 1,_=>exact Ly (n:=n) F1 T U
  | 2,_=>exact LO (n:=n) F2 T U R fU
  | 3,_=>exact LD (n:=n) F3 T U R fV
theorem CM {Z:Cz} {f0 f1 f2 f3:Addr} {Cp Cn Cm Ck:FuncData} (T:Txt K mg Z.s) (U:gh K mg Z) (F0:cX K "put_in" "Compare.put_in" rL f0 Cp) (h0:Meth K (dH Z 0) "put_in" f0) (b0:Binds K Cp ["self","sums"] []) (F1:cX K "put_in" "Turned.put_in" rE f1 Cn) (h1:Meth K (dH Z 1) "put_in" f1) (b1:Binds K Cn ["self","sums"] []) (F2:cX K "put_in" "Every.put_in" rJ f2 Cm) (h2:Meth K (dH Z 2) "put_in" f2) (b2:Binds K Cm ["self","sums"] []) (F3:cX K "put_in" "Some.put_in" rG f3 Ck) (h3:Meth K (dH Z 3) "put_in" f3) (b3:Binds K Ck ["self","sums"] []) (lI:Mt P w K mg base 5 Z.s "put_in" ["self","sums"] (tX Z.s)) (fX:Mr P w K mg base 1 Z.c ["self","one","sign","other"] (iM Z)) (jW:Mr P w K mg base 1 Z.t ["self","condition"] (l0 Z)) (fV:Mr P w K mg base 1 Z.e ["self","conditions"] (dD Z.e)) (fU:Mr P w K mg base 1 Z.o ["self","conditions"] (dD Z.o)):∀ n,M4 P w K mg base (n+5) Z "put_in" ["self","sums"] (fJ Z n):=by
 refine yK (lv:=fun n=>n+5) (sp:=fun n=>fJ Z n) (fun j=>match j with | 0=>f0 | 1=>f1 | 2=>f2 | _=>f3) (fun j=>match j with | 0=>Cp | 1=>Cn | 2=>Cm | _=>Ck) (fun j hj=>?_) (fun j hj=>?_) (SG Z) (fun n R j hj=>?_)
 ·match j,hj with
  | 0,_=>exact h0
  | 1,_=>exact h1
  | 2,_=>exact h2
  | 3,_=>exact h3
 ·match j,hj with
  | 0,_=>exact b0
  | 1,_=>exact b1
  | 2,_=>exact b2
  | 3,_=>exact b3
 ·match j,hj with
  | 0,_=>exact LP (n:=n) F0 T U lI fX
  | 1,_=>exact Lx (n:=n) F1 T U R jW
  | 2,_=>exact LN (n:=n) F2 T U R fV
  | 3,_=>exact LC (n:=n) F3 T U R fU
theorem Fg {Z:Cz} {TM W fT fW:Addr} {dY dS:List Value} {f0 f1 f2 f3:Addr} {Cp Cn Cm Ck:FuncData} (T:Txt K mg Z.s) (U:gh K mg Z) (XT:dW K mg TM W fT fW dY dS) (F0:cX K "cases" "Compare.cases" zV f0 Cp) (h0:Meth K (dH Z 0) "cases" f0) (b0:Binds K Cp ["self"] []) (F1:cX K "cases" "Turned.cases" zS f1 Cn) (h1:Meth K (dH Z 1) "cases" f1) (b1:Binds K Cn ["self"] []) (F2:cX K "cases" "Every.cases" zU f2 Cm) (h2:Meth K (dH Z 2) "cases" f2) (b2:Binds K Cm ["self"] []) (F3:cX K "cases" "Some.cases" zT f3 Ck) (h3:Meth K (dH Z 3) "cases" f3) (b3:Binds K Ck ["self"] []) (vI:Mt P w K mg base 5 Z.s "less" ["self","other"] (tY Z.s)) (QO:Dn P w K mg base 6 "less_one" ["total"] (mh Z.s)) (p8:FI P w K mg base TM 5 "cases_of_both" ["ones","others"] (oJ Z TM)) (vF:FI P w K mg base TM 4 "refuse_too_many" ["count"] (tV TM)) (gi:∀ n,M4 P w K mg base (n+2) Z "opposite" ["self"] (gO Z n)):∀ n,Oq P w K mg base TM (n+6) Z "cases" ["self"] (ud Z TM n):=by
 refine DB (lv:=fun n=>n+6) (sp:=fun n=>ud Z TM n) (fun j=>match j with | 0=>f0 | 1=>f1 | 2=>f2 | _=>f3) (fun j=>match j with | 0=>Cp | 1=>Cn | 2=>Cm | _=>Ck) (fun j hj=>?_) (fun j hj=>?_) (cx0 Z TM) (fun n R j hj=>?_)
 ·match j,hj with
  | 0,_=>exact h0
  | 1,_=>exact h1
  | 2,_=>exact h2
  | 3,_=>exact h3
 ·match j,hj with
  | 0,_=>exact b0
  | 1,_=>exact b1
  | 2,_=>exact b2
  | 3,_=>exact b3
 ·match j,hj with
  | 0,_=>exact Pp (n:=n) F0 T U XT vI QO
  | 1,_=>exact Pj (n:=n) F1 T U XT (gi n) R
  | 2,_=>exact Po (n:=n) F2 T U XT R p8
  | 3,_=>exact Pk (n:=n) F3 T U XT R vF
theorem Ff {Z:Cz} {TM W fT fW:Addr} {dY dS:List Value} {f:Addr} {fd:FuncData} (T:Txt K mg Z.s) (U:gh K mg Z) (XT:dW K mg TM W fT fW dY dS) (F:cX K "_law_condition" "_law_condition" kJ f fd) (hm:mg "_law_condition"=some (.ref f)) (hk:PySem.W.keepIn K (.ref f)=true) (hb:Binds K fd ["_law_draw","_law_things","_law_deep"] []) (gw:Dn P w K mg base 2 "_law_next" ["_law_draw","_law_size"] jB) (vH:Dn P w K mg base 3 "_law_sum" ["_law_draw","_law_things"] tW):∀ n,Dn P w K mg base (n+3) "_law_condition" ["_law_draw","_law_things","_law_deep"] (jA n) :=
 za (lv:=fun n=>n+3) (sp:=fun n=>jA n) hm hk hb (OZ) fun n R=>Ij (n:=n) F T U XT gw vH R
theorem Kq {Z:Cz} {TM W fT fW:Addr} {dY dS:List Value} {f:Addr} {fd:FuncData} (T:Txt K mg Z.s) (U:gh K mg Z) (XT:dW K mg TM W fT fW dY dS) (F:cX K "_law_made" "_law_made" kM f fd) (hm:mg "_law_made"=some (.ref f)) (hk:PySem.W.keepIn K (.ref f)=true) (hb:Binds K fd ["_law_told_here"] []) (d_init:Mr P w K mg base 1 Z.s ["self","terms","number"] (kG Z.s)) (fX:Mr P w K mg base 1 Z.c ["self","one","sign","other"] (iM Z)) (jW:Mr P w K mg base 1 Z.t ["self","condition"] (l0 Z)) (fV:Mr P w K mg base 1 Z.e ["self","conditions"] (dD Z.e)) (fU:Mr P w K mg base 1 Z.o ["self","conditions"] (dD Z.o)):∀ n,Dn P w K mg base (n+2) "_law_made" ["_law_told_here"] (mj Z n) :=
 za (lv:=fun n=>n+2) (sp:=fun n=>mj Z n) hm hk hb (QE Z) fun n R=>LH (n:=n) F T U XT d_init fX jW fV fU R
theorem CN {Z:Cz} {TM W fT fW:Addr} {dY dS:List Value} {f:Addr} {fd:FuncData} (T:Txt K mg Z.s) (U:gh K mg Z) (XT:dW K mg TM W fT fW dY dS) (F:cX K "_law_holds" "_law_holds" iP f fd) (hm:mg "_law_holds"=some (.ref f)) (hk:PySem.W.keepIn K (.ref f)=true) (hb:Binds K fd ["_law_told_here","_law_numbers"] []) (vG:Dn P w K mg base 1 "_law_value" ["_law_one","_law_numbers"] tZ):∀ n,Dn P w K mg base (n+1) "_law_holds" ["_law_told_here","_law_numbers"] (ic n) :=
 za (lv:=fun n=>n+1) (sp:=fun n=>ic n) hm hk hb (MJ) fun n R=>Ey (n:=n) F T U XT vG R
theorem CO {Z:Cz} {TM W fT fW:Addr} {dY dS:List Value} {f:Addr} {fd:FuncData} (T:Txt K mg Z.s) (U:gh K mg Z) (XT:dW K mg TM W fT fW dY dS) (F:cX K "_law_count" "_law_count" iQ f fd) (hm:mg "_law_count"=some (.ref f)) (hk:PySem.W.keepIn K (.ref f)=true) (hb:Binds K fd ["_law_told_here","_law_turned"] []) :∀ n,Ri P w K mg base (n+1) "_law_count" ["_law_told_here","_law_turned"] (ji n) :=
 DV (lv:=fun n=>n+1) (sp:=fun n=>ji n) hm hk hb (Mc) fun n R=>Ez (n:=n) F T U XT  R
end
end Hw
namespace Hw
open PySem L2 PyProof.Rows
theorem Yd {A:FuncData} {B:List Str} (us:List Value) (hl:us.length=0) (k:bindArgs A ⟨[],[]⟩=pure (B.zip [])):bindArgs A ⟨us,[]⟩=pure (B.zip us):=match us,hl with | [],_=>k
theorem ia {A:FuncData} {B:List Str} (us:List Value) (hl:us.length=1) (k:∀ a,bindArgs A ⟨[a],[]⟩=pure (B.zip [a])):bindArgs A ⟨us,[]⟩=pure (B.zip us):=match us,hl with | [a],_=>k a
theorem fG {A:FuncData} {B:List Str} (us:List Value) (hl:us.length=2) (k:∀ a b,bindArgs A ⟨[a,b],[]⟩=pure (B.zip [a,b])):bindArgs A ⟨us,[]⟩=pure (B.zip us):=match us,hl with | [a,b],_=>k a b
theorem RZ {A:FuncData} {B:List Str} (us:List Value) (hl:us.length=3) (k:∀ a b c,bindArgs A ⟨[a,b,c],[]⟩=pure (B.zip [a,b,c])):bindArgs A ⟨us,[]⟩=pure (B.zip us):=match us,hl with | [a,b,c],_=>k a b c
theorem RY {A:FuncData} {B:List Str} (us:List Value) (hl:us.length=4) (k:∀ a b c d,bindArgs A ⟨[a,b,c,d],[]⟩=pure (B.zip [a,b,c,d])):bindArgs A ⟨us,[]⟩=pure (B.zip us):=match us,hl with | [a,b,c,d],_=>k a b c d
theorem Yc {A:FuncData} {B:List Str} (us:List Value) (hl:us.length=5) (k:∀ a b c d e,bindArgs A ⟨[a,b,c,d,e],[]⟩=pure (B.zip [a,b,c,d,e])):bindArgs A ⟨us,[]⟩=pure (B.zip us):=match us,hl with | [a,b,c,d,e],_=>k a b c d e
theorem all_mk {l:PySem.W.OpenLaw} {w:World} {K:PySem.W.Frag} {h:Heap} {mg:Str→Option Value} {fa Cs Cc Ct Ce Co Db Wr TM OD f1 f2 f3 f4 f5 f6 f7 f8 f9 Ul Uk Uj X3 X0 XZ XY XX XU XS XR XQ XO XN XM XJ XI XH XG XF XE XD f32 XA Xz Xy Xx Xw Xv f39 Xu f41 f42 Xs Xr Xq Xp Xo Xn Xm Xl Xk Xj Xi Xh f55 Xg Xf f58 Qv RM:Addr} {Gg NF:Str} {C2:Addr} {GA qw CY:List Value} {zD GF:Bool} {FY:List Str} {C0:Option Bool} {Gy:Option Addr} {Gw Gu Gq Gn Gk:Option Value} {Gh NG:Str} {C3:Addr} {GB ng CZ:List Value} {zE GG:Bool} {FZ:List Str} {C1:Option Bool} {Gz:Option Addr} {Gx Gv Gr Gp Gm:Option Value} {oe:Nat} {t1 t2 t3 t4 t5 t6 u1 u2 u3 u4 u5 u6 tM:Tok} (X:K.In h) (G:h.Ns mainGlobals mg) (hfa:mg "law"=some (.ref fa))
  {od1 an1 od2 an2 od3 an3 od4 an4 od5 an5 od6 an6 od7 an7 od8 an8 od9 an9 a1n a9A a1m a9z a1l a9y a1k a9x a1j a9w a1i a9v a1h a9u a1g a9t a1f a9s a1e a9r a1d a9q a1c a9p a1b a9o a1a a9n a09 a9m a08 a9l a07 a9k a06 a9j a05 a9i a04 a9h a03 a9g a02 a9f a01 a9e a00 a9d a0Z a9c a0Y a9b a0X a9a a0W a89 a0V a88 a0U a87 a0T a86 a0S a85 a0R a84 a0Q a83 a0P a82 a0O a81 a0N a80 a0M a8Z a0L a8Y a0K a8X a0J a8W a0I a8V a0H a8U a0G a8T a0F a8S a0E a8R a0D a8Q a0C a8P a0B VD a0A a8O a0z a8N:Option Addr} {sl1 sl2 Y3 sl4 sl5 sl6 sl7 sl8 sl9 Zn Zm Zl Zk Zj Zi Zh Zg Zf Ze Zd Zc Zb Za Y9 Y8 Y7 Y6 Y5 Y4 Y0 YZ YY YX YW YV YU YT YS YR YQ YO YN YM YL YK YJ YI YH YG YF YE YD YC YB YA Yz Yy Yx Yw Yv:Array (Option Value)} {oc1 kV1 dc1 pm1 cd1 ct1 oc2 kV2 dc2 pm2 cd2 ct2 oc3 kV3 dc3 pm3 cd3 ct3 oc4 kV4 dc4 pm4 cd4 ct4 oc5 kV5 dc5 pm5 cd5 ct5 oc6 kV6 dc6 pm6 cd6 ct6 oc7 kV7 dc7 pm7 cd7 ct7 oc8 kV8 dc8 pm8 cd8 ct8 oc9 kV9 dc9 pm9 cd9 ct9 a2m a4F a62 a0r Vw a7U a2l a4E a61 a0q Vv a7T a2k a4D a60 a0p Vu a7S a2j a4C a6Z a0o Vt a7R a2i a4B a6Y a0n Vs a7Q a2h a4A a6X a0m Vr a7P a2g a4z a6W a0l Vq a7O a2f a4y a6V a0k Vp a7N a2e a4x a6U a0j Vo a7M a2d a4w a6T a0i Vn a7L a2c a4v a6S a0h Vm a7K a2b a4u a6R a0g Vl a7J a2a a4t a6Q a0f Vk a7I a1Z a4s a6P a0e Vj a7H a1Y a4r a6O a0d Vi a7G a1X a4q a6N a0c Vh a7F a1W a4p a6M a0b Vg a7E a1V a4o a6L a0a Vf a7D a1U a4n a6K Z9 Ve a7C a1T a4m a6J Z8 Vd a7B a1S a4l a6I Z7 Vc a7A a1R a4k a6H Z6 Vb a7z a1Q a4j a6G Z5 Va a7y a1P a4i a6F Z4 U9 a7x a1O a4h a6E Z3 U8 a7w a1N a4g a6D Z2 U7 a7v a1M a4f a6C Z1 U6 a7u a1L a4e a6B Z0 U5 a7t a1K a4d a6A ZZ U4 a7s a1J a4c a6z ZY U3 a7r a1I a4b a6y ZX U1 a7q a1H a4a a6x ZW UZ a7p a1G a3Z a6w ZV UY a7o a1F a3Y a6v ZU UX a7n a1E a3X a6u ZT UW a7m a1D a3W a6t ZS UU a7l a1C a3V a6s ZR UT a7k a1B a3U a6r ZQ US a7j a1A a3T a6q ZP UR a7i a1z a3S a6p ZO UQ a7h a1y a3R a6o ZN UP a7g a1x a3Q a6n ZM UO a7f a1w a3P a6m ZL UN a7e a1v a3O a6l ZK UM a7d a1u a3N a6k ZJ UL a7c a1t a3M a6j ZI UK a7b a1s a3L a6i ZH UJ a7a a1r a3K a6h ZG UI a69 a1q Ti UB SH QW UD a1p a3J a6g ZF UH a68 a1o a3I a6f ZE UG a67:Value}
  (Qf:PySem.W.nsIn K mainGlobals "Sum"=some (some (.ref Cs))) (HH:PySem.W.plainGet K Cs Str.empty=true) (JG:PySem.W.hasDictIn K Cs=true) (Hv:PySem.W.plainOver K Cs=true) (G2:PySem.W.findIn K (.ref Cs) "__setattr__"=some (some (.builtin "object.__setattr__"))) (IQ:PySem.W.makesIn K Cs=true) (Jw:PySem.W.keepIn K (.ref Cs)=true)
  (Qi:PySem.W.nsIn K mainGlobals "Compare"=some (some (.ref Cc))) (HL:PySem.W.plainGet K Cc Str.empty=true) (JJ:PySem.W.hasDictIn K Cc=true) (Hz:PySem.W.plainOver K Cc=true) (G5:PySem.W.findIn K (.ref Cc) "__setattr__"=some (some (.builtin "object.__setattr__"))) (IV:PySem.W.makesIn K Cc=true) (Jz:PySem.W.keepIn K (.ref Cc)=true)
  (Qe:PySem.W.nsIn K mainGlobals "Turned"=some (some (.ref Ct))) (HG:PySem.W.plainGet K Ct Str.empty=true) (JF:PySem.W.hasDictIn K Ct=true) (Hu:PySem.W.plainOver K Ct=true) (G1:PySem.W.findIn K (.ref Ct) "__setattr__"=some (some (.builtin "object.__setattr__"))) (IP:PySem.W.makesIn K Ct=true) (Jv:PySem.W.keepIn K (.ref Ct)=true)
  (Qh:PySem.W.nsIn K mainGlobals "Every"=some (some (.ref Ce))) (HK:PySem.W.plainGet K Ce Str.empty=true) (JI:PySem.W.hasDictIn K Ce=true) (Hy:PySem.W.plainOver K Ce=true) (G4:PySem.W.findIn K (.ref Ce) "__setattr__"=some (some (.builtin "object.__setattr__"))) (IU:PySem.W.makesIn K Ce=true) (Jy:PySem.W.keepIn K (.ref Ce)=true)
  (Qg:PySem.W.nsIn K mainGlobals "Some"=some (some (.ref Co))) (HJ:PySem.W.plainGet K Co Str.empty=true) (JH:PySem.W.hasDictIn K Co=true) (Hx:PySem.W.plainOver K Co=true) (G3:PySem.W.findIn K (.ref Co) "__setattr__"=some (some (.builtin "object.__setattr__"))) (IT:PySem.W.makesIn K Co=true) (Jx:PySem.W.keepIn K (.ref Co)=true)
  (Qd:PySem.W.nsIn K mainGlobals "Debt"=some (some (.ref Db))) (HF:PySem.W.plainGet K Db Str.empty=true) (JE:PySem.W.hasDictIn K Db=true) (Ht:PySem.W.plainOver K Db=true) (G0:PySem.W.findIn K (.ref Db) "__setattr__"=some (some (.builtin "object.__setattr__"))) (IM:PySem.W.makesIn K Db=true) (Ju:PySem.W.keepIn K (.ref Db)=true)
  (Qa:PySem.W.nsIn K mainGlobals "WritError"=some (some (.ref Wr))) (Gb:K.lookup Wr=some (excClassObj Gg NF Wr C2 GA qw zD FY CY GF C0 Gy Gw Gu Gq Gn Gk "ValueError.__new__")) (Bf:PySem.W.nsOkIn K C2=true) (Bh:PySem.W.nsIn K C2 "__init__"=some (some (.ref Qv))) (Bm:PySem.W.isFn K (.ref Qv)=true) (Bk:PySem.W.keepIn K (.ref Wr)=true) (FU:qw.contains (.type "ValueError")=true) (GH:qw.contains (.type "AttributeError")=false) (Gi:qw.contains (.type "NameError")=false) (GC:qw.contains (.type "BaseException")=true)
  (Qc:PySem.W.nsIn K mainGlobals "TooMany"=some (some (.ref TM))) (Gf:K.lookup TM=some (excClassObj Gh NG TM C3 GB ng zE FZ CZ GG C1 Gz Gx Gv Gr Gp Gm "ValueError.__new__")) (Bg:PySem.W.nsOkIn K C3=true) (Bj:PySem.W.nsIn K C3 "__init__"=some (some (.ref RM))) (Bo:PySem.W.isFn K (.ref RM)=true) (Bl:PySem.W.keepIn K (.ref TM)=true) (FW:ng.contains (.type "ValueError")=true) (GI:ng.contains (.type "AttributeError")=false) (Gj:ng.contains (.type "NameError")=false) (GD:ng.contains (.type "BaseException")=true)
  (a1:PySem.W.findIn K (.ref Cs) "__init__"=some (some (.ref f1))) (i1:PySem.W.isFn K (.ref f1)=true)
  (l1:K.lookup f1=some ⟨oc1,od1,.func (PySem.W.fnOf "__init__" "Sum.__init__" (aF uA) (av uA) (aj uA) .none kV1 dc1 pm1 an1 cd1 ct1),sl1⟩) (c1:PySem.W.codeIn K cd1 "Sum.__init__"=true) (k1:PySem.W.keepIn K (.ref f1)=true)
  (a2:PySem.W.findIn K (.ref Cs) "value"=some (some (.ref f2))) (i2:PySem.W.isFn K (.ref f2)=true)
  (l2:K.lookup f2=some ⟨oc2,od2,.func (PySem.W.fnOf "value" "Sum.value" (aF nA) (av nA) (aj nA) .none kV2 dc2 pm2 an2 cd2 ct2),sl2⟩) (c2:PySem.W.codeIn K cd2 "Sum.value"=true) (k2:PySem.W.keepIn K (.ref f2)=true)
  (a3:PySem.W.findIn K (.ref Cs) "plus"=some (some (.ref f3))) (i3:PySem.W.isFn K (.ref f3)=true)
  (l3:K.lookup f3=some ⟨oc3,od3,.func (PySem.W.fnOf "plus" "Sum.plus" (aF ur) (av ur) (aj ur) .none kV3 dc3 pm3 an3 cd3 ct3),Y3⟩) (c3:PySem.W.codeIn K cd3 "Sum.plus"=true) (k3:PySem.W.keepIn K (.ref f3)=true)
  (a4:PySem.W.findIn K (.ref Cs) "times"=some (some (.ref f4))) (i4:PySem.W.isFn K (.ref f4)=true)
  (l4:K.lookup f4=some ⟨oc4,od4,.func (PySem.W.fnOf "times" "Sum.times" (aF nB) (av nB) (aj nB) .none kV4 dc4 pm4 an4 cd4 ct4),sl4⟩) (c4:PySem.W.codeIn K cd4 "Sum.times"=true) (k4:PySem.W.keepIn K (.ref f4)=true)
  (a5:PySem.W.findIn K (.ref Cs) "less"=some (some (.ref f5))) (i5:PySem.W.isFn K (.ref f5)=true)
  (l5:K.lookup f5=some ⟨oc5,od5,.func (PySem.W.fnOf "less" "Sum.less" (aF ux) (av ux) (aj ux) .none kV5 dc5 pm5 an5 cd5 ct5),sl5⟩) (c5:PySem.W.codeIn K cd5 "Sum.less"=true) (k5:PySem.W.keepIn K (.ref f5)=true)
  (a6:PySem.W.findIn K (.ref Cs) "put_in"=some (some (.ref f6))) (i6:PySem.W.isFn K (.ref f6)=true)
  (l6:K.lookup f6=some ⟨oc6,od6,.func (PySem.W.fnOf "put_in" "Sum.put_in" (aF nG) (av nG) (aj nG) .none kV6 dc6 pm6 an6 cd6 ct6),sl6⟩) (c6:PySem.W.codeIn K cd6 "Sum.put_in"=true) (k6:PySem.W.keepIn K (.ref f6)=true)
  (a7:PySem.W.findIn K (.ref Cs) "told"=some (some (.ref f7))) (i7:PySem.W.isFn K (.ref f7)=true)
  (l7:K.lookup f7=some ⟨oc7,od7,.func (PySem.W.fnOf "told" "Sum.told" (aF nE) (av nE) (aj nE) .none kV7 dc7 pm7 an7 cd7 ct7),sl7⟩) (c7:PySem.W.codeIn K cd7 "Sum.told"=true) (k7:PySem.W.keepIn K (.ref f7)=true)
  (a8:PySem.W.findIn K (.ref Db) "__init__"=some (some (.ref f8))) (i8:PySem.W.isFn K (.ref f8)=true)
  (l8:K.lookup f8=some ⟨oc8,od8,.func (PySem.W.fnOf "__init__" "Debt.__init__" (aF jI) (av jI) (aj jI) .none kV8 dc8 pm8 an8 cd8 ct8),sl8⟩) (c8:PySem.W.codeIn K cd8 "Debt.__init__"=true) (k8:PySem.W.keepIn K (.ref f8)=true)
  (a9:PySem.W.findIn K (.ref Cc) "__init__"=some (some (.ref f9))) (i9:PySem.W.isFn K (.ref f9)=true)
  (l9:K.lookup f9=some ⟨oc9,od9,.func (PySem.W.fnOf "__init__" "Compare.__init__" (aF nM) (av nM) (aj nM) .none kV9 dc9 pm9 an9 cd9 ct9),sl9⟩) (c9:PySem.W.codeIn K cd9 "Compare.__init__"=true) (k9:PySem.W.keepIn K (.ref f9)=true)
  (a10:PySem.W.findIn K (.ref Ct) "__init__"=some (some (.ref Ul))) (i10:PySem.W.isFn K (.ref Ul)=true)
  (l10:K.lookup Ul=some ⟨a2m,a1n,.func (PySem.W.fnOf "__init__" "Turned.__init__" (aF nC) (av nC) (aj nC) .none a4F a62 a0r a9A Vw a7U),Zn⟩) (c10:PySem.W.codeIn K Vw "Turned.__init__"=true) (k10:PySem.W.keepIn K (.ref Ul)=true)
  (a11:PySem.W.findIn K (.ref Ce) "__init__"=some (some (.ref Uk))) (i11:PySem.W.isFn K (.ref Uk)=true)
  (l11:K.lookup Uk=some ⟨a2l,a1m,.func (PySem.W.fnOf "__init__" "Several.__init__" (aF gn) (av gn) (aj gn) .none a4E a61 a0q a9z Vv a7T),Zm⟩) (c11:PySem.W.codeIn K Vv "Several.__init__"=true) (k11:PySem.W.keepIn K (.ref Uk)=true)
  (a12:PySem.W.findIn K (.ref Co) "__init__"=some (some (.ref Uj))) (i12:PySem.W.isFn K (.ref Uj)=true)
  (l12:K.lookup Uj=some ⟨a2k,a1l,.func (PySem.W.fnOf "__init__" "Several.__init__" (aF gn) (av gn) (aj gn) .none a4D a60 a0p a9y Vu a7S),Zl⟩) (c12:PySem.W.codeIn K Vu "Several.__init__"=true) (k12:PySem.W.keepIn K (.ref Uj)=true)
  (a13:PySem.W.findIn K (.ref Cc) "told"=some (some (.ref X3))) (i13:PySem.W.isFn K (.ref X3)=true)
  (l13:K.lookup X3=some ⟨a2j,a1k,.func (PySem.W.fnOf "told" "Compare.told" (aF kO) (av kO) (aj kO) .none a4C a6Z a0o a9x Vt a7R),Zk⟩) (c13:PySem.W.codeIn K Vt "Compare.told"=true) (WT:PySem.W.keepIn K (.ref X3)=true)
  (a14:PySem.W.findIn K (.ref Ct) "told"=some (some (.ref X0))) (i14:PySem.W.isFn K (.ref X0)=true)
  (l14:K.lookup X0=some ⟨a2i,a1j,.func (PySem.W.fnOf "told" "Turned.told" (aF kI) (av kI) (aj kI) .none a4B a6Y a0n a9w Vs a7Q),Zj⟩) (c14:PySem.W.codeIn K Vs "Turned.told"=true) (WS:PySem.W.keepIn K (.ref X0)=true)
  (a15:PySem.W.findIn K (.ref Ce) "told"=some (some (.ref XZ))) (i15:PySem.W.isFn K (.ref XZ)=true)
  (l15:K.lookup XZ=some ⟨a2h,a1i,.func (PySem.W.fnOf "told" "Every.told" (aF kN) (av kN) (aj kN) .none a4A a6X a0m a9v Vr a7P),Zi⟩) (c15:PySem.W.codeIn K Vr "Every.told"=true) (WR:PySem.W.keepIn K (.ref XZ)=true)
  (a16:PySem.W.findIn K (.ref Co) "told"=some (some (.ref XY))) (i16:PySem.W.isFn K (.ref XY)=true)
  (l16:K.lookup XY=some ⟨a2g,a1h,.func (PySem.W.fnOf "told" "Some.told" (aF kK) (av kK) (aj kK) .none a4z a6W a0l a9u Vq a7O),Zh⟩) (c16:PySem.W.codeIn K Vq "Some.told"=true) (WQ:PySem.W.keepIn K (.ref XY)=true)
  (a17:PySem.W.findIn K (.ref Cc) "put_in"=some (some (.ref XX))) (i17:PySem.W.isFn K (.ref XX)=true)
  (l17:K.lookup XX=some ⟨a2f,a1g,.func (PySem.W.fnOf "put_in" "Compare.put_in" (aF rL) (av rL) (aj rL) .none a4y a6V a0k a9t Vp a7N),Zg⟩) (c17:PySem.W.codeIn K Vp "Compare.put_in"=true) (WO:PySem.W.keepIn K (.ref XX)=true)
  (a18:PySem.W.findIn K (.ref Ct) "put_in"=some (some (.ref XU))) (i18:PySem.W.isFn K (.ref XU)=true)
  (l18:K.lookup XU=some ⟨a2e,a1f,.func (PySem.W.fnOf "put_in" "Turned.put_in" (aF rE) (av rE) (aj rE) .none a4x a6U a0j a9s Vo a7M),Zf⟩) (c18:PySem.W.codeIn K Vo "Turned.put_in"=true) (WN:PySem.W.keepIn K (.ref XU)=true)
  (a19:PySem.W.findIn K (.ref Ce) "put_in"=some (some (.ref XS))) (i19:PySem.W.isFn K (.ref XS)=true)
  (l19:K.lookup XS=some ⟨a2d,a1e,.func (PySem.W.fnOf "put_in" "Every.put_in" (aF rJ) (av rJ) (aj rJ) .none a4w a6T a0i a9r Vn a7L),Ze⟩) (c19:PySem.W.codeIn K Vn "Every.put_in"=true) (WM:PySem.W.keepIn K (.ref XS)=true)
  (a20:PySem.W.findIn K (.ref Co) "put_in"=some (some (.ref XR))) (i20:PySem.W.isFn K (.ref XR)=true)
  (kC:K.lookup XR=some ⟨a2c,a1d,.func (PySem.W.fnOf "put_in" "Some.put_in" (aF rG) (av rG) (aj rG) .none a4v a6S a0h a9q Vm a7K),Zd⟩) (c20:PySem.W.codeIn K Vm "Some.put_in"=true) (WL:PySem.W.keepIn K (.ref XR)=true)
  (a21:PySem.W.findIn K (.ref Cc) "opposite"=some (some (.ref XQ))) (i21:PySem.W.isFn K (.ref XQ)=true)
  (l21:K.lookup XQ=some ⟨a2b,a1c,.func (PySem.W.fnOf "opposite" "Compare.opposite" (aF rM) (av rM) (aj rM) .none a4u a6R a0g a9p Vl a7J),Zc⟩) (c21:PySem.W.codeIn K Vl "Compare.opposite"=true) (WK:PySem.W.keepIn K (.ref XQ)=true)
  (a22:PySem.W.findIn K (.ref Ct) "opposite"=some (some (.ref XO))) (i22:PySem.W.isFn K (.ref XO)=true)
  (l22:K.lookup XO=some ⟨a2a,a1b,.func (PySem.W.fnOf "opposite" "Turned.opposite" (aF rF) (av rF) (aj rF) .none a4t a6Q a0f a9o Vk a7I),Zb⟩) (c22:PySem.W.codeIn K Vk "Turned.opposite"=true) (WJ:PySem.W.keepIn K (.ref XO)=true)
  (a23:PySem.W.findIn K (.ref Ce) "opposite"=some (some (.ref XN))) (i23:PySem.W.isFn K (.ref XN)=true)
  (l23:K.lookup XN=some ⟨a1Z,a1a,.func (PySem.W.fnOf "opposite" "Every.opposite" (aF rK) (av rK) (aj rK) .none a4s a6P a0e a9n Vj a7H),Za⟩) (c23:PySem.W.codeIn K Vj "Every.opposite"=true) (WI:PySem.W.keepIn K (.ref XN)=true)
  (a24:PySem.W.findIn K (.ref Co) "opposite"=some (some (.ref XM))) (i24:PySem.W.isFn K (.ref XM)=true)
  (l24:K.lookup XM=some ⟨a1Y,a09,.func (PySem.W.fnOf "opposite" "Some.opposite" (aF rH) (av rH) (aj rH) .none a4r a6O a0d a9m Vi a7G),Y9⟩) (c24:PySem.W.codeIn K Vi "Some.opposite"=true) (WH:PySem.W.keepIn K (.ref XM)=true)
  (a25:PySem.W.findIn K (.ref Cc) "cases"=some (some (.ref XJ))) (i25:PySem.W.isFn K (.ref XJ)=true)
  (l25:K.lookup XJ=some ⟨a1X,a08,.func (PySem.W.fnOf "cases" "Compare.cases" (aF zV) (av zV) (aj zV) .none a4q a6N a0c a9l Vh a7F),Y8⟩) (c25:PySem.W.codeIn K Vh "Compare.cases"=true) (WG:PySem.W.keepIn K (.ref XJ)=true)
  (a26:PySem.W.findIn K (.ref Ct) "cases"=some (some (.ref XI))) (i26:PySem.W.isFn K (.ref XI)=true)
  (l26:K.lookup XI=some ⟨a1W,a07,.func (PySem.W.fnOf "cases" "Turned.cases" (aF zS) (av zS) (aj zS) .none a4p a6M a0b a9k Vg a7E),Y7⟩) (c26:PySem.W.codeIn K Vg "Turned.cases"=true) (WE:PySem.W.keepIn K (.ref XI)=true)
  (a27:PySem.W.findIn K (.ref Ce) "cases"=some (some (.ref XH))) (i27:PySem.W.isFn K (.ref XH)=true)
  (l27:K.lookup XH=some ⟨a1V,a06,.func (PySem.W.fnOf "cases" "Every.cases" (aF zU) (av zU) (aj zU) .none a4o a6L a0a a9j Vf a7D),Y6⟩) (c27:PySem.W.codeIn K Vf "Every.cases"=true) (WD:PySem.W.keepIn K (.ref XH)=true)
  (a28:PySem.W.findIn K (.ref Co) "cases"=some (some (.ref XG))) (i28:PySem.W.isFn K (.ref XG)=true)
  (l28:K.lookup XG=some ⟨a1U,a05,.func (PySem.W.fnOf "cases" "Some.cases" (aF zT) (av zT) (aj zT) .none a4n a6K Z9 a9i Ve a7C),Y5⟩) (c28:PySem.W.codeIn K Ve "Some.cases"=true) (WC:PySem.W.keepIn K (.ref XG)=true)
  (a29:PySem.W.nsIn K mainGlobals "sum_of"=some (some (.ref XF)))
  (l29:K.lookup XF=some ⟨a1T,a04,.func (PySem.W.fnOf "sum_of" "sum_of" (aF nD) (av nD) (aj nD) .none a4m a6J Z8 a9h Vd a7B),Y4⟩) (c29:PySem.W.codeIn K Vd "sum_of"=true) (WB:PySem.W.keepIn K (.ref XF)=true)
  (a30:PySem.W.nsIn K mainGlobals "_law_mixed"=some (some (.ref XE)))
  (l30:K.lookup XE=some ⟨a1S,a03,.func (PySem.W.fnOf "_law_mixed" "_law_mixed" (aF nI) (av nI) (aj nI) .none a4l a6I Z7 a9g Vc a7A),Y0⟩) (c30:PySem.W.codeIn K Vc "_law_mixed"=true) (WA:PySem.W.keepIn K (.ref XE)=true)
  (a31:PySem.W.nsIn K mainGlobals "_law_cell_at"=some (some (.ref XD)))
  (l31:K.lookup XD=some ⟨a1R,a02,.func (PySem.W.fnOf "_law_cell_at" "_law_cell_at" (aF jJ) (av jJ) (aj jJ) .none a4k a6H Z6 a9f Vb a7z),YZ⟩) (c31:PySem.W.codeIn K Vb "_law_cell_at"=true) (Wz:PySem.W.keepIn K (.ref XD)=true)
  (a32:PySem.W.nsIn K mainGlobals "_law_next"=some (some (.ref f32)))
  (l32:K.lookup f32=some ⟨a1Q,a01,.func (PySem.W.fnOf "_law_next" "_law_next" (aF uw) (av uw) (aj uw) .none a4j a6G Z5 a9e Va a7y),YY⟩) (c32:PySem.W.codeIn K Va "_law_next"=true) (Wy:PySem.W.keepIn K (.ref f32)=true)
  (a33:PySem.W.nsIn K mainGlobals "_law_kept"=some (some (.ref XA)))
  (l33:K.lookup XA=some ⟨a1P,a00,.func (PySem.W.fnOf "_law_kept" "_law_kept" (aF oU) (av oU) (aj oU) .none a4i a6F Z4 a9d U9 a7x),YX⟩) (c33:PySem.W.codeIn K U9 "_law_kept"=true) (Wx:PySem.W.keepIn K (.ref XA)=true)
  (a34:PySem.W.nsIn K mainGlobals "_law_names"=some (some (.ref Xz)))
  (l34:K.lookup Xz=some ⟨a1O,a0Z,.func (PySem.W.fnOf "_law_names" "_law_names" (aF kL) (av kL) (aj kL) .none a4h a6E Z3 a9c U8 a7w),YW⟩) (c34:PySem.W.codeIn K U8 "_law_names"=true) (Ww:PySem.W.keepIn K (.ref Xz)=true)
  (a35:PySem.W.nsIn K mainGlobals "less_one"=some (some (.ref Xy)))
  (l35:K.lookup Xy=some ⟨a1N,a0Y,.func (PySem.W.fnOf "less_one" "less_one" (aF iu) (av iu) (aj iu) .none a4g a6D Z2 a9b U7 a7v),YV⟩) (c35:PySem.W.codeIn K U7 "less_one"=true) (Wv:PySem.W.keepIn K (.ref Xy)=true)
  (a36:PySem.W.nsIn K mainGlobals "cases_of_both"=some (some (.ref Xx)))
  (l36:K.lookup Xx=some ⟨a1M,a0X,.func (PySem.W.fnOf "cases_of_both" "cases_of_both" (aF nO) (av nO) (aj nO) .none a4f a6C Z1 a9a U6 a7u),YU⟩) (c36:PySem.W.codeIn K U6 "cases_of_both"=true) (Wu:PySem.W.keepIn K (.ref Xx)=true)
  (a37:PySem.W.nsIn K mainGlobals "refuse_too_many"=some (some (.ref Xw)))
  (l37:K.lookup Xw=some ⟨a1L,a0W,.func (PySem.W.fnOf "refuse_too_many" "refuse_too_many" (aF um) (av um) (aj um) .none a4e a6B Z0 a89 U5 a7t),YT⟩) (c37:PySem.W.codeIn K U5 "refuse_too_many"=true) (Wt:PySem.W.keepIn K (.ref Xw)=true)
  (a38:PySem.W.nsIn K mainGlobals "_law_sum"=some (some (.ref Xv)))
  (l38:K.lookup Xv=some ⟨a1K,a0V,.func (PySem.W.fnOf "_law_sum" "_law_sum" (aF uq) (av uq) (aj uq) .none a4d a6A ZZ a88 U4 a7s),YS⟩) (c38:PySem.W.codeIn K U4 "_law_sum"=true) (Ws:PySem.W.keepIn K (.ref Xv)=true)
  (a39:PySem.W.nsIn K mainGlobals "_law_condition"=some (some (.ref f39)))
  (l39:K.lookup f39=some ⟨a1J,a0U,.func (PySem.W.fnOf "_law_condition" "_law_condition" (aF kJ) (av kJ) (aj kJ) .none a4c a6z ZY a87 U3 a7r),YR⟩) (c39:PySem.W.codeIn K U3 "_law_condition"=true) (Wq:PySem.W.keepIn K (.ref f39)=true)
  (a40:PySem.W.nsIn K mainGlobals "_law_value"=some (some (.ref Xu)))
  (l40:K.lookup Xu=some ⟨a1I,a0T,.func (PySem.W.fnOf "_law_value" "_law_value" (aF uy) (av uy) (aj uy) .none a4b a6y ZX a86 U1 a7q),YQ⟩) (c40:PySem.W.codeIn K U1 "_law_value"=true) (Wo:PySem.W.keepIn K (.ref Xu)=true)
  (a41:PySem.W.nsIn K mainGlobals "_law_holds"=some (some (.ref f41)))
  (l41:K.lookup f41=some ⟨a1H,a0S,.func (PySem.W.fnOf "_law_holds" "_law_holds" (aF iP) (av iP) (aj iP) .none a4a a6x ZW a85 UZ a7p),YO⟩) (c41:PySem.W.codeIn K UZ "_law_holds"=true) (Wn:PySem.W.keepIn K (.ref f41)=true)
  (a42:PySem.W.nsIn K mainGlobals "_law_made"=some (some (.ref f42)))
  (l42:K.lookup f42=some ⟨a1G,a0R,.func (PySem.W.fnOf "_law_made" "_law_made" (aF kM) (av kM) (aj kM) .none a3Z a6w ZV a84 UY a7o),YN⟩) (c42:PySem.W.codeIn K UY "_law_made"=true) (Wm:PySem.W.keepIn K (.ref f42)=true)
  (a43:PySem.W.nsIn K mainGlobals "once"=some (some (.ref Xs)))
  (l43:K.lookup Xs=some ⟨a1F,a0Q,.func (PySem.W.fnOf "once" "once" (aF uv) (av uv) (aj uv) .none a3Y a6v ZU a83 UX a7n),YM⟩) (c43:PySem.W.codeIn K UX "once"=true) (Wl:PySem.W.keepIn K (.ref Xs)=true)
  (a44:PySem.W.nsIn K mainGlobals "unknown"=some (some (.ref Xr)))
  (l44:K.lookup Xr=some ⟨a1E,a0P,.func (PySem.W.fnOf "unknown" "unknown" (aF ir) (av ir) (aj ir) .none a3X a6u ZT a82 UW a7m),YL⟩) (c44:PySem.W.codeIn K UW "unknown"=true) (Wk:PySem.W.keepIn K (.ref Xr)=true)
  (a45:PySem.W.nsIn K mainGlobals "is_never"=some (some (.ref Xq)))
  (l45:K.lookup Xq=some ⟨a1D,a0O,.func (PySem.W.fnOf "is_never" "is_never" (aF iw) (av iw) (aj iw) .none a3W a6t ZS a81 UU a7l),YK⟩) (c45:PySem.W.codeIn K UU "is_never"=true) (Wj:PySem.W.keepIn K (.ref Xq)=true)
  (a46:PySem.W.nsIn K mainGlobals "is_never_met"=some (some (.ref Xp)))
  (l46:K.lookup Xp=some ⟨a1C,a0N,.func (PySem.W.fnOf "is_never_met" "is_never_met" (aF dZ) (av dZ) (aj dZ) .none a3V a6s ZR a80 UT a7k),YJ⟩) (c46:PySem.W.codeIn K UT "is_never_met"=true) (Wi:PySem.W.keepIn K (.ref Xp)=true)
  (a47:PySem.W.nsIn K mainGlobals "without_plain"=some (some (.ref Xo)))
  (l47:K.lookup Xo=some ⟨a1B,a0M,.func (PySem.W.fnOf "without_plain" "without_plain" (aF ig) (av ig) (aj ig) .none a3U a6r ZQ a8Z US a7j),YI⟩) (c47:PySem.W.codeIn K US "without_plain"=true) (Wh:PySem.W.keepIn K (.ref Xo)=true)
  (a48:PySem.W.nsIn K mainGlobals "cases_with"=some (some (.ref Xn)))
  (l48:K.lookup Xn=some ⟨a1A,a0L,.func (PySem.W.fnOf "cases_with" "cases_with" (aF nv) (av nv) (aj nv) .none a3T a6q ZP a8Y UR a7i),YH⟩) (c48:PySem.W.codeIn K UR "cases_with"=true) (Wg:PySem.W.keepIn K (.ref Xn)=true)
  (a49:PySem.W.nsIn K mainGlobals "owed"=some (some (.ref Xm)))
  (l49:K.lookup Xm=some ⟨a1z,a0K,.func (PySem.W.fnOf "owed" "owed" (aF nH) (av nH) (aj nH) .none a3S a6p ZO a8X UQ a7h),YG⟩) (c49:PySem.W.codeIn K UQ "owed"=true) (Wf:PySem.W.keepIn K (.ref Xm)=true)
  (a50:PySem.W.nsIn K mainGlobals "_law_ahead"=some (some (.ref Xl)))
  (l50:K.lookup Xl=some ⟨a1y,a0J,.func (PySem.W.fnOf "_law_ahead" "_law_ahead" (aF nP) (av nP) (aj nP) .none a3R a6o ZN a8W UP a7g),YF⟩) (c50:PySem.W.codeIn K UP "_law_ahead"=true) (We:PySem.W.keepIn K (.ref Xl)=true)
  (a51:PySem.W.nsIn K mainGlobals "_law_along"=some (some (.ref Xk)))
  (l51:K.lookup Xk=some ⟨a1x,a0I,.func (PySem.W.fnOf "_law_along" "_law_along" (aF jH) (av jH) (aj jH) .none a3Q a6n ZM a8V UO a7f),YE⟩) (c51:PySem.W.codeIn K UO "_law_along"=true) (Wd:PySem.W.keepIn K (.ref Xk)=true)
  (a52:PySem.W.nsIn K mainGlobals "_law_debt"=some (some (.ref Xj)))
  (l52:K.lookup Xj=some ⟨a1w,a0H,.func (PySem.W.fnOf "_law_debt" "_law_debt" (aF nL) (av nL) (aj nL) .none a3P a6m ZL a8U UN a7e),YD⟩) (c52:PySem.W.codeIn K UN "_law_debt"=true) (Wc:PySem.W.keepIn K (.ref Xj)=true)
  (a53:PySem.W.nsIn K mainGlobals "_law_told"=some (some (.ref Xi)))
  (l53:K.lookup Xi=some ⟨a1v,a0G,.func (PySem.W.fnOf "_law_told" "_law_told" (aF nJ) (av nJ) (aj nJ) .none a3O a6l ZK a8T UM a7d),YC⟩) (c53:PySem.W.codeIn K UM "_law_told"=true) (Wb:PySem.W.keepIn K (.ref Xi)=true)
  (a54:PySem.W.nsIn K mainGlobals "_law_met"=some (some (.ref Xh)))
  (l54:K.lookup Xh=some ⟨a1u,a0F,.func (PySem.W.fnOf "_law_met" "_law_met" (aF uz) (av uz) (aj uz) .none a3N a6k ZJ a8S UL a7c),YB⟩) (c54:PySem.W.codeIn K UL "_law_met"=true) (Wa:PySem.W.keepIn K (.ref Xh)=true)
  (a55:PySem.W.nsIn K mainGlobals "_law_count"=some (some (.ref f55)))
  (l55:K.lookup f55=some ⟨a1t,a0E,.func (PySem.W.fnOf "_law_count" "_law_count" (aF iQ) (av iQ) (aj iQ) .none a3M a6j ZI a8R UK a7b),YA⟩) (c55:PySem.W.codeIn K UK "_law_count"=true) (V9:PySem.W.keepIn K (.ref f55)=true)
  (a56:PySem.W.nsIn K mainGlobals "_law_most"=some (some (.ref Xg)))
  (l56:K.lookup Xg=some ⟨a1s,a0D,.func (PySem.W.fnOf "_law_most" "_law_most" (aF nK) (av nK) (aj nK) .none a3L a6i ZH a8Q UJ a7a),Yz⟩) (c56:PySem.W.codeIn K UJ "_law_most"=true) (V8:PySem.W.keepIn K (.ref Xg)=true)
  (a57:PySem.W.nsIn K mainGlobals "_law_right"=some (some (.ref Xf)))
  (l57:K.lookup Xf=some ⟨a1r,a0C,.func (PySem.W.fnOf "_law_right" "_law_right" (aF jG) (av jG) (aj jG) .none a3K a6h ZG a8P UI a69),Yy⟩) (c57:PySem.W.codeIn K UI "_law_right"=true) (V7:PySem.W.keepIn K (.ref Xf)=true)
  (a58:PySem.W.nsIn K mainGlobals "law"=some (some (.ref f58)))
  (l58:K.lookup f58=some ⟨a1q,a0B,.func (PySem.W.fnOf "law" "law" (aF wC) (av wC) (aj wC) .none Ti UB SH VD QW UD),Yx⟩) (c58:PySem.W.codeIn K QW "law"=true) (k58:PySem.W.keepIn K (.ref f58)=true)
  (l59:K.lookup Qv=some ⟨a1p,a0A,.func (PySem.W.fnOf "__init__" "WritError.__init__" (aF ny) (av ny) (aj ny) .none a3J a6g ZF a8O UH a68),Yw⟩) (c59:PySem.W.codeIn K UH "WritError.__init__"=true) (V6:PySem.W.keepIn K (.ref Qv)=true)
  (l60:K.lookup RM=some ⟨a1o,a0z,.func (PySem.W.fnOf "__init__" "TooMany.__init__" (aF jF) (av jF) (aj jF) .none a3I a6f ZE a8N UG a67),Yv⟩) (c60:PySem.W.codeIn K UG "TooMany.__init__"=true) (k60:PySem.W.keepIn K (.ref RM)=true)
  (nX:PySem.W.findIn K (.ref Cs) "terms"=some none)
  (kY:PySem.W.findIn K (.ref Cs) "number"=some none)
  (uP:PySem.W.findIn K (.ref Cc) "one"=some none)
  (qO:PySem.W.findIn K (.ref Cc) "sign"=some none)
  (nY:PySem.W.findIn K (.ref Cc) "other"=some none)
  (iC:PySem.W.findIn K (.ref Ct) "condition"=some none)
  (gR:PySem.W.findIn K (.ref Ce) "conditions"=some none)
  (gQ:PySem.W.findIn K (.ref Co) "conditions"=some none)
  (qN:PySem.W.findIn K (.ref Db) "kind"=some none)
  (yD:PySem.W.findIn K (.ref Db) "at"=some none)
  (nW:PySem.W.findIn K (.ref Db) "ahead"=some none)
  (iB:PySem.W.findIn K (.ref Db) "condition"=some none)
  (FN:PySem.W.nsIn K mainGlobals "len"=some none)
  (FJ:PySem.W.nsIn K mainGlobals "sum"=some none)
  (tL:PySem.W.nsIn K mainGlobals "sorted"=some none)
  (Bd:PySem.W.nsIn K mainGlobals "list"=some none)
  (xR:PySem.W.nsIn K mainGlobals "tuple"=some none)
  (jx:PySem.W.nsIn K mainGlobals "isinstance"=some none)
  (xS:PySem.W.nsIn K mainGlobals "range"=some none)
  (FT:PySem.W.nsIn K mainGlobals "abs"=some none)
  (FL:PySem.W.nsIn K mainGlobals "str"=some none)
  (FO:PySem.W.nsIn K mainGlobals "int"=some none)
  (Be:PySem.W.nsIn K mainGlobals "dict"=some none)
  (FQ:PySem.W.nsIn K mainGlobals "all"=some none)
  (FP:PySem.W.nsIn K mainGlobals "any"=some none)
  (jy:PySem.W.nsIn K mainGlobals "ValueError"=some none)
  (OF:PySem.W.specialIn K (.builtin "object.__class__") "__get__"=some (some (.builtin "getset_descriptor.__get__")))
  (OE:PySem.W.takesIn K (.builtin "object.__class__")=some true)
  (Bq:PySem.W.findIn K (.ref Cs) "__class__"=some (some (.builtin "object.__class__")))
  (Bp:PySem.W.mroIn K Cs (.type "object")=some true)
  (Ov:PySem.W.specialIn K (.ref Wr) "__getattribute__"=some (some (.builtin "type.__getattribute__")))
  (Ou:PySem.W.readsIn K Wr (.type "type")=true)
  (Ow:PySem.W.findCls K (.ref Wr) (.type "type") "__init__"=some (.val (.ref Qv)))
  (Ox:PySem.W.findCls K (.type "ValueError") (.type "type") "__init__"=some (.val (.builtin "ValueError.__init__")))
  (GJ:(Value.ref TM::ng).contains (.ref Wr)=true)
  (OB:PySem.W.nsIn K mainGlobals "OPPOSITE_SIGNS"=some (some (.ref OD)))
  (OA:K.lookup OD=some ⟨.type "dict",none,.dict #[⟨PyData.keyHash w.params "<",.str "<" t1,.str ">=" u1⟩,⟨PyData.keyHash w.params ">=",.str ">=" t2,.str "<" u2⟩,⟨PyData.keyHash w.params "<=",.str "<=" t3,.str ">" u3⟩,⟨PyData.keyHash w.params ">",.str ">" t4,.str "<=" u4⟩,⟨PyData.keyHash w.params "=",.str "=" t5,.str "!=" u5⟩,⟨PyData.keyHash w.params "!=",.str "!=" t6,.str "=" u6⟩] oe,#[]⟩)
  (OC:PySem.W.nsIn K mainGlobals "MOST_CASES"=some (some (.int 64 tM)))
 :∃ fd:FuncData,(∀ (s:Shared) (v:Value),BindsTo s fd ⟨[v],[]⟩ [("_law_script",v)])∧∀ base:Heap,K.In base→base.Ns mainGlobals mg→bu l.prog w K mg base dX 23 fa fd ["_law_script"] (Df K):=by
 have e:=hfa.symm.trans (PySem.W.mg_of X G a58)
 cases e
 let Z:Cz:=(⟨Cs,Cc,Ct,Ce,Co⟩:Cz)
 have naD:∀ x∈(["kind","at","ahead","condition"]:List Str),eY K Db x:=by
  intro x hx
  rcases List.mem_cons.mp hx with e | hx
  ·rw [e];exact qN
  rcases List.mem_cons.mp hx with e | hx
  ·rw [e];exact yD
  rcases List.mem_cons.mp hx with e | hx
  ·rw [e];exact nW
  rcases List.mem_cons.mp hx with e | hx
  ·rw [e];exact iB
  exact absurd hx List.not_mem_nil
 have W:RT K mg Db:=⟨⟨HF,JE,Ht,G0⟩,naD,PySem.W.mg_of X G Qd⟩
 have T:Txt K mg Z.s:=⟨⟨HH,JG,Hv,G2⟩,nX,kY,PySem.W.mg_of X G Qf,PySem.W.mg_none_of X G FN,PySem.W.mg_none_of X G FJ,PySem.W.mg_none_of X G tL,PySem.W.mg_none_of X G Bd,PySem.W.mg_none_of X G xR,PySem.W.mg_none_of X G jx,PySem.W.mg_none_of X G xS,PySem.W.mg_none_of X G FT,PySem.W.mg_none_of X G FL,PySem.W.mg_none_of X G FO,PySem.W.mg_none_of X G Be,Bq,OF,OE,Bp,Mj K Cs,Mi K⟩
 have cl4:∀ j,j < 4→A5 K (dH Z j):=fun j hj=>match j,hj with
  | 0,_=>⟨HL,JJ,Hz,G5⟩
  | 1,_=>⟨HG,JF,Hu,G1⟩
  | 2,_=>⟨HK,JI,Hy,G4⟩
  | 3,_=>⟨HJ,JH,Hx,G3⟩
 have U:gh K mg Z:=⟨cl4,uP,qO,nY,iC,gR,gQ,PySem.W.mg_of X G Qi,PySem.W.mg_of X G Qe,PySem.W.mg_of X G Qh,PySem.W.mg_of X G Qg,PySem.W.mg_none_of X G FQ,PySem.W.mg_none_of X G FP⟩
 have XT:dW K mg TM Wr RM Qv ng qw:=⟨⟨⟨Gh,NG,C3,GB,zE,FZ,CZ,GG,C1,Gz,Gx,Gv,Gr,Gp,Gm,Gf,Bg,Bj⟩,Bo,Bl,FW,GI,Gj,GD⟩,⟨⟨Gg,NF,C2,GA,zD,FY,CY,GF,C0,Gy,Gw,Gu,Gq,Gn,Gk,Gb,Bf,Bh⟩,Bm,Bk,FU,GH,Gi,GC⟩,GJ,PySem.W.mg_of X G Qc,PySem.W.mg_of X G Qa,PySem.W.mg_none_of X G jy,Ov,Ou,Ow,rfl,V6,Ox⟩
 have Rk:Nd l.prog w K mg:=Lu (PySem.W.mg_of X G OB) OA
 have Rn:∃ t,mg "MOST_CASES"=some (.int 64 t):=⟨tM,PySem.W.mg_of X G OC⟩
 have F1:=aQ (st:=uA) l1 c1 k1
 have b1:=F1.binds (ps:=["self","terms","number"]) fun _ _ _ _ _ _ us hl=>RZ us hl fun _ _ _=>rfl
 have F2:=aQ (st:=nA) l2 c2 k2
 have b2:=F2.binds (ps:=["self","numbers"]) fun _ _ _ _ _ _ us hl=>fG us hl fun _ _=>rfl
 have F3:=aQ (st:=ur) l3 c3 k3
 have b3:=F3.binds (ps:=["self","other"]) fun _ _ _ _ _ _ us hl=>fG us hl fun _ _=>rfl
 have F4:=aQ (st:=nB) l4 c4 k4
 have b4:=F4.binds (ps:=["self","number"]) fun _ _ _ _ _ _ us hl=>fG us hl fun _ _=>rfl
 have F5:=aQ (st:=ux) l5 c5 k5
 have b5:=F5.binds (ps:=["self","other"]) fun _ _ _ _ _ _ us hl=>fG us hl fun _ _=>rfl
 have F6:=aQ (st:=nG) l6 c6 k6
 have b6:=F6.binds (ps:=["self","sums"]) fun _ _ _ _ _ _ us hl=>fG us hl fun _ _=>rfl
 have F7:=aQ (st:=nE) l7 c7 k7
 have b7:=F7.binds (ps:=["self"]) fun _ _ _ _ _ _ us hl=>ia us hl fun _=>rfl
 have F8:=aQ (st:=jI) l8 c8 k8
 have b8:=F8.binds (ps:=["self","kind","at","ahead","condition"]) fun _ _ _ _ _ _ us hl=>Yc us hl fun _ _ _ _ _=>rfl
 have F9:=aQ (st:=nM) l9 c9 k9
 have b9:=F9.binds (ps:=["self","one","sign","other"]) fun _ _ _ _ _ _ us hl=>RY us hl fun _ _ _ _=>rfl
 have wK:=aQ (st:=nC) l10 c10 k10
 have ou:=wK.binds (ps:=["self","condition"]) fun _ _ _ _ _ _ us hl=>fG us hl fun _ _=>rfl
 have F11:=aQ (st:=gn) l11 c11 k11
 have b11:=F11.binds (ps:=["self","conditions"]) fun _ _ _ _ _ _ us hl=>fG us hl fun _ _=>rfl
 have F12:=aQ (st:=gn) l12 c12 k12
 have b12:=F12.binds (ps:=["self","conditions"]) fun _ _ _ _ _ _ us hl=>fG us hl fun _ _=>rfl
 have F13:=aQ (st:=kO) l13 c13 WT
 have b13:=F13.binds (ps:=["self"]) fun _ _ _ _ _ _ us hl=>ia us hl fun _=>rfl
 have F14:=aQ (st:=kI) l14 c14 WS
 have b14:=F14.binds (ps:=["self"]) fun _ _ _ _ _ _ us hl=>ia us hl fun _=>rfl
 have F15:=aQ (st:=kN) l15 c15 WR
 have b15:=F15.binds (ps:=["self"]) fun _ _ _ _ _ _ us hl=>ia us hl fun _=>rfl
 have F16:=aQ (st:=kK) l16 c16 WQ
 have b16:=F16.binds (ps:=["self"]) fun _ _ _ _ _ _ us hl=>ia us hl fun _=>rfl
 have F17:=aQ (st:=rL) l17 c17 WO
 have b17:=F17.binds (ps:=["self","sums"]) fun _ _ _ _ _ _ us hl=>fG us hl fun _ _=>rfl
 have F18:=aQ (st:=rE) l18 c18 WN
 have b18:=F18.binds (ps:=["self","sums"]) fun _ _ _ _ _ _ us hl=>fG us hl fun _ _=>rfl
 have F19:=aQ (st:=rJ) l19 c19 WM
 have b19:=F19.binds (ps:=["self","sums"]) fun _ _ _ _ _ _ us hl=>fG us hl fun _ _=>rfl
 have F20:=aQ (st:=rG) kC c20 WL
 have b20:=F20.binds (ps:=["self","sums"]) fun _ _ _ _ _ _ us hl=>fG us hl fun _ _=>rfl
 have F21:=aQ (st:=rM) l21 c21 WK
 have b21:=F21.binds (ps:=["self"]) fun _ _ _ _ _ _ us hl=>ia us hl fun _=>rfl
 have F22:=aQ (st:=rF) l22 c22 WJ
 have b22:=F22.binds (ps:=["self"]) fun _ _ _ _ _ _ us hl=>ia us hl fun _=>rfl
 have F23:=aQ (st:=rK) l23 c23 WI
 have b23:=F23.binds (ps:=["self"]) fun _ _ _ _ _ _ us hl=>ia us hl fun _=>rfl
 have F24:=aQ (st:=rH) l24 c24 WH
 have b24:=F24.binds (ps:=["self"]) fun _ _ _ _ _ _ us hl=>ia us hl fun _=>rfl
 have F25:=aQ (st:=zV) l25 c25 WG
 have b25:=F25.binds (ps:=["self"]) fun _ _ _ _ _ _ us hl=>ia us hl fun _=>rfl
 have F26:=aQ (st:=zS) l26 c26 WE
 have b26:=F26.binds (ps:=["self"]) fun _ _ _ _ _ _ us hl=>ia us hl fun _=>rfl
 have F27:=aQ (st:=zU) l27 c27 WD
 have b27:=F27.binds (ps:=["self"]) fun _ _ _ _ _ _ us hl=>ia us hl fun _=>rfl
 have F28:=aQ (st:=zT) l28 c28 WC
 have b28:=F28.binds (ps:=["self"]) fun _ _ _ _ _ _ us hl=>ia us hl fun _=>rfl
 have F29:=aQ (st:=nD) l29 c29 WB
 have b29:=F29.binds (ps:=["pairs","number"]) fun _ _ _ _ _ _ us hl=>fG us hl fun _ _=>rfl
 have F30:=aQ (st:=nI) l30 c30 WA
 have b30:=F30.binds (ps:=["_law_cell","_law_k"]) fun _ _ _ _ _ _ us hl=>fG us hl fun _ _=>rfl
 have F31:=aQ (st:=jJ) l31 c31 Wz
 have b31:=F31.binds (ps:=["_law_script","_law_k"]) fun _ _ _ _ _ _ us hl=>fG us hl fun _ _=>rfl
 have F32:=aQ (st:=uw) l32 c32 Wy
 have b32:=F32.binds (ps:=["_law_draw","_law_size"]) fun _ _ _ _ _ _ us hl=>fG us hl fun _ _=>rfl
 have F33:=aQ (st:=oU) l33 c33 Wx
 have b33:=F33.binds (ps:=[]) fun _ _ _ _ _ _ us hl=>Yd us hl rfl
 have F34:=aQ (st:=kL) l34 c34 Ww
 have Q4:=F34.binds (ps:=["_law_draw","_law_many"]) fun _ _ _ _ _ _ us hl=>fG us hl fun _ _=>rfl
 have F35:=aQ (st:=iu) l35 c35 Wv
 have b35:=F35.binds (ps:=["total"]) fun _ _ _ _ _ _ us hl=>ia us hl fun _=>rfl
 have F36:=aQ (st:=nO) l36 c36 Wu
 have b36:=F36.binds (ps:=["ones","others"]) fun _ _ _ _ _ _ us hl=>fG us hl fun _ _=>rfl
 have F37:=aQ (st:=um) l37 c37 Wt
 have b37:=F37.binds (ps:=["count"]) fun _ _ _ _ _ _ us hl=>ia us hl fun _=>rfl
 have F38:=aQ (st:=uq) l38 c38 Ws
 have b38:=F38.binds (ps:=["_law_draw","_law_things"]) fun _ _ _ _ _ _ us hl=>fG us hl fun _ _=>rfl
 have F39:=aQ (st:=kJ) l39 c39 Wq
 have b39:=F39.binds (ps:=["_law_draw","_law_things","_law_deep"]) fun _ _ _ _ _ _ us hl=>RZ us hl fun _ _ _=>rfl
 have F40:=aQ (st:=uy) l40 c40 Wo
 have b40:=F40.binds (ps:=["_law_one","_law_numbers"]) fun _ _ _ _ _ _ us hl=>fG us hl fun _ _=>rfl
 have F41:=aQ (st:=iP) l41 c41 Wn
 have b41:=F41.binds (ps:=["_law_told_here","_law_numbers"]) fun _ _ _ _ _ _ us hl=>fG us hl fun _ _=>rfl
 have F42:=aQ (st:=kM) l42 c42 Wm
 have b42:=F42.binds (ps:=["_law_told_here"]) fun _ _ _ _ _ _ us hl=>ia us hl fun _=>rfl
 have F43:=aQ (st:=uv) l43 c43 Wl
 have b43:=F43.binds (ps:=["thing"]) fun _ _ _ _ _ _ us hl=>ia us hl fun _=>rfl
 have F44:=aQ (st:=ir) l44 c44 Wk
 have b44:=F44.binds (ps:=["place"]) fun _ _ _ _ _ _ us hl=>ia us hl fun _=>rfl
 have F45:=aQ (st:=iw) l45 c45 Wj
 have b45:=F45.binds (ps:=["total"]) fun _ _ _ _ _ _ us hl=>ia us hl fun _=>rfl
 have F46:=aQ (st:=dZ) l46 c46 Wi
 have b46:=F46.binds (ps:=["case"]) fun _ _ _ _ _ _ us hl=>ia us hl fun _=>rfl
 have F47:=aQ (st:=ig) l47 c47 Wh
 have b47:=F47.binds (ps:=["case"]) fun _ _ _ _ _ _ us hl=>ia us hl fun _=>rfl
 have F48:=aQ (st:=nv) l48 c48 Wg
 have b48:=F48.binds (ps:=["cases","condition"]) fun _ _ _ _ _ _ us hl=>fG us hl fun _ _=>rfl
 have F49:=aQ (st:=nH) l49 c49 Wf
 have b49:=F49.binds (ps:=["debt"]) fun _ _ _ _ _ _ us hl=>ia us hl fun _=>rfl
 have F50:=aQ (st:=nP) l50 c50 We
 have b50:=F50.binds (ps:=["_law_draw","_law_things"]) fun _ _ _ _ _ _ us hl=>fG us hl fun _ _=>rfl
 have F51:=aQ (st:=jH) l51 c51 Wd
 have b51:=F51.binds (ps:=["_law_rows","_law_numbers"]) fun _ _ _ _ _ _ us hl=>fG us hl fun _ _=>rfl
 have F52:=aQ (st:=nL) l52 c52 Wc
 have b52:=F52.binds (ps:=["_law_rows","_law_told_here"]) fun _ _ _ _ _ _ us hl=>fG us hl fun _ _=>rfl
 have F53:=aQ (st:=nJ) l53 c53 Wb
 have b53:=F53.binds (ps:=["_law_cases"]) fun _ _ _ _ _ _ us hl=>ia us hl fun _=>rfl
 have F54:=aQ (st:=uz) l54 c54 Wa
 have b54:=F54.binds (ps:=["_law_cases","_law_numbers"]) fun _ _ _ _ _ _ us hl=>fG us hl fun _ _=>rfl
 have F55:=aQ (st:=iQ) l55 c55 V9
 have b55:=F55.binds (ps:=["_law_told_here","_law_turned"]) fun _ _ _ _ _ _ us hl=>fG us hl fun _ _=>rfl
 have F56:=aQ (st:=nK) l56 c56 V8
 have b56:=F56.binds (ps:=["_law_rows","_law_told_here"]) fun _ _ _ _ _ _ us hl=>fG us hl fun _ _=>rfl
 have F57:=aQ (st:=jG) l57 c57 V7
 have VA:=F57.binds (ps:=["_law_debt_here","_law_rows","_law_told_here","_law_draw"]) fun _ _ _ _ _ _ us hl=>RY us hl fun _ _ _ _=>rfl
 have F58:=aQ (st:=wC) l58 c58 k58
 have F59:=aQ (st:=ny) l59 c59 V6
 have b59:=F59.binds (ps:=["self","words"]) fun _ _ _ _ _ _ us hl=>fG us hl fun _ _=>rfl
 have F60:=aQ (st:=jF) l60 c60 k60
 have b60:=F60.binds (ps:=["self","words"]) fun _ _ _ _ _ _ us hl=>fG us hl fun _ _=>rfl
 refine ⟨PySem.W.fnOf "law" "law" (aF wC) (av wC) (aj wC) .none Ti UB SH VD QW UD,fun s v=>.of_eq rfl,fun base _ _=>?_⟩
 have v8:Mr l.prog w K mg base 1 Z.s ["self","terms","number"] (kG Z.s):=⟨f1,_,LM F1 T ,⟨IQ,a1,i1,Jw⟩,b1⟩
 have Nm:Mt l.prog w K mg base 1 Z.s "value" ["self","numbers"] (xZ Z.s):=⟨f2,_,Ic F2 T ,⟨a2,i2,k2⟩,b2⟩
 have vY:Dn l.prog w K mg base 3 "sum_of" ["pairs","number"] (oH Z.s):=⟨XF,_,Eu F29 T v8,PySem.W.mg_of X G a29,WB,b29⟩
 have Rj:Mt l.prog w K mg base 4 Z.s "plus" ["self","other"] (Bv Z.s):=⟨f3,_,LB F3 T vY,⟨a3,i3,k3⟩,b3⟩
 have Ej:Mt l.prog w K mg base 4 Z.s "times" ["self","number"] (sO Z.s):=⟨f4,_,Ih F4 T vY,⟨a4,i4,k4⟩,b4⟩
 have KJ:Mt l.prog w K mg base 5 Z.s "less" ["self","other"] (tY Z.s):=⟨f5,_,LK F5 T Rj Ej,⟨a5,i5,k5⟩,b5⟩
 have A4:Mt l.prog w K mg base 5 Z.s "put_in" ["self","sums"] (tX Z.s):=⟨f6,_,Ew F6 T Ej vY,⟨a6,i6,k6⟩,b6⟩
 have Ek:Dn l.prog w K mg base 1 "_law_mixed" ["_law_cell","_law_k"] sQ:=⟨XE,_,Ip F30 T ,PySem.W.mg_of X G a30,WA,b30⟩
 have Fq:Dn l.prog w K mg base 2 "_law_cell_at" ["_law_script","_law_k"] (Bx K):=⟨XD,_,BK F31 T Ek,PySem.W.mg_of X G a31,Wz,b31⟩
 have rj:Dn l.prog w K mg base 2 "_law_next" ["_law_draw","_law_size"] jB:=⟨f32,_,LG F32 T Ek,PySem.W.mg_of X G a32,Wy,b32⟩
 have Rp:Dn l.prog w K mg base 1 "_law_kept" [] yi:=⟨XA,_,LL F33 T ,PySem.W.mg_of X G a33,Wx,b33⟩
 have Nq:Dn l.prog w K mg base 3 "_law_names" ["_law_draw","_law_many"] ye:=⟨Xz,_,Io F34 T rj Rp,PySem.W.mg_of X G a34,Ww,Q4⟩
 have Nn:Mt l.prog w K mg base 1 Z.s "told" ["self"] (yb Z.s):=⟨f7,_,Ii (n:=0) F7 T U ,⟨a7,i7,k7⟩,b7⟩
 have zx:Mr l.prog w K mg base 1 Z.c ["self","one","sign","other"] (iM Z):=⟨f9,_,IA (n:=0) F9 T U ,⟨IV,a9,i9,Jz⟩,b9⟩
 have Ei:Mr l.prog w K mg base 1 Z.t ["self","condition"] (l0 Z):=⟨Ul,_,Ig (n:=0) wK T U ,⟨IP,a10,i10,Jv⟩,ou⟩
 have zu:Mr l.prog w K mg base 1 Z.e ["self","conditions"] (dD Z.e):=⟨Uk,_,Iw (n:=0) F11 T U ,⟨IU,a11,i11,Jy⟩,b11⟩
 have zq:Mr l.prog w K mg base 1 Z.o ["self","conditions"] (dD Z.o):=⟨Uj,_,Im (n:=0) F12 T U ,⟨IT,a12,i12,Jx⟩,b12⟩
 have Fp:Dn l.prog w K mg base 6 "less_one" ["total"] (mh Z.s):=⟨Xy,_,BJ (n:=0) F35 T U v8 KJ,PySem.W.mg_of X G a35,Wv,b35⟩
 have Nl:∃ fd,bu l.prog w K mg base dX 1 Qv fd ["self","words"] (lZ TM)∧Binds K fd ["self","words"] []:=⟨_,HZ (n:=0) F59 T U XT ,b59⟩
 have KC:∃ fd,bu l.prog w K mg base dX 2 RM fd ["self","words"] (lZ TM)∧Binds K fd ["self","words"] []:=⟨_,Et (n:=0) F60 T U XT Nl,b60⟩
 have KD:FI l.prog w K mg base TM 4 "refuse_too_many" ["count"] (tV TM):=⟨Xw,_,Lz (n:=0) F37 T U XT Rn KC,PySem.W.mg_of X G a37,Wt,b37⟩
 have El:FI l.prog w K mg base TM 5 "cases_of_both" ["ones","others"] (oJ Z TM):=⟨Xx,_,IB (n:=0) F36 T U XT KD,PySem.W.mg_of X G a36,Wu,b36⟩
 have KN:Mr l.prog w K mg base 1 Db ["self","kind","at","ahead","condition"] (GZ Db):=⟨f8,_,EB (n:=0) F8 T U XT W ,⟨IM,a8,i8,Ju⟩,b8⟩
 have Rm:Dn l.prog w K mg base 3 "once" ["thing"] (Bw Z.s):=⟨Xs,_,LF (n:=0) F43 T U XT v8,PySem.W.mg_of X G a43,Wl,b43⟩
 have Fo:Dn l.prog w K mg base 1 "unknown" ["place"] GY:=⟨Xr,_,BI (n:=0) F44 T U XT ,PySem.W.mg_of X G a44,Wk,b44⟩
 have CW:Dn l.prog w K mg base 1 "is_never" ["total"] (yd Z.s):=⟨Xq,_,Ad (n:=0) F45 T U XT ,PySem.W.mg_of X G a45,Wj,b45⟩
 have vZ:Dn l.prog w K mg base 2 "is_never_met" ["case"] (nj Z.s):=⟨Xp,_,se (n:=0) F46 T U XT CW,PySem.W.mg_of X G a46,Wi,b46⟩
 have sM:Dn l.prog w K mg base 1 "without_plain" ["case"] (qz Z.s):=⟨Xo,_,qM (n:=0) F47 T U XT ,PySem.W.mg_of X G a47,Wh,b47⟩
 have KH:Dn l.prog w K mg base 3 "_law_sum" ["_law_draw","_law_things"] tW:=⟨Xv,_,LA (n:=0) F38 T U XT rj,PySem.W.mg_of X G a38,Ws,b38⟩
 have KG:Dn l.prog w K mg base 1 "_law_value" ["_law_one","_law_numbers"] tZ:=⟨Xu,_,LI (n:=0) F40 T U XT ,PySem.W.mg_of X G a40,Wo,b40⟩
 have Nr:Dn l.prog w K mg base 1 "_law_told" ["_law_cases"] (ya Z):=⟨Xi,_,Iq (n:=0) F53 T U XT ,PySem.W.mg_of X G a53,Wb,b53⟩
 have Ro:Dn l.prog w K mg base 2 "_law_met" ["_law_cases","_law_numbers"] (yg Z):=⟨Xh,_,LJ (n:=0) F54 T U XT Nm,PySem.W.mg_of X G a54,Wa,b54⟩
 have NB:=Ko (P:=l.prog) (w:=w) (base:=base) (Z:=Z) T U F13 ⟨a13,i13,WT⟩ b13 F14 ⟨a14,i14,WS⟩ b14 F15 ⟨a15,i15,WR⟩ b15 F16 ⟨a16,i16,WQ⟩ b16 Nn
 have Ft:=CM (P:=l.prog) (w:=w) (base:=base) (Z:=Z) T U F17 ⟨a17,i17,WO⟩ b17 F18 ⟨a18,i18,WN⟩ b18 F19 ⟨a19,i19,WM⟩ b19 F20 ⟨a20,i20,WL⟩ b20 A4 zx Ei zu zq
 have rX:=zk (P:=l.prog) (w:=w) (base:=base) (Z:=Z) T U F21 ⟨a21,i21,WK⟩ b21 F22 ⟨a22,i22,WJ⟩ b22 F23 ⟨a23,i23,WI⟩ b23 F24 ⟨a24,i24,WH⟩ b24 zx Rk zq zu
 have KO:=Fg (P:=l.prog) (w:=w) (base:=base) (Z:=Z) T U XT F25 ⟨a25,i25,WG⟩ b25 F26 ⟨a26,i26,WE⟩ b26 F27 ⟨a27,i27,WD⟩ b27 F28 ⟨a28,i28,WC⟩ b28 KJ Fp El KD rX
 have A6:=Ff (P:=l.prog) (w:=w) (base:=base) (Z:=Z) T U XT F39 (PySem.W.mg_of X G a39) Wq b39 rj KH
 have NC:=Kq (P:=l.prog) (w:=w) (base:=base) (Z:=Z) T U XT F42 (PySem.W.mg_of X G a42) Wm b42 v8 zx Ei zu zq
 have xQ:=CN (P:=l.prog) (w:=w) (base:=base) (Z:=Z) T U XT F41 (PySem.W.mg_of X G a41) Wn b41 KG
 have Fv:=CO (P:=l.prog) (w:=w) (base:=base) (Z:=Z) T U XT F55 (PySem.W.mg_of X G a55) V9 b55
 have Nk:FI l.prog w K mg base TM 20 "cases_with" ["cases","condition"] (xY Z TM):=⟨Xn,_,HY (n:=0) F48 T U XT (KO 3) vZ sM El,PySem.W.mg_of X G a48,Wg,b48⟩
 have Np:FI l.prog w K mg base TM 21 "owed" ["debt"] (yc Z Db TM):=⟨Xm,_,Ik (n:=0) F49 T U XT W Rm Fo A4 (Ft 3) (rX 3) Nk,PySem.W.mg_of X G a49,Wf,b49⟩
 have Nv:Dn l.prog w K mg base 8 "_law_ahead" ["_law_draw","_law_things"] uc:=⟨Xl,_,IC (n:=0) F50 T U XT rj KH (A6 2),PySem.W.mg_of X G a50,We,b50⟩
 have KL:Dn l.prog w K mg base 6 "_law_along" ["_law_rows","_law_numbers"] t9:=⟨Xk,_,EA (n:=0) F51 T U XT KG (xQ 3),PySem.W.mg_of X G a51,Wd,b51⟩
 have Nu:Dn l.prog w K mg base 8 "_law_debt" ["_law_rows","_law_told_here"] (yh Z Db):=⟨Xj,_,Iu (n:=0) F52 T U XT W v8 (NC 3) KN,PySem.W.mg_of X G a52,Wc,b52⟩
 have Nt:Ri l.prog w K mg base 8 "_law_most" ["_law_rows","_law_told_here"] yf:=⟨Xg,_,Ir (n:=0) F56 T U XT (Fv 3),PySem.W.mg_of X G a56,V8,b56⟩
 have KI:Dn l.prog w K mg base 22 "_law_right" ["_law_debt_here","_law_rows","_law_told_here","_law_draw"] (qA Z Db):=⟨Xf,_,Ex (n:=0) F57 T U XT W Np Nt rj KL Ro (xQ 3) Nr,PySem.W.mg_of X G a57,V7,VA⟩
 exact Pn (n:=3) F58 T U XT W Fq rj Nq Nv (A6 2) Nu KI (NB 3)
theorem walk {l:PySem.W.OpenLaw} {q:Program} {loose:List Str} {XP:(Str→Option Value)→Heap→Prop} {YP:World→Heap→Prop} {d:DefRec} {K:Params→PySem.W.Frag} (hn:l.most=some 63) (hdf:d.params.defaults=[])
  (hY:∀ (w:World) (h:Heap),YP w h→(K w.params).In h)
  (F:∀ (w:World) (mg:Str→Option Value) (fa:Addr) (h:Heap),(K w.params).In h→h.Ns mainGlobals mg→mg d.name=some (.ref fa) →
   ∃ fd:FuncData,(∀ (s:Shared) (u:Value),BindsTo s fd ⟨[u],[]⟩ [("_law_script",u)])∧∀ base:Heap,(K w.params).In base→base.Ns mainGlobals mg→bu l.prog w (K w.params) mg base dX 23 fa fd ["_law_script"] (Df (K w.params))) :
  PySem.W.WalkO q loose XP YP l.row.toRowW d [] (fun f vs=>PySem.call f vs) :=
 L2.KZ (n:=63) (k:=23) (x:="_law_script") (CX:=fun _=>dX) (sp:=fun w=>Df (K w.params)) hn (by decide) hdf ⟨rfl,by decide,by decide⟩ hY F (fun _ _ a ns hl _ hS=>⟨a,ns,rfl,hS,hl,fun _=>rfl⟩) fun _ _ _ _ _ z=>z
end Hw
open PySem PySem.W PyProof.Rows
def PySem.W.Fast.tw10939068161975789180:Nat:=0
def PySem.W.Fast.tw7110086965494314272:Nat:=0
def PySem.W.Fast.tw9825931710504586111:Nat:=0
def PySem.W.Fast.tw8218410707139652210:Nat:=0
def PySem.W.Fast.tw14378379494078531138:Nat:=0
def PySem.W.Fast.tw6021619560946781502:Nat:=0
def PySem.W.Fast.tw12977212874292000869:Nat:=0
def PySem.W.Fast.tw15787358773271557212:Nat:=0
def PySem.W.Fast.tw17660762454564326872:Nat:=0
def PySem.W.Fast.tw2629629591292834097:Nat:=0
def PySem.W.Fast.tw6963412286280869136:Nat:=0
def PySem.W.Fast.tw14305826120393730312:Nat:=0
def PySem.W.Fast.tw8221893056435674349:Nat:=0
def PySem.W.Fast.tw10463336171568308075:Nat:=0
def PySem.W.Fast.tw17758904059551155439:Nat:=0
def PySem.W.Fast.tw15693832237848171890:Nat:=0
def PySem.W.Fast.tw6377410973310705517:Nat:=0
def PySem.W.Fast.tw12609550286935596936:Nat:=0
def PySem.W.Fast.tw14897450317573024033:Nat:=0
def PySem.W.Fast.tw18097344953905190415:Nat:=0
def PySem.W.Fast.tw10135866561415787594:Nat:=0
def PySem.W.Fast.tw18361291002562902318:Nat:=0
def PySem.W.Fast.tw377966924985841793:Nat:=0
def PySem.W.Fast.tw12442571127418015912:Nat:=0
def PySem.W.Fast.tw1702217208367336821:Nat:=0
def PySem.W.Fast.tw15121171553697089495:Nat:=0
def PySem.W.Fast.tw7741570478567104297:Nat:=0
def PySem.W.Fast.tw1609884023603616398:Nat:=0
def PySem.W.Fast.tw12181854464072148683:Nat:=0
def PySem.W.Fast.tw14769663466307563199:Nat:=0
def PySem.W.Fast.tw17894846065377370631:Nat:=0
def PySem.W.Fast.tw11803597305489425710:Nat:=0
def PySem.W.Fast.tw14785084546242257097:Nat:=0
def PySem.W.Fast.tw3988318564293295681:Nat:=0
def PySem.W.Fast.tw13383252784874530150:Nat:=0
def PySem.W.Fast.tw12719004246048829680:Nat:=0
def PySem.W.Fast.tw5789185652827383342:Nat:=0
def PySem.W.Fast.tw11534839214413451367:Nat:=0
def PySem.W.Fast.tw508971679727657277:Nat:=0
def PySem.W.Fast.tw10127920167940758454:Nat:=0
def PySem.W.Fast.tw10219507313547862205:Nat:=0
def PySem.W.Fast.tw14772398703897023673:Nat:=0
def PySem.W.Fast.tw8384297599427017010:Nat:=0
def PySem.W.Fast.tw2189387787813271091:Nat:=0
def PySem.W.Fast.tw10718749945415755930:Nat:=0
def PySem.W.Fast.tw13132486507552625448:Nat:=0
def PySem.W.Fast.tw13287691608780751009:Nat:=0
def PySem.W.Fast.tw4808617378793714714:Nat:=0
def PySem.W.Fast.tw17762694598253554295:Nat:=0
def PySem.W.Fast.tw15422462925204772265:Nat:=0
def PySem.W.Fast.tw3190248839235814719:Nat:=0
def PySem.W.Fast.tw2382601587043359801:Nat:=0
def PySem.W.Fast.tw6979068641365191595:Nat:=0
def PySem.W.Fast.tw1548019600134667317:Nat:=0
def PySem.W.Fast.tw6822462614851029804:Nat:=0
def PySem.W.Fast.tw4229590356346963399:Nat:=0
def PySem.W.Fast.tw16462970027632115161:Nat:=0
def PySem.W.Fast.tw12831245093429036138:Nat:=0
def PySem.W.Fast.tw9895716036338434785:Nat:=0
def PySem.W.Fast.tw1204740350799798101:Nat:=0
def PySem.W.Fast.tw9212828948348344912:Nat:=0
def PySem.W.Fast.tw16722764994475162743:Nat:=0
def PySem.W.Fast.tw18136831585954818627:Nat:=0
def PySem.W.Fast.tw9504872672284258460:Nat:=0
def PySem.W.Fast.tw7513646612344908233:Nat:=0
def PySem.W.Fast.tw12359781952900333768:Nat:=0
def PySem.W.Fast.tw10541664602216776772:Nat:=0
def PySem.W.Fast.tw3195920739408489609:Nat:=0
def PySem.W.Fast.tw970649819319368115:Nat:=0
def PySem.W.Fast.tw8401517493991625090:Nat:=0
def PySem.W.Fast.tw12012623200567214498:Nat:=0
def PySem.W.Fast.tw16808467148074597115:Nat:=0
def PySem.W.Fast.tw10937934605105433590:Nat:=0
def PySem.W.Fast.tw1962464351678555057:Nat:=0
def PySem.W.Fast.tw7151205440457553416:Nat:=0
def PySem.W.Fast.tw8320842688494132026:Nat:=0
def PySem.W.Fast.tw16524752029398536158:Nat:=0
def PySem.W.Fast.tw712352119590272872:Nat:=0
def PySem.W.Fast.tw359461767333227682:Nat:=0
def PySem.W.Fast.tw12664189849023317806:Nat:=0
def PySem.W.Fast.tw16563708503456566644:Nat:=0
def PySem.W.Fast.tw7355665319935349249:Nat:=0
def PySem.W.Fast.tw3530665310629858039:Nat:=0
def PySem.W.Fast.tw5425640423170077946:Nat:=0
def PySem.W.Fast.tw15468663071534596304:Nat:=0
def PySem.W.Fast.tw6682779743086372947:Nat:=0
def PySem.W.Fast.tw17569761275109437812:Nat:=0
def PySem.W.Fast.tw7077795576554156073:Nat:=0
def PySem.W.Fast.tw18108408726991544036:Nat:=0
def PySem.W.Fast.tw7544648395505779604:Nat:=0
def PySem.W.Fast.tw9989043102537684982:Nat:=0
def PySem.W.Fast.tw5829362993222864462:Nat:=0
def PySem.W.Fast.tw13362197863070395538:Nat:=0
def PySem.W.Fast.tw264495960697238936:Nat:=0
def PySem.W.Fast.tw8046676996830678690:Nat:=0
def PySem.W.Fast.tw6774929868899383637:Nat:=0
def PySem.W.Fast.tw6784014086668667437:Nat:=0
def PySem.W.Fast.tw2654415021558956051:Nat:=0
def PySem.W.Fast.tw653656932571174522:Nat:=0
def PySem.W.Fast.tw15964810411222489494:Nat:=0
def PySem.W.Fast.tw11187570347926258907:Nat:=0
def PySem.W.Fast.tw10646482581452850336:Nat:=0
def PySem.W.Fast.tw4768170563710895528:Nat:=0
def PySem.W.Fast.tw287495125192718547:Nat:=0
def PySem.W.Fast.tw10198309949801889315:Nat:=0
def PySem.W.Fast.tw16458768062433032627:Nat:=0
def PySem.W.Fast.tw6582277890240529278:Nat:=0
def PySem.W.Fast.tw14379097294891263685:Nat:=0
def PySem.W.Fast.tw5487242584175213272:Nat:=0
def PySem.W.Fast.tw10547108437353513276:Nat:=0
set_option maxRecDepth 100000 in
set_option maxHeartbeats 0 in
theorem PySem.Challenge.cw_holdwright_k39_debts_plain_holds : PySem.Challenge.rw_holdwright_k39_debts_plain.Holds := by
 w_on;o_law;k_head;(case hw=>w_witness2)
 k_fill
 refine Hw.walk (l:=PySem.Challenge.rw_holdwright_k39_debts_plain) rfl rfl (fun w h Y=>PySem.W.kIn_of Y) ?F
 case F =>
  intro w mg fa h KX G hmg
  refine' Hw.all_mk KX G hmg ?Qf ?HH ?JG ?Hv ?G2 ?IQ ?Jw ?Qi ?HL ?JJ ?Hz ?G5 ?IV ?Jz ?Qe ?HG ?JF ?Hu ?G1 ?IP ?Jv ?Qh ?HK ?JI ?Hy ?G4 ?IU ?Jy ?Qg ?HJ ?JH ?Hx ?G3 ?IT ?Jx ?Qd ?HF ?JE ?Ht ?G0 ?IM ?Ju ?Qa ?Gb ?Bf ?Bh ?Bm ?Bk ?FU ?GH ?Gi ?GC ?Qc ?Gf ?Bg ?Bj ?Bo ?Bl ?FW ?GI ?Gj ?GD ?a1 ?i1 ?l1 ?c1 ?k1 ?a2 ?i2 ?l2 ?c2 ?k2 ?a3 ?i3 ?l3 ?c3 ?k3 ?a4 ?i4 ?l4 ?c4 ?k4 ?a5 ?i5 ?l5 ?c5 ?k5 ?a6 ?i6 ?l6 ?c6 ?k6 ?a7 ?i7 ?l7 ?c7 ?k7 ?a8 ?i8 ?l8 ?c8 ?k8 ?a9 ?i9 ?l9 ?c9 ?k9 ?a10 ?i10 ?l10 ?c10 ?k10 ?a11 ?i11 ?l11 ?c11 ?k11 ?a12 ?i12 ?l12 ?c12 ?k12 ?a13 ?i13 ?l13 ?c13 ?WT ?a14 ?i14 ?l14 ?c14 ?WS ?a15 ?i15 ?l15 ?c15 ?WR ?a16 ?i16 ?l16 ?c16 ?WQ ?a17 ?i17 ?l17 ?c17 ?WO ?a18 ?i18 ?l18 ?c18 ?WN ?a19 ?i19 ?l19 ?c19 ?WM ?a20 ?i20 ?kC ?c20 ?WL ?a21 ?i21 ?l21 ?c21 ?WK ?a22 ?i22 ?l22 ?c22 ?WJ ?a23 ?i23 ?l23 ?c23 ?WI ?a24 ?i24 ?l24 ?c24 ?WH ?a25 ?i25 ?l25 ?c25 ?WG ?a26 ?i26 ?l26 ?c26 ?WE ?a27 ?i27 ?l27 ?c27 ?WD ?a28 ?i28 ?l28 ?c28 ?WC ?a29 ?l29 ?c29 ?WB ?a30 ?l30 ?c30 ?WA ?a31 ?l31 ?c31 ?Wz ?a32 ?l32 ?c32 ?Wy ?a33 ?l33 ?c33 ?Wx ?a34 ?l34 ?c34 ?Ww ?a35 ?l35 ?c35 ?Wv ?a36 ?l36 ?c36 ?Wu ?a37 ?l37 ?c37 ?Wt ?a38 ?l38 ?c38 ?Ws ?a39 ?l39 ?c39 ?Wq ?a40 ?l40 ?c40 ?Wo ?a41 ?l41 ?c41 ?Wn ?a42 ?l42 ?c42 ?Wm ?a43 ?l43 ?c43 ?Wl ?a44 ?l44 ?c44 ?Wk ?a45 ?l45 ?c45 ?Wj ?a46 ?l46 ?c46 ?Wi ?a47 ?l47 ?c47 ?Wh ?a48 ?l48 ?c48 ?Wg ?a49 ?l49 ?c49 ?Wf ?a50 ?l50 ?c50 ?We ?a51 ?l51 ?c51 ?Wd ?a52 ?l52 ?c52 ?Wc ?a53 ?l53 ?c53 ?Wb ?a54 ?l54 ?c54 ?Wa ?a55 ?l55 ?c55 ?V9 ?a56 ?l56 ?c56 ?V8 ?a57 ?l57 ?c57 ?V7 ?a58 ?l58 ?c58 ?k58 ?l59 ?c59 ?V6 ?l60 ?c60 ?k60 ?nX ?kY ?uP ?qO ?nY ?iC ?gR ?gQ ?qN ?yD ?nW ?iB ?FN ?FJ ?tL ?Bd ?xR ?jx ?xS ?FT ?FL ?FO ?Be ?FQ ?FP ?jy ?OF ?OE ?Bq ?Bp ?Ov ?Ou ?Ow ?Ox ?GJ ?OB ?OA ?OC
  (case Qf=>k_is)
  (case Qi=>k_is)
  (case Qe=>k_is)
  (case Qh=>k_is)
  (case Qg=>k_is)
  (case Qd=>k_is)
  (case Qa=>k_is)
  (case Qc=>k_is)
  (case Gb=>k_is)
  (case Gf=>k_is)
  (case Bh=>k_is)
  (case Bj=>k_is)
  (case HH=>k_is)
  (case JG=>k_is)
  (case Hv=>k_is)
  (case G2=>k_is)
  (case IQ=>k_is)
  (case Jw=>k_is)
  (case HL=>k_is)
  (case JJ=>k_is)
  (case Hz=>k_is)
  (case G5=>k_is)
  (case IV=>k_is)
  (case Jz=>k_is)
  (case HG=>k_is)
  (case JF=>k_is)
  (case Hu=>k_is)
  (case G1=>k_is)
  (case IP=>k_is)
  (case Jv=>k_is)
  (case HK=>k_is)
  (case JI=>k_is)
  (case Hy=>k_is)
  (case G4=>k_is)
  (case IU=>k_is)
  (case Jy=>k_is)
  (case HJ=>k_is)
  (case JH=>k_is)
  (case Hx=>k_is)
  (case G3=>k_is)
  (case IT=>k_is)
  (case Jx=>k_is)
  (case HF=>k_is)
  (case JE=>k_is)
  (case Ht=>k_is)
  (case G0=>k_is)
  (case IM=>k_is)
  (case Ju=>k_is)
  (case Bf=>kernel_rfl)
  (case Bm=>k_is)
  (case Bk=>k_is)
  (case FU=>kernel_rfl)
  (case GH=>kernel_rfl)
  (case Gi=>kernel_rfl)
  (case GC=>kernel_rfl)
  (case Bg=>kernel_rfl)
  (case Bo=>k_is)
  (case Bl=>k_is)
  (case FW=>kernel_rfl)
  (case GI=>kernel_rfl)
  (case Gj=>kernel_rfl)
  (case GD=>kernel_rfl)
  (case a1=>k_is)
  (case i1=>k_is)
  (case l1=>k_is)
  (case c1=>k_is)
  (case k1=>k_is)
  (case a2=>k_is)
  (case i2=>k_is)
  (case l2=>k_is)
  (case c2=>k_is)
  (case k2=>k_is)
  (case a3=>k_is)
  (case i3=>k_is)
  (case l3=>k_is)
  (case c3=>k_is)
  (case k3=>k_is)
  (case a4=>k_is)
  (case i4=>k_is)
  (case l4=>k_is)
  (case c4=>k_is)
  (case k4=>k_is)
  (case a5=>k_is)
  (case i5=>k_is)
  (case l5=>k_is)
  (case c5=>k_is)
  (case k5=>k_is)
  (case a6=>k_is)
  (case i6=>k_is)
  (case l6=>k_is)
  (case c6=>k_is)
  (case k6=>k_is)
  (case a7=>k_is)
  (case i7=>k_is)
  (case l7=>k_is)
  (case c7=>k_is)
  (case k7=>k_is)
  (case a8=>k_is)
  (case i8=>k_is)
  (case l8=>k_is)
  (case c8=>k_is)
  (case k8=>k_is)
  (case a9=>k_is)
  (case i9=>k_is)
  (case l9=>k_is)
  (case c9=>k_is)
  (case k9=>k_is)
  (case a10=>k_is)
  (case i10=>k_is)
  (case l10=>k_is)
  (case c10=>k_is)
  (case k10=>k_is)
  (case a11=>k_is)
  (case i11=>k_is)
  (case l11=>k_is)
  (case c11=>k_is)
  (case k11=>k_is)
  (case a12=>k_is)
  (case i12=>k_is)
  (case l12=>k_is)
  (case c12=>k_is)
  (case k12=>k_is)
  (case a13=>k_is)
  (case i13=>k_is)
  (case l13=>k_is)
  (case c13=>k_is)
  (case WT=>k_is)
  (case a14=>k_is)
  (case i14=>k_is)
  (case l14=>k_is)
  (case c14=>k_is)
  (case WS=>k_is)
  (case a15=>k_is)
  (case i15=>k_is)
  (case l15=>k_is)
  (case c15=>k_is)
  (case WR=>k_is)
  (case a16=>k_is)
  (case i16=>k_is)
  (case l16=>k_is)
  (case c16=>k_is)
  (case WQ=>k_is)
  (case a17=>k_is)
  (case i17=>k_is)
  (case l17=>k_is)
  (case c17=>k_is)
  (case WO=>k_is)
  (case a18=>k_is)
  (case i18=>k_is)
  (case l18=>k_is)
  (case c18=>k_is)
  (case WN=>k_is)
  (case a19=>k_is)
  (case i19=>k_is)
  (case l19=>k_is)
  (case c19=>k_is)
  (case WM=>k_is)
  (case a20=>k_is)
  (case i20=>k_is)
  (case kC=>k_is)
  (case c20=>k_is)
  (case WL=>k_is)
  (case a21=>k_is)
  (case i21=>k_is)
  (case l21=>k_is)
  (case c21=>k_is)
  (case WK=>k_is)
  (case a22=>k_is)
  (case i22=>k_is)
  (case l22=>k_is)
  (case c22=>k_is)
  (case WJ=>k_is)
  (case a23=>k_is)
  (case i23=>k_is)
  (case l23=>k_is)
  (case c23=>k_is)
  (case WI=>k_is)
  (case a24=>k_is)
  (case i24=>k_is)
  (case l24=>k_is)
  (case c24=>k_is)
  (case WH=>k_is)
  (case a25=>k_is)
  (case i25=>k_is)
  (case l25=>k_is)
  (case c25=>k_is)
  (case WG=>k_is)
  (case a26=>k_is)
  (case i26=>k_is)
  (case l26=>k_is)
  (case c26=>k_is)
  (case WE=>k_is)
  (case a27=>k_is)
  (case i27=>k_is)
  (case l27=>k_is)
  (case c27=>k_is)
  (case WD=>k_is)
  (case a28=>k_is)
  (case i28=>k_is)
  (case l28=>k_is)
  (case c28=>k_is)
  (case WC=>k_is)
  (case a29=>k_is)
  (case l29=>k_is)
  (case c29=>k_is)
  (case WB=>k_is)
  (case a30=>k_is)
  (case l30=>k_is)
  (case c30=>k_is)
  (case WA=>k_is)
  (case a31=>k_is)
  (case l31=>k_is)
  (case c31=>k_is)
  (case Wz=>k_is)
  (case a32=>k_is)
  (case l32=>k_is)
  (case c32=>k_is)
  (case Wy=>k_is)
  (case a33=>k_is)
  (case l33=>k_is)
  (case c33=>k_is)
  (case Wx=>k_is)
  (case a34=>k_is)
  (case l34=>k_is)
  (case c34=>k_is)
  (case Ww=>k_is)
  (case a35=>k_is)
  (case l35=>k_is)
  (case c35=>k_is)
  (case Wv=>k_is)
  (case a36=>k_is)
  (case l36=>k_is)
  (case c36=>k_is)
  (case Wu=>k_is)
  (case a37=>k_is)
  (case l37=>k_is)
  (case c37=>k_is)
  (case Wt=>k_is)
  (case a38=>k_is)
  (case l38=>k_is)
  (case c38=>k_is)
  (case Ws=>k_is)
  (case a39=>k_is)
  (case l39=>k_is)
  (case c39=>k_is)
  (case Wq=>k_is)
  (case a40=>k_is)
  (case l40=>k_is)
  (case c40=>k_is)
  (case Wo=>k_is)
  (case a41=>k_is)
  (case l41=>k_is)
  (case c41=>k_is)
  (case Wn=>k_is)
  (case a42=>k_is)
  (case l42=>k_is)
  (case c42=>k_is)
  (case Wm=>k_is)
  (case a43=>k_is)
  (case l43=>k_is)
  (case c43=>k_is)
  (case Wl=>k_is)
  (case a44=>k_is)
  (case l44=>k_is)
  (case c44=>k_is)
  (case Wk=>k_is)
  (case a45=>k_is)
  (case l45=>k_is)
  (case c45=>k_is)
  (case Wj=>k_is)
  (case a46=>k_is)
  (case l46=>k_is)
  (case c46=>k_is)
  (case Wi=>k_is)
  (case a47=>k_is)
  (case l47=>k_is)
  (case c47=>k_is)
  (case Wh=>k_is)
  (case a48=>k_is)
  (case l48=>k_is)
  (case c48=>k_is)
  (case Wg=>k_is)
  (case a49=>k_is)
  (case l49=>k_is)
  (case c49=>k_is)
  (case Wf=>k_is)
  (case a50=>k_is)
  (case l50=>k_is)
  (case c50=>k_is)
  (case We=>k_is)
  (case a51=>k_is)
  (case l51=>k_is)
  (case c51=>k_is)
  (case Wd=>k_is)
  (case a52=>k_is)
  (case l52=>k_is)
  (case c52=>k_is)
  (case Wc=>k_is)
  (case a53=>k_is)
  (case l53=>k_is)
  (case c53=>k_is)
  (case Wb=>k_is)
  (case a54=>k_is)
  (case l54=>k_is)
  (case c54=>k_is)
  (case Wa=>k_is)
  (case a55=>k_is)
  (case l55=>k_is)
  (case c55=>k_is)
  (case V9=>k_is)
  (case a56=>k_is)
  (case l56=>k_is)
  (case c56=>k_is)
  (case V8=>k_is)
  (case a57=>k_is)
  (case l57=>k_is)
  (case c57=>k_is)
  (case V7=>k_is)
  (case a58=>k_is)
  (case l58=>k_is)
  (case c58=>k_is)
  (case k58=>k_is)
  (case l59=>k_is)
  (case c59=>k_is)
  (case V6=>k_is)
  (case l60=>k_is)
  (case c60=>k_is)
  (case k60=>k_is)
  (case nX=>k_is)
  (case kY=>k_is)
  (case uP=>k_is)
  (case qO=>k_is)
  (case nY=>k_is)
  (case iC=>k_is)
  (case gR=>k_is)
  (case gQ=>k_is)
  (case qN=>k_is)
  (case yD=>k_is)
  (case nW=>k_is)
  (case iB=>k_is)
  (case FN=>k_is)
  (case FJ=>k_is)
  (case tL=>k_is)
  (case Bd=>k_is)
  (case xR=>k_is)
  (case jx=>k_is)
  (case xS=>k_is)
  (case FT=>k_is)
  (case FL=>k_is)
  (case FO=>k_is)
  (case Be=>k_is)
  (case FQ=>k_is)
  (case FP=>k_is)
  (case jy=>k_is)
  (case OF=>k_is)
  (case OE=>k_is)
  (case Bq=>k_is)
  (case Bp=>k_is)
  (case Ov=>k_is)
  (case Ou=>k_is)
  (case Ow=>k_is)
  (case Ox=>k_is)
  (case GJ=>kernel_rfl)
  (case OB=>k_is)
  (case OA=>k_is)
  (case OC=>k_is)
#print axioms PySem.Challenge.cw_holdwright_k39_debts_plain_holds
